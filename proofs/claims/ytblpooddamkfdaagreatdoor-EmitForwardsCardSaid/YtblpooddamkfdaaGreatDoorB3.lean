/- Texts of this seat, one behind another: R8Status, RValue, R8Field, R8ReadB. -/
import Derived.Lib.Hide
import Derived.Below
import Derived.Outline
import Derived.LoopTactic
import Derived.Laws.DeepStrings4
import Derived.Deep.QuietTactic
import Derived.BigQuiet
import Derived.OwnWalk
import Derived.Maps.AppendAt
import Derived.Deep.AppendLies
import Derived.Test.YtblpooddamkfdaaGreatDoorB1
import Derived.Test.YtblpooddamkfdaaGreatDoorB2
import Derived.Test.YtblpooddamkfdaaGreatDoorA1
import Derived.Test.YtblpooddamkfdaaGreatDoorA2
/- Layer 8, the document's own Status. -/
namespace Go.Proofs.YtblpooddamkfdaaGreatDoor.R8Status
open Go.ChangeShapes Go.WideShapes Go.ChangeAt Go.RowKit LexPure Bytes Ret LexNum FieldsPure HeadPure HBox Mem R8End R8Version R8Start RDecimal
set_option maxRecDepth 20000
theorem plain_cases (b : UInt8) : (plainB b = false ∧ ((b.toNat : Int) == 127) = true) ∨ (plainB b = false ∧ ((b.toNat : Int) == 127) = false ∧ (b.toNat : Int) < 32 ∧ ((b.toNat : Int) != 9) = true) ∨ (plainB b = true ∧ ((b.toNat : Int) == 127) = false ∧ (b.toNat : Int) < 32 ∧ ((b.toNat : Int) != 9) = false) ∨ (plainB b = true ∧ ((b.toNat : Int) == 127) = false ∧ ¬ (b.toNat : Int) < 32) := by
  have := all_bytes (p := fun b => decide ((plainB b = false ∧ ((b.toNat : Int) == 127) = true) ∨ (plainB b = false ∧ ((b.toNat : Int) == 127) = false ∧ (b.toNat : Int) < 32 ∧ ((b.toNat : Int) != 9) = true) ∨ (plainB b = true ∧ ((b.toNat : Int) == 127) = false ∧ (b.toNat : Int) < 32 ∧ ((b.toNat : Int) != 9) = false) ∨ (plainB b = true ∧ ((b.toNat : Int) == 127) = false ∧ ¬ (b.toNat : Int) < 32))) (by decide +kernel) b
  exact of_decide_eq_true this
def OkS (l : List UInt8) : Prop := 12 ≤ l.length ∧ l[8]? = some 32 ∧ numOk 10 3 ((l.drop 9).take 3) = true ∧ 100 ≤ numR 10 3 ((l.drop 9).take 3) ∧ numR 10 3 ((l.drop 9).take 3) < 600 ∧ (l.length = 12 ∨ l[12]? = some 32) ∧ (l.drop 13).all plainB = true
theorem status_bad {l : List UInt8} (h : ¬ OkS l) : status8 l = (zero8, 80) := by
  unfold status8
  exact if_neg h
theorem status_good {l : List UInt8} (h : OkS l) : status8 l = if (version8 (l.take 8)).2 = 0 then (⟨[], [], numR 10 3 ((l.drop 9).take 3), l.drop 13, (version8 (l.take 8)).1, []⟩, 0) else (zero8, (version8 (l.take 8)).2) := by
  unfold status8
  exact if_pos h
set_option maxHeartbeats 1600000 in
theorem r8status_any (s : ByteArray) (hs : s.size ≤ 140737488351232) (w : World) :
    Calls Tryz.prog 48 #[.string s] w fun e w' => e = .returned (hrv (status8 (toL s)).1 (.slice none 0 0) (status8 (toL s)).2) ∧ Below w.heap.size w w' := by
  have HO := Lib.hid (HOne.start w)
  obtain ⟨x, hx⟩ : ∃ x, x = status8 (toL s) := ⟨_, rfl⟩
  rw [← hx]
  have HXB : ¬ OkS (toL s) → Hid (x = (zero8, 80)) := fun h => Lib.hid (by rw [hx, status_bad h])
  have HXG : OkS (toL s) → Hid (x = if (version8 ((toL s).take 8)).2 = 0 then (⟨[], [], numR 10 3 (((toL s).drop 9).take 3), (toL s).drop 13, (version8 ((toL s).take 8)).1, []⟩, 0) else (zero8, (version8 ((toL s).take 8)).2)) := fun h => Lib.hid (by rw [hx, status_good h])
  clear hx
  by_cases h1 : 12 ≤ s.size
  rotate_left
  · have hi : (s.size : Int) < 12 := by omega
    have HV := (HXB (fun h => h1 (by have := h.1; rwa [toL_length] at this))).out
    subst HV
    clear HXB HXG
    go_enter Tryz.func48, Tryz.ntmps48
    go_wp2_with fail
    refine bodyPost_ret (v := hrv zero8 (.slice none 0 0) 80) ?_ rfl ⟨rfl, HO.out.below⟩
    rw [results_cell_tmp rfl]
    exact end_hbox rfl rfl HO.out.box
  have hi : ¬ (s.size : Int) < 12 := by omega
  have h8 : (8 : Int) < (s.size : Int) := by omega
  have G8 : (toL s)[8]? = some s[8] := toL_get s 8 (by omega)
  rcases mark_32 s[8] with ⟨c0, c1⟩ | ⟨c0, c1⟩
  rotate_left
  · have HV := (HXB (fun h => c0 (by have := h.2.1; rw [G8] at this; exact Option.some.inj this))).out
    subst HV
    clear HXB HXG G8 c0
    go_enter Tryz.func48, Tryz.ntmps48
    go_wp2_with fail
    refine bodyPost_ret (v := hrv zero8 (.slice none 0 0) 80) ?_ rfl ⟨rfl, HO.out.below⟩
    rw [results_cell_tmp rfl]
    exact end_hbox rfl rfl HO.out.box
  rw [c0] at G8
  have e9 : toL (s.extract 9 12) = ((toL s).drop 9).take 3 := by rw [toL_extract, List.drop_take]
  have HD := Lib.hid (fun w => (rdecimal_any (s.extract 9 12) (by unfold maxLen; rw [ByteArray.size_extract]; omega) 3 w).mono (fun e w' h => (⟨by rw [h.1, e9]; rfl, h.2.symm⟩ : e = .returned (.tuple #[.int .i64 (numR 10 3 (((toL s).drop 9).take 3)), .bool (numOk 10 3 (((toL s).drop 9).take 3))]) ∧ w' = w)))
  have H8 : Hid ((toL s)[8]? = some 32) := Lib.hid G8
  have hu : numR 10 3 (((toL s).drop 9).take 3) = numR 10 3 (((toL s).drop 9).take 3) := rfl
  clear G8 c0 e9 hu
  unfold OkS at HXB HXG
  generalize numR 10 3 (((toL s).drop 9).take 3) = n at *
  generalize numOk 10 3 (((toL s).drop 9).take 3) = ok at *
  go_enter Tryz.func48, Tryz.ntmps48
  go_wp2_with fail
  generalize w.alloc (.cells #[.string ⟨#[]⟩, .string ⟨#[]⟩, .int .i64 0, .string ⟨#[]⟩, .int .i64 0, .slice none 0 0] 25) = W at HO ⊢
  obtain ⟨g, hg⟩ : ∃ g, g = w.heap.size := ⟨_, rfl⟩
  rw [← hg] at HO ⊢
  replace hg := Lib.hid hg
  obtain ⟨d0, d1, d2, d3, d4, d5⟩ := HO.out.box.cells
  obtain ⟨z0, z1, z2, z3, z4, z5⟩ := HO.out.box.frees
  have HE := Lib.hid (HO.out.box.put zero8 (.slice none 0 0))
  have HB := Lib.hid (HO.out.put zero8 (.slice none 0 0))
  cases ok with
  | false =>
    have HV := (HXB (fun h => absurd h.2.2.1 (by decide))).out
    subst HV
    clear HXB HXG HO
    refine (HD.out _).mono ?_
    rintro e w' ⟨rfl, rfl⟩
    go_wp2_with fail
    refine bodyPost_ret (v := hrv zero8 (.slice none 0 0) 80) ?_ rfl ⟨rfl, HB.out⟩
    rw [results_cell_tmp rfl]
    exact end_hbox rfl rfl HE.out
  | true =>
  by_cases h2 : 100 ≤ n
  rotate_left
  · have hj : n < 100 := by omega
    have HV := (HXB (fun h => h2 h.2.2.2.1)).out
    subst HV
    clear HXB HXG HO h2
    refine (HD.out _).mono ?_
    rintro e w' ⟨rfl, rfl⟩
    go_wp2_with fail
    refine bodyPost_ret (v := hrv zero8 (.slice none 0 0) 80) ?_ rfl ⟨rfl, HB.out⟩
    rw [results_cell_tmp rfl]
    exact end_hbox rfl rfl HE.out
  have hj : ¬ n < 100 := by omega
  by_cases h3 : n < 600
  rotate_left
  · have hk : 600 ≤ n := by omega
    have HV := (HXB (fun h => h3 h.2.2.2.2.1)).out
    subst HV
    clear HXB HXG HO h2 h3
    refine (HD.out _).mono ?_
    rintro e w' ⟨rfl, rfl⟩
    go_wp2_with fail
    refine bodyPost_ret (v := hrv zero8 (.slice none 0 0) 80) ?_ rfl ⟨rfl, HB.out⟩
    rw [results_cell_tmp rfl]
    exact end_hbox rfl rfl HE.out
  have hk : ¬ 600 ≤ n := by omega
  replace h2 := Lib.hid h2
  replace h3 := Lib.hid h3
  have e8 : toL (s.extract 0 8) = (toL s).take 8 := by rw [toL_extract, List.drop_zero]
  refine (HD.out _).mono ?_
  rintro e w' ⟨rfl, rfl⟩
  clear HD
  by_cases h4 : s.size = 12
  · have hl : ¬ (12 : Int) < (s.size : Int) := by omega
    have e13 : (toL s).drop 13 = [] := List.drop_eq_nil_of_le (by rw [toL_length]; omega)
    have Hr : Hid (ofL ((toL s).drop 13) = ⟨#[]⟩) := Lib.hid (by rw [e13]; rfl)
    replace HXG := HXG ⟨by rw [toL_length]; exact h1, H8.out, (by trivial), h2.out, h3.out, .inl (by rw [toL_length]; exact h4), by rw [e13]; rfl⟩
    clear e13
    replace h4 := Lib.hid h4
    go_wp2_with fail
    go_loop [7] (fun i => i = .int .i64 0) (fun i => 0)
    case atStart => rfl
    case round =>
      obtain rfl := hrel
      have HV := HXG.out
      have HZ := Lib.hid (fun w => (r8version_any (s.extract 0 8) w).mono (fun e w' h => (⟨h.1, h.2.symm⟩ : e = .returned (.tuple #[.int .i64 (version8 (toL (s.extract 0 8))).1, .int .i64 (version8 (toL (s.extract 0 8))).2]) ∧ w' = w)))
      rw [e8] at HZ
      clear HXB HXG
      generalize version8 ((toL s).take 8) = v at *
      obtain ⟨m, er⟩ := v
      by_cases h6 : er = 0
      · have HV2 : x = (⟨[], [], n, (toL s).drop 13, m, []⟩, 0) := by rw [HV, if_pos h6]
        subst HV2
        subst h6
        have HE := HO.out.box.put ⟨[], [], n, (toL s).drop 13, m, []⟩ (.slice none 0 0)
        have HB := HO.out.put ⟨[], [], n, (toL s).drop 13, m, []⟩ (.slice none 0 0)
        unfold hput at HE HB
        simp only [Hr.out] at HE HB
        replace HE := Lib.hid HE
        replace HB := Lib.hid HB
        clear HV HO
        go_wp2_with fail
        refine (HZ.out _).mono ?_
        rintro e w' ⟨rfl, rfl⟩
        go_wp2_with fail
        refine bodyPost_ret (v := hrv ⟨[], [], n, (toL s).drop 13, m, []⟩ (.slice none 0 0) 0) ?_ rfl ⟨rfl, HB.out⟩
        rw [results_cell_tmp rfl]
        exact end_hbox rfl rfl HE.out
      · have HV2 : x = (zero8, er) := by rw [HV, if_neg h6]
        subst HV2
        have h7 : (er != 0) = true := bne_iff_ne.2 h6
        clear HV HO h6
        go_wp2_with fail
        refine (HZ.out _).mono ?_
        rintro e w' ⟨rfl, rfl⟩
        go_wp2_with fail
        refine bodyPost_ret (v := hrv zero8 (.slice none 0 0) er) ?_ rfl ⟨rfl, HB.out⟩
        rw [results_cell_tmp rfl]
        exact end_hbox rfl rfl HE.out
  · have hl : (12 : Int) < (s.size : Int) := by omega
    have G12 : (toL s)[12]? = some s[12] := toL_get s 12 (by omega)
    rcases mark_32 s[12] with ⟨c2, c3⟩ | ⟨c2, c3⟩
    rotate_left
    · have HV := (HXB (by
        rintro ⟨_, _, _, _, _, h | h, _⟩
        · rw [toL_length] at h; exact h4 h
        · rw [G12] at h; exact c2 (Option.some.inj h))).out
      subst HV
      clear HXB HXG HO G12 c2
      go_wp2_with fail
      refine bodyPost_ret (v := hrv zero8 (.slice none 0 0) 80) ?_ rfl ⟨rfl, HB.out⟩
      rw [results_cell_tmp rfl]
      exact end_hbox rfl rfl HE.out
    rw [c2] at G12
    have H12 := Lib.hid G12
    clear G12 c2
    have eR : toL (s.extract 13 s.size) = (toL s).drop 13 := by rw [toL_extract, toL_take_all s (Nat.le_refl _)]
    have Hr : Hid (ofL ((toL s).drop 13) = s.extract 13 s.size) := Lib.hid (by rw [← eR, ofL_toL])
    replace eR := Lib.hid eR
    replace h4 := Lib.hid h4
    go_wp2_with fail
    have hrs : (s.extract 13 s.size).size ≤ 140737488351232 := by rw [ByteArray.size_extract]; omega
    generalize s.extract 13 s.size = r at *
    go_loop [7] (fun i => ∃ k : Nat, k ≤ r.size ∧ i = .int .i64 k ∧ Hid (((toL r).take k).all plainB = true)) (fun i => r.size - (intOf i).toNat)
    case atStart => exact ⟨0, Nat.zero_le _, rfl, Lib.hid rfl⟩
    case round =>
      obtain ⟨k, hk1, rfl, hq⟩ := hrel
      by_cases hlt : k < r.size
      · have hki : (k : Int) < (r.size : Int) := by omega
        have HT := Lib.hid (toL_take_succ r k hlt)
        have HG := Lib.hid (toL_get r k hlt)
        have HXC : plainB r[k] = false → Hid (x = (zero8, 80)) := fun hp => HXB (by
          rintro ⟨_, _, _, _, _, _, h⟩
          rw [← eR.out] at h
          have := List.all_eq_true.1 h r[k] (List.mem_of_getElem? HG.out)
          rw [hp] at this
          cases this)
        have HQ : plainB r[k] = true → Hid (((toL r).take (k + 1)).all plainB = true) := fun hp => Lib.hid (by
          rw [HT.out, List.all_append, hq.out]
          simp [hp])
        clear HT HG
        rcases plain_cases r[k] with ⟨c0, c1⟩ | ⟨c0, c1, c2, c3⟩ | ⟨c0, c1, c2, c3⟩ | ⟨c0, c1, c2⟩
        · have HV := (HXC c0).out
          subst HV
          clear HXB HXG HO HXC HQ c0
          go_wp2_with fail
          refine bodyPost_ret (v := hrv zero8 (.slice none 0 0) 80) ?_ rfl ⟨rfl, HB.out⟩
          rw [results_cell_tmp rfl]
          exact end_hbox rfl rfl HE.out
        · have HV := (HXC c0).out
          subst HV
          clear HXB HXG HO HXC HQ c0
          go_wp2_with fail
          refine bodyPost_ret (v := hrv zero8 (.slice none 0 0) 80) ?_ rfl ⟨rfl, HB.out⟩
          rw [results_cell_tmp rfl]
          exact end_hbox rfl rfl HE.out
        · replace HQ := HQ c0
          clear HXB HXG HO HXC c0
          go_wp2_with fail
          go_round
          case rel => exact ⟨k + 1, by omega, by go_num, HQ⟩
          case measure => simp [intOf]; omega
        · replace HQ := HQ c0
          clear HXB HXG HO HXC c0
          go_wp2_with fail
          go_round
          case rel => exact ⟨k + 1, by omega, by go_num, HQ⟩
          case measure => simp [intOf]; omega
      · have hki : ¬ (k : Int) < (r.size : Int) := by omega
        replace HXG := HXG ⟨by rw [toL_length]; exact h1, H8.out, (by trivial), h2.out, h3.out, .inr H12.out, by
          rw [← eR.out]
          have := hq.out
          rwa [toL_take_all r (by omega)] at this⟩
        clear hq
        have HV := HXG.out
        have HZ := Lib.hid (fun w => (r8version_any (s.extract 0 8) w).mono (fun e w' h => (⟨h.1, h.2.symm⟩ : e = .returned (.tuple #[.int .i64 (version8 (toL (s.extract 0 8))).1, .int .i64 (version8 (toL (s.extract 0 8))).2]) ∧ w' = w)))
        rw [e8] at HZ
        clear HXB HXG
        generalize version8 ((toL s).take 8) = v at *
        obtain ⟨m, er⟩ := v
        by_cases h6 : er = 0
        · have HV2 : x = (⟨[], [], n, (toL s).drop 13, m, []⟩, 0) := by rw [HV, if_pos h6]
          subst HV2
          subst h6
          have HE := HO.out.box.put ⟨[], [], n, (toL s).drop 13, m, []⟩ (.slice none 0 0)
          have HB := HO.out.put ⟨[], [], n, (toL s).drop 13, m, []⟩ (.slice none 0 0)
          unfold hput at HE HB
          simp only [Hr.out] at HE HB
          replace HE := Lib.hid HE
          replace HB := Lib.hid HB
          clear HV HO
          go_wp2_with fail
          refine (HZ.out _).mono ?_
          rintro e w' ⟨rfl, rfl⟩
          go_wp2_with fail
          refine bodyPost_ret (v := hrv ⟨[], [], n, (toL s).drop 13, m, []⟩ (.slice none 0 0) 0) ?_ rfl ⟨rfl, HB.out⟩
          rw [results_cell_tmp rfl]
          exact end_hbox rfl rfl HE.out
        · have HV2 : x = (zero8, er) := by rw [HV, if_neg h6]
          subst HV2
          have h7 : (er != 0) = true := bne_iff_ne.2 h6
          clear HV HO h6
          go_wp2_with fail
          refine (HZ.out _).mono ?_
          rintro e w' ⟨rfl, rfl⟩
          go_wp2_with fail
          refine bodyPost_ret (v := hrv zero8 (.slice none 0 0) er) ?_ rfl ⟨rfl, HB.out⟩
          rw [results_cell_tmp rfl]
          exact end_hbox rfl rfl HE.out
end Go.Proofs.YtblpooddamkfdaaGreatDoor.R8Status

/- Layer 4, the document's own Value. -/
namespace Go.Proofs.YtblpooddamkfdaaGreatDoor.RValue
open Go.ChangeShapes Go.WideShapes Go.ChangeAt Go.RowKit LexPure Bytes Ret RBlank
set_option maxRecDepth 20000
theorem plain_true {b : UInt8} (h : plainB b = true) : ((b.toNat : Int) == 127) = false ∧ (¬ (b.toNat : Int) < 32 ∨ ((b.toNat : Int) < 32 ∧ ((b.toNat : Int) != 9) = false)) := by
  have := all_bytes (p := fun b => !plainB b || decide (((b.toNat : Int) == 127) = false ∧ (¬ (b.toNat : Int) < 32 ∨ ((b.toNat : Int) < 32 ∧ ((b.toNat : Int) != 9) = false)))) (by decide +kernel) b
  simpa only [h, Bool.not_true, Bool.false_or, decide_eq_true_eq] using this
theorem plain_false {b : UInt8} (h : plainB b = false) : ((b.toNat : Int) == 127) = true ∨ (((b.toNat : Int) == 127) = false ∧ (b.toNat : Int) < 32 ∧ ((b.toNat : Int) != 9) = true) := by
  have := all_bytes (p := fun b => plainB b || decide (((b.toNat : Int) == 127) = true ∨ (((b.toNat : Int) == 127) = false ∧ (b.toNat : Int) < 32 ∧ ((b.toNat : Int) != 9) = true))) (by decide +kernel) b
  simpa only [h, Bool.false_or, decide_eq_true_eq] using this
theorem head_at (s : ByteArray) (h : 0 < s.size) : (toL s).headD 0 = s[0] := by
  have := toL_get s 0 h
  cases hl : toL s with
  | nil => rw [hl] at this; cases this
  | cons c r => rw [hl] at this; simpa using this
theorem last_of (s : ByteArray) (j : Nat) (h : s.size = j + 1) : (toL s).getLastD 0 = s[j] := by
  have := toL_get s j (by omega)
  rw [List.getLastD_eq_getLast?, List.getLast?_eq_getElem?, toL_length, show s.size - 1 = j by omega, this]
  rfl
theorem rvalue_any (s : ByteArray) (hs : s.size ≤ maxLen) (w : World) :
    Calls Tryz.prog 8 #[.string s] w fun e w' => e = .returned (.bool (value (toL s))) ∧ w = w' := by
  unfold maxLen at hs
  go_enter Tryz.func8, Tryz.ntmps8
  go_wp2_with fail
  go_loop [3] (fun i => ∃ k : Nat, k ≤ s.size ∧ i = .int .i64 k ∧ Hid (((toL s).take k).all plainB = true)) (fun i => s.size - (intOf i).toNat)
  case atStart => exact ⟨0, Nat.zero_le _, rfl, Lib.hid rfl⟩
  case round =>
    obtain ⟨k, hk, rfl, ha⟩ := hrel
    by_cases hlt : k < s.size
    · have hki : (k : Int) < (s.size : Int) := by omega
      have HT := Lib.hid (toL_take_succ s k hlt)
      have HG := Lib.hid (toL_get s k hlt)
      by_cases hm : plainB s[k] = true
      · have HA : Hid (((toL s).take (k + 1)).all plainB = true) := Lib.hid (by rw [HT.out, List.all_append, ha.out]; simp [hm])
        have hp := plain_true hm
        clear HT HG ha hm
        obtain ⟨h1, hp⟩ := hp
        rcases hp with h2 | ⟨h2, h3⟩
        all_goals
          go_wp2_with fail
          go_round
          case rel => exact ⟨k + 1, by omega, by go_num, HA⟩
          case measure => simp [intOf]; omega
      · have hm : plainB s[k] = false := by simpa using hm
        have HV : Hid (value (toL s) = false) := Lib.hid (by
          unfold value
          rw [Bool.and_eq_false_iff]
          left
          rw [List.all_eq_false]
          exact ⟨s[k], List.mem_of_getElem? HG.out, by simp [hm]⟩)
        have hp := plain_false hm
        clear HT HG ha hm
        rcases hp with h1 | ⟨h1, h2, h3⟩
        all_goals
          go_wp2_with fail
          go_ret
          exact ⟨ret_bool HV.out.symm, rfl⟩
    · have ha' : (toL s).all plainB = true := by
        have := ha.out
        rwa [toL_take_all s (by omega)] at this
      have hki : ¬ (k : Int) < (s.size : Int) := by omega
      by_cases h0 : s.size = 0
      · have HV : Hid (value (toL s) = true) := Lib.hid (by
          unfold value
          rw [ha', List.isEmpty_iff.2 (List.length_eq_zero_iff.1 (by rw [toL_length]; exact h0))]
          rfl)
        have hq : ((s.size : Int) == 0) = true := by rw [h0]; rfl
        clear ha' ha
        go_wp2_with fail
        go_ret
        exact ⟨ret_bool HV.out.symm, rfl⟩
      · obtain ⟨j, hj⟩ : ∃ j, s.size = j + 1 := ⟨s.size - 1, by omega⟩
        have hV : value (toL s) = (!blankB (s[0]'(by omega)) && !blankB (s[j]'(by omega))) := by
          unfold value
          rw [ha', head_at s (by omega), last_of s j hj]
          have : (toL s).isEmpty = false := by
            cases hl : toL s with
            | nil => have := toL_length s; rw [hl] at this; simp at this; omega
            | cons => rfl
          rw [this]
          simp
        have HV := Lib.hid hV
        have HJ := Lib.hid hj
        have hq : ((s.size : Int) == 0) = false := by
          rw [beq_eq_false_iff_ne]
          omega
        clear ha' ha hV
        have p0 : 0 < s.size := by omega
        by_cases hb0 : blankB (s[0]'p0) = true
        · have HB := Lib.hid hb0
          have HV2 : Hid (value (toL s) = false) := Lib.hid (by rw [HV.out, hb0]; rfl)
          clear hb0
          go_wp2_with fail
          refine (rblank_any _ _).mono ?_
          rintro e w' ⟨rfl, rfl⟩
          rw [HB.out]
          go_wp2_with fail
          go_ret
          exact ⟨ret_bool HV2.out.symm, rfl⟩
        · have hb0 : blankB (s[0]'p0) = false := by simpa using hb0
          have HB := Lib.hid hb0
          have HV2 : Hid (value (toL s) = !blankB (s[j]'(by omega))) := Lib.hid (by rw [HV.out, hb0]; rfl)
          clear hb0
          go_wp2_with fail
          refine (rblank_any _ _).mono ?_
          rintro e w' ⟨rfl, rfl⟩
          rw [HB.out]
          go_wp2_with fail
          refine (rblank_any _ _).mono ?_
          rintro e w' ⟨rfl, rfl⟩
          generalize blankB (s[j]'(by omega)) = bb at *
          go_wp2_with fail
          go_ret
          exact ⟨ret_bool HV2.out.symm, rfl⟩
end Go.Proofs.YtblpooddamkfdaaGreatDoor.RValue

/- Layer 8, the document's own Field. -/
namespace Go.Proofs.YtblpooddamkfdaaGreatDoor.R8Field
open Go.ChangeShapes Go.WideShapes Go.ChangeAt Go.RowKit LexPure Bytes Ret FieldsPure HeadPure HBox Mem R8End RToken RTrim RValue
set_option maxRecDepth 20000
theorem name_step {l : List UInt8} {c : UInt8} : nameB (c :: l) = if c != 58 then c :: nameB l else [] := by
  unfold nameB
  rw [List.takeWhile_cons]
theorem mark_58 (b : UInt8) : (b = 58 ∧ ((b.toNat : Int) != 58) = false) ∨ (b ≠ 58 ∧ ((b.toNat : Int) != 58) = true) := by
  have := all_bytes (p := fun b => decide ((b = 58 ∧ ((b.toNat : Int) != 58) = false) ∨ (b ≠ 58 ∧ ((b.toNat : Int) != 58) = true))) (by decide +kernel) b
  exact of_decide_eq_true this
theorem name_take (s : List UInt8) : nameB s = s.take (nameB s).length := by
  unfold nameB
  induction s with
  | nil => rfl
  | cons c s ih =>
    rw [List.takeWhile_cons]
    split
    · rw [List.length_cons, List.take_succ_cons, ← ih]
    · rfl
set_option maxHeartbeats 1600000 in
theorem r8field_any (s : ByteArray) (hs : s.size ≤ 140737488351232) (w : World) :
    Calls Tryz.prog 49 #[.string s] w fun e w' => e = .returned (frv (field8 (toL s))) ∧ Below w.heap.size w w' := by
  have HO := Lib.hid (FOne.start w)
  obtain ⟨x, hx⟩ : ∃ x, x = field8 (toL s) := ⟨_, rfl⟩
  rw [← hx]
  replace hx := Lib.hid hx
  go_enter Tryz.func49, Tryz.ntmps49
  go_wp2_with fail
  generalize w.alloc (.cells #[.string ⟨#[]⟩, .string ⟨#[]⟩] 36) = W at HO ⊢
  obtain ⟨g, hg⟩ : ∃ g, g = w.heap.size := ⟨_, rfl⟩
  rw [← hg] at HO ⊢
  replace hg := Lib.hid hg
  go_loop [4] (fun i => ∃ k : Nat, k ≤ s.size ∧ i = .int .i64 k ∧ Hid ((nameB (toL s)).length = k + (nameB ((toL s).drop k)).length)) (fun i => s.size - (intOf i).toNat)
  case atStart => exact ⟨0, Nat.zero_le _, rfl, Lib.hid (by rw [List.drop_zero, Nat.zero_add])⟩
  case round =>
    obtain ⟨k, hk, rfl, hq⟩ := hrel
    have hx2 : (∃ hlt : k < s.size, (k : Int) < (s.size : Int) ∧ ((s[k].toNat : Int) != 58) = true ∧ Hid ((nameB (toL s)).length = k + 1 + (nameB ((toL s).drop (k + 1))).length)) ∨ (∃ hlt : k < s.size, (k : Int) < (s.size : Int) ∧ ((s[k].toNat : Int) != 58) = false ∧ Hid ((nameB (toL s)).length = k)) ∨ (k = s.size ∧ ¬ (k : Int) < (s.size : Int) ∧ Hid ((nameB (toL s)).length = s.size)) := by
      by_cases hlt : k < s.size
      · have HE := hq.out
        rw [toL_drop s k hlt, name_step] at HE
        rcases mark_58 s[k] with ⟨c0, c1⟩ | ⟨c0, c1⟩
        · exact .inr (.inl ⟨hlt, by omega, c1, Lib.hid (by rw [HE, c0]; rfl)⟩)
        · exact .inl ⟨hlt, by omega, c1, Lib.hid (by rw [HE, if_pos (bne_iff_ne.2 c0), List.length_cons]; omega)⟩
      · have HE := hq.out
        rw [List.drop_eq_nil_of_le (by rw [toL_length]; omega)] at HE
        exact .inr (.inr ⟨by omega, by omega, Lib.hid (HE.trans (by show k + 0 = s.size; omega))⟩)
    clear hq
    obtain ⟨d0, d1⟩ := HO.out.box.cells
    obtain ⟨z0, z1⟩ := HO.out.box.frees
    rcases hx2 with ⟨hlt, hki, c1, HV⟩ | ⟨hlt, hki, c1, HV⟩ | ⟨rfl, hki, HV⟩
    · go_wp2_with fail
      go_round
      case rel => exact ⟨k + 1, by omega, by go_num, HV⟩
      case measure => simp [intOf]; omega
    · have hne : ((k : Int) == (s.size : Int)) = false := beq_eq_false_iff_ne.2 (by omega)
      have e1 : toL (s.extract 0 k) = nameB (toL s) := by rw [toL_extract, List.drop_zero, name_take (toL s), HV.out]
      have e2 : toL (s.extract (k + 1) s.size) = (toL s).drop ((nameB (toL s)).length + 1) := by rw [toL_extract, toL_take_all s (Nat.le_refl _), HV.out]
      have HT := Lib.hid (fun w => (rtoken_any (s.extract 0 k) (by unfold maxLen; rw [ByteArray.size_extract]; omega) w).mono (fun e w' h => (⟨h.1, h.2.symm⟩ : e = .returned (.bool (token (toL (s.extract 0 k)))) ∧ w' = w)))
      have HR := Lib.hid (fun w => rtrim_any (s.extract (k + 1) s.size) (by unfold maxLen; rw [ByteArray.size_extract]; omega) w)
      have HL := Lib.hid (fun w => rvalue_any (ofL (trim (toL (s.extract (k + 1) s.size)))) (by unfold maxLen; rw [ofL_size]; have := trim_length (toL (s.extract (k + 1) s.size)); rw [toL_length, ByteArray.size_extract] at this; omega) w)
      rw [toL_ofL] at HL
      have h0 : x = if token (toL (s.extract 0 k)) = true ∧ value (trim (toL (s.extract (k + 1) s.size))) = true then ((toL (s.extract 0 k), trim (toL (s.extract (k + 1) s.size))), 0) else (([], []), 70) := by
        rw [hx.out]
        unfold field8
        rw [e1, e2]
        by_cases h : token (nameB (toL s)) = true ∧ value (trim ((toL s).drop ((nameB (toL s)).length + 1))) = true
        · rw [if_pos h, if_pos ⟨by rw [HV.out, toL_length]; exact hlt, h⟩]
        · rw [if_neg h, if_neg (fun h2 => h h2.2)]
      have e3 : ofL (toL (s.extract 0 k)) = s.extract 0 k := ofL_toL _
      replace h0 := Lib.hid h0
      replace e3 := Lib.hid e3
      clear e1 e2 HV hx
      generalize toL (s.extract 0 k) = A at *
      generalize trim (toL (s.extract (k + 1) s.size)) = B at *
      cases ht : token A with
      | false =>
        rw [ht] at HT
        have HV : x = (([], []), 70) := by rw [h0.out, ht]; rfl
        subst HV
        have HE := Lib.hid (HO.out.box.put ([], []))
        have HB := Lib.hid (HO.out.put ([], []))
        clear h0 HR HL ht e3 HO
        go_wp2_with fail
        refine (HT.out _).mono ?_
        rintro e w' ⟨rfl, rfl⟩
        go_wp2_with fail
        refine bodyPost_ret (v := frv (([], []), 70)) ?_ rfl ⟨rfl, HB.out⟩
        rw [results_cell_tmp rfl]
        exact end_fbox rfl rfl HE.out
      | true =>
        rw [ht] at HT
        cases hv : value B with
        | false =>
          rw [hv] at HL
          have HV : x = (([], []), 70) := by rw [h0.out, hv]; simp
          subst HV
          have HE := Lib.hid (HO.out.box.put ([], []))
          have HB := Lib.hid (HO.out.put ([], []))
          clear h0 ht hv e3 HO
          go_wp2_with fail
          refine (HT.out _).mono ?_
          rintro e w' ⟨rfl, rfl⟩
          go_wp2_with fail
          refine (HR.out _).mono ?_
          rintro e w' ⟨rfl, rfl⟩
          go_wp2_with fail
          refine (HL.out _).mono ?_
          rintro e w' ⟨rfl, rfl⟩
          go_wp2_with fail
          refine bodyPost_ret (v := frv (([], []), 70)) ?_ rfl ⟨rfl, HB.out⟩
          rw [results_cell_tmp rfl]
          exact end_fbox rfl rfl HE.out
        | true =>
          rw [hv] at HL
          have HV : x = ((A, B), 0) := by rw [h0.out, ht, hv]; rfl
          subst HV
          have HE := HO.out.box.put (A, B)
          have HB := HO.out.put (A, B)
          unfold fput at HE HB
          simp only [e3.out] at HE HB
          replace HE := Lib.hid HE
          replace HB := Lib.hid HB
          clear h0 ht hv e3 HO
          go_wp2_with fail
          refine (HT.out _).mono ?_
          rintro e w' ⟨rfl, rfl⟩
          go_wp2_with fail
          refine (HR.out _).mono ?_
          rintro e w' ⟨rfl, rfl⟩
          go_wp2_with fail
          refine (HL.out _).mono ?_
          rintro e w' ⟨rfl, rfl⟩
          go_wp2_with fail
          refine bodyPost_ret (v := frv ((A, B), 0)) ?_ rfl ⟨rfl, HB.out⟩
          rw [results_cell_tmp rfl]
          exact end_fbox rfl rfl HE.out
    · have hne : ((s.size : Int) == (s.size : Int)) = true := beq_self_eq_true _
      have HV : x = (([], []), 70) := by rw [hx.out]; unfold field8; rw [if_neg]; rintro ⟨h, _⟩; rw [HV.out, toL_length] at h; omega
      subst HV
      have HE := Lib.hid (HO.out.box.put ([], []))
      have HB := Lib.hid (HO.out.put ([], []))
      clear hx
      go_wp2_with fail
      refine bodyPost_ret (v := frv (([], []), 70)) ?_ rfl ⟨rfl, HB.out⟩
      rw [results_cell_tmp rfl]
      exact end_fbox rfl rfl HE.out
end Go.Proofs.YtblpooddamkfdaaGreatDoor.R8Field

/- Layer 8, the document's own Read: what its boxes hold. -/
namespace Go.Proofs.YtblpooddamkfdaaGreatDoor.R8ReadB
open Go.ChangeShapes Go.WideShapes Go.ChangeAt Go.RowKit LexPure Bytes Ret Rows1 FieldsPure HeadPure Flds HBox KeptRow Mem R8End R8Start R8Status R8Field
set_option maxRecDepth 20000
set_option linter.unusedVariables false
/-- between the lines: the result's box, the head's box, the fields -/
structure St (w : World) (g G : Nat) (H : H8) (acc : List HField) (v : Value) (W : World) : Prop where
  at_ : g = w.heap.size
  next : G = g + 1
  below : Below w.heap.size w W
  res : HBox W g zero8 (.slice none 0 0)
  box : HBox W G H v
  row : W.ownsRow (G + 1) 36 2 v acc.length (encFs acc)
  size : G + 1 ≤ W.heap.size
theorem St.call {w W W' : World} {g G : Nat} {H : H8} {acc : List HField} {v : Value} (h : St w g G H acc v W) (hb : Below W.heap.size W W') : St w g G H acc v W' :=
  ⟨h.at_, h.next, below_chain h.below hb, h.res.below hb (by have := h.size; have := h.next; omega), h.box.below hb (by have := h.size; omega), row_below h.row hb, Nat.le_trans h.size hb.size⟩
theorem St.start (w : World) : St w w.heap.size (w.heap.size + 1) zero8 [] (.slice none 0 0) ((w.alloc (.cells #[.string ⟨#[]⟩, .string ⟨#[]⟩, .int .i64 0, .string ⟨#[]⟩, .int .i64 0, .slice none 0 0] 25)).alloc (.cells #[.string ⟨#[]⟩, .string ⟨#[]⟩, .int .i64 0, .string ⟨#[]⟩, .int .i64 0, .slice none 0 0] 25)) := by
  refine ⟨rfl, rfl, ((Below.refl w.heap.size w).alloc (Nat.le_refl _) _).alloc (by simp) _, ⟨(Has.new w _ _).alloc _⟩, ⟨?_⟩, World.ownsRow_nil _ _ _ _, by simp⟩
  have := Has.new (w.alloc (.cells (hc zero8 (.slice none 0 0)) 25)) 25 (hc zero8 (.slice none 0 0))
  rw [show (w.alloc (.cells (hc zero8 (.slice none 0 0)) 25)).heap.size = w.heap.size + 1 by simp] at this
  exact this
theorem skip_at (S : List UInt8) (a : Nat) (c d : UInt8) (h0 : S[a]? = some c) (h1 : S[a + 1]? = some d) : skip8 (S.drop a) = if c = 13 ∧ d = 10 then skip8 (S.drop (a + 2)) + 2 else 0 := by
  have e1 : S.drop a = c :: S.drop (a + 1) := by
    have hl : a < S.length := (List.getElem?_eq_some_iff.1 h0).1
    rw [List.drop_eq_getElem_cons hl]
    rw [List.getElem?_eq_getElem hl] at h0
    rw [Option.some.inj h0]
  have e2 : S.drop (a + 1) = d :: S.drop (a + 2) := by
    have hl : a + 1 < S.length := (List.getElem?_eq_some_iff.1 h1).1
    rw [List.drop_eq_getElem_cons hl]
    rw [List.getElem?_eq_getElem hl] at h1
    rw [Option.some.inj h1]
  rw [e1, e2, skip8]
theorem skip_short (S : List UInt8) (a : Nat) (h : S.length ≤ a + 1) : skip8 (S.drop a) = 0 := by
  have hl : (S.drop a).length ≤ 1 := by rw [List.length_drop]; omega
  cases hx : S.drop a with
  | nil => rfl
  | cons c t =>
    rw [hx] at hl
    cases t with
    | nil => rfl
    | cons d t => simp at hl
theorem St.putH {w W : World} {g G : Nat} {H : H8} {acc : List HField} {v : Value} (h : St w g G H acc v W) (H' : H8) : St w g G H' [] (.slice none 0 0) (hput W G H' (.slice none 0 0)) :=
  ⟨h.at_, h.next, below_hput h.below (by rw [h.next, h.at_]; exact Nat.le_succ _) _ _, box_hput h.res (by rw [h.next]; omega), h.box.put _ _, World.ownsRow_nil _ _ _ _, by rw [size_hput]; exact h.size⟩
theorem St.putR {w W : World} {g G : Nat} {H : H8} {acc : List HField} {v : Value} (h : St w g G H acc v W) (H' : H8) (l : Value) : HBox (hput W g H' l) g H' l ∧ Below w.heap.size w (hput W g H' l) :=
  ⟨h.res.put _ _, below_hput h.below (by rw [h.at_]; exact Nat.le_refl _) _ _⟩
/-- what End hands on -/
theorem end_at {s : ByteArray} {a most : Nat} {over : Int} (hs : s.size ≤ 140737488351232) (ha : a ≤ s.size) {L : Line} (hL : scan most over 0 ((toL s).drop a) = L) :
    ∀ w, Calls Tryz.prog 46 #[.string s, .int .i64 (a : Int), .int .i64 (most : Int), .int .i64 over] w fun e w' => e = .returned (.tuple #[.int .i64 (endP a L).1, .int .i64 (endP a L).2]) ∧ w' = w := fun w =>
  (r8end_any s hs a most over ha w).mono (fun e w' h => ⟨by rw [h.1, hL], h.2.symm⟩)
theorem whole_le {s : ByteArray} {a most q : Nat} {over : Int} (hL : scan most over 0 ((toL s).drop a) = .whole q) (ha : a ≤ s.size) : a + q + 2 ≤ s.size := by
  obtain ⟨l, t, e, hq, _⟩ := scan_whole _ _ _ _ _ hL
  have := congrArg List.length e
  rw [List.length_drop, toL_length, List.length_append, List.length_cons, List.length_cons] at this
  omega
theorem St.alloc {w W : World} {g G : Nat} {H : H8} {acc : List HField} {v : Value} (h : St w g G H acc v W) (o : Obj) : St w g G H acc v (W.alloc o) := h.call ((Below.refl _ _).alloc (Nat.le_refl _) o)
/-- one more field, the list put back into the head's box -/
theorem St.grow {w W W' : World} {g G : Nat} {H : H8} {acc : List HField} {v v' : Value} {f : HField} (h : St w g G H acc v W) (hg : W.grownBy W' v.ownBlock)
    (hr : W'.ownsRow (G + 1) 36 2 v' (acc.length + 1) (encFs acc ++ encF f)) : St w g G H (acc ++ [f]) v' (W'.setCell ⟨G, 5, none⟩ v') := by
  have hlt : ∀ j, v.ownBlock = some j → G + 1 ≤ j := fun j hj => (h.row.lt j hj).1
  have h1 := h.at_
  have h2 := h.next
  have b1 := h.below.size
  have n1 : some g ≠ v.ownBlock := fun e => by have := hlt g e.symm; omega
  have n2 : some G ≠ v.ownBlock := fun e => by have := hlt G e.symm; omega
  refine ⟨h1, h2, (Below.grown h.below hg b1 (fun j hj => by have := hlt j hj; omega)).setCell (p := ⟨G, 5, none⟩) (by show w.heap.size ≤ G; omega) _, HBox.far ⟨h.res.has.grown hg n1⟩ (p := ⟨G, 5, none⟩) (by show g ≠ G; omega) _, HBox.setF ⟨h.box.has.grown hg n2⟩ v', ?_, ?_⟩
  · rw [List.length_append, encFs_append, List.length_singleton]
    have : encFs [f] = encF f := by simp [encFs]
    rw [this]
    exact ownsRow_setCell_below hr (a := ⟨G, 5, none⟩) (Nat.lt_succ_self G) v'
  · rw [World.size_setCell]
    exact Nat.le_trans h.size hg.size
theorem St.cell5 {w W W' : World} {g G : Nat} {H : H8} {acc : List HField} {v : Value} (h : St w g G H acc v W) (hg : W.grownBy W' v.ownBlock) : W'.cell? ⟨G, 5, none⟩ = some v ∧ W'.frozen? ⟨G, 5, none⟩ = false := by
  have hlt : ∀ j, v.ownBlock = some j → G + 1 ≤ j := fun j hj => (h.row.lt j hj).1
  have n2 : some G ≠ v.ownBlock := fun e => by have := hlt G e.symm; omega
  have b : HBox W' G H v := ⟨h.box.has.grown hg n2⟩
  obtain ⟨_, _, _, _, _, c⟩ := b.cells
  obtain ⟨_, _, _, _, _, f⟩ := b.frees
  exact ⟨c, f⟩
theorem field_err8 (l : List UInt8) : (field8 l).2 = 0 ∨ (field8 l).2 = 70 := by
  unfold field8
  split
  · exact .inl rfl
  · exact .inr rfl
theorem ret_read {W w : World} {R : Res} {h : H8} {v : Value} {n e : Int} {l : List HField} (h1 : hv (resH R) v = hv h v) (h2 : (resN R : Int) = n) (h3 : resE R = e) (h4 : (resH R).fields = l) (hf : RowF W w.heap.size v l) (hb : Below w.heap.size w W) :
    ∃ u, Ending.returned (hrv3 h v n e) = .returned (hrv3 (resH R) u (resN R) (resE R)) ∧ RowF W w.heap.size u (resH R).fields ∧ Below w.heap.size w W :=
  ⟨v, by unfold hrv3; rw [h1, h2, h3], by rw [h4]; exact hf, hb⟩
theorem skip_pos : ∀ l : List UInt8, 0 < skip8 l → ∃ r, l = 13 :: 10 :: r ∧ skip8 l = skip8 r + 2
  | [], h => absurd h (by decide)
  | [c], h => absurd h (by simp [skip8])
  | c :: d :: r, h => by
    have e : skip8 (c :: d :: r) = if c = 13 ∧ d = 10 then skip8 r + 2 else 0 := by rw [skip8]
    rw [e] at h ⊢
    by_cases hc : c = 13 ∧ d = 10
    · obtain ⟨rfl, rfl⟩ := hc
      exact ⟨r, rfl, by rw [if_pos ⟨rfl, rfl⟩]⟩
    · rw [if_neg hc] at h
      exact absurd h (Nat.lt_irrefl 0)
/-- on the way: a line end stands here -/
theorem skip_on {s : ByteArray} {k : Nat} (hk : k ≤ s.size) (h : 0 < skip8 ((toL s).drop k)) : ∃ h1 : k < s.size, ∃ h2 : k + 1 < s.size, s[k] = 13 ∧ s[k + 1] = 10 ∧ skip8 ((toL s).drop k) = skip8 ((toL s).drop (k + 2)) + 2 := by
  obtain ⟨r, hr, he⟩ := skip_pos _ h
  have hl := congrArg List.length hr
  rw [List.length_drop, toL_length, List.length_cons, List.length_cons] at hl
  have h1 : k < s.size := by omega
  have h2 : k + 1 < s.size := by omega
  have e := toL_drop s k h1
  rw [toL_drop s (k + 1) h2, hr] at e
  injection e with e1 e2
  injection e2 with e3 e4
  exact ⟨h1, h2, e1.symm, e3.symm, by rw [he, ← e4]⟩
/-- the three ways out -/
theorem skip_ways (s : ByteArray) : skip8 (toL s) ≤ s.size ∧ (s.size ≤ skip8 (toL s) + 1 ∨ (∃ h : skip8 (toL s) < s.size, ∃ h2 : skip8 (toL s) + 1 < s.size, s[skip8 (toL s)] ≠ 13) ∨ (∃ h : skip8 (toL s) < s.size, ∃ h2 : skip8 (toL s) + 1 < s.size, s[skip8 (toL s)] = 13 ∧ s[skip8 (toL s) + 1] ≠ 10)) := by
  have hle := skip_le (toL s)
  rw [toL_length] at hle
  refine ⟨hle, ?_⟩
  by_cases h1 : s.size ≤ skip8 (toL s) + 1
  · exact .inl h1
  · refine .inr ?_
    obtain ⟨u, _, _, _, h0, _⟩ := skip_split (toL s)
    have k1 : skip8 (toL s) < s.size := by omega
    have k2 : skip8 (toL s) + 1 < s.size := by omega
    by_cases h13 : s[skip8 (toL s)] = 13
    · refine .inr ⟨k1, k2, h13, fun h10 => ?_⟩
      rw [toL_drop s _ k1, toL_drop s _ k2, h13, h10] at h0
      simp [skip8] at h0
    · exact .inl ⟨k1, k2, h13⟩
theorem from_request {s : List UInt8} {k : Nat} (h : skip8 s = k) : read8 false s = from8 false k (s.drop k) := by
  unfold read8 skipOf
  rw [if_neg (by decide), h]
theorem from_response (s : List UInt8) : read8 true s = from8 true 0 s := by
  unfold read8 skipOf
  rw [if_pos rfl, List.drop_zero]
theorem mark_13 (b : UInt8) : (b = 13 → ((b.toNat : Int) == 13) = true) ∧ (b ≠ 13 → ((b.toNat : Int) == 13) = false) ∧ (b = 10 → ((b.toNat : Int) == 10) = true) ∧ (b ≠ 10 → ((b.toNat : Int) == 10) = false) := by
  have := all_bytes (p := fun b => decide ((b = 13 → ((b.toNat : Int) == 13) = true) ∧ (b ≠ 13 → ((b.toNat : Int) == 13) = false) ∧ (b = 10 → ((b.toNat : Int) == 10) = true) ∧ (b ≠ 10 → ((b.toNat : Int) == 10) = false))) (by decide +kernel) b
  exact of_decide_eq_true this
end Go.Proofs.YtblpooddamkfdaaGreatDoor.R8ReadB
