/- Texts of this seat, one behind another: R8Status, RBlank, RTrim. -/
import Derived.Lib.Hide
import Derived.Below
import Derived.Outline
import Derived.LoopTactic
import Derived.Laws.DeepStrings4
import Derived.Test.YtclecgopmegjeaaDoorB1
import Derived.Test.YtclecgopmegjeaaDoorB2
import Derived.Test.YtclecgopmegjeaaDoorA1
/- Layer 8, the document's own Status. -/
namespace Go.Proofs.YtclecgopmegjeaaDoor.R8Status
open Go.ChangeShapes Go.WideShapes Go.ChangeAt Go.RowKit LexPure Bytes Ret LexNum FieldsPure HeadPure HBox Mem R8End R8Version R8Start RDecimal
set_option maxRecDepth 20000
theorem plain_cases (b : UInt8) : (plainB b = false ∧ ((b.toNat : Int) == 127) = true) ∨ (plainB b = false ∧ ((b.toNat : Int) == 127) = false ∧ (b.toNat : Int) < 32 ∧ ((b.toNat : Int) != 9) = true) ∨ (plainB b = true ∧ ((b.toNat : Int) == 127) = false ∧ (b.toNat : Int) < 32 ∧ ((b.toNat : Int) != 9) = false) ∨ (plainB b = true ∧ ((b.toNat : Int) == 127) = false ∧ ¬ (b.toNat : Int) < 32) := by
  have := all_bytes (p := fun b => decide ((plainB b = false ∧ ((b.toNat : Int) == 127) = true) ∨ (plainB b = false ∧ ((b.toNat : Int) == 127) = false ∧ (b.toNat : Int) < 32 ∧ ((b.toNat : Int) != 9) = true) ∨ (plainB b = true ∧ ((b.toNat : Int) == 127) = false ∧ (b.toNat : Int) < 32 ∧ ((b.toNat : Int) != 9) = false) ∨ (plainB b = true ∧ ((b.toNat : Int) == 127) = false ∧ ¬ (b.toNat : Int) < 32))) (by decide +kernel) b
  exact of_decide_eq_true this
def OkS (l : List UInt8) : Prop := 12 ≤ l.length ∧ l[8]? = some 32 ∧ numOk 10 3 ((l.drop 9).take 3) = true ∧ 100 ≤ numR 10 3 ((l.drop 9).take 3) ∧ numR 10 3 ((l.drop 9).take 3) < 600 ∧ (l.length = 12 ∨ l[12]? = some 32) ∧ (l.drop 13).all plainB = true
theorem status_bad {l : List UInt8} (h : ¬ OkS l) : status8 l = (zero8, 80) := by
  unfold status8
  exact if_neg h
theorem status_good {l : List UInt8} (h : OkS l) : status8 l = if (version8 (l.take 8)).2 = 0 then (⟨[], [], numR 10 3 ((l.drop 9).take 3), l.drop 13, (version8 (l.take 8)).1, []⟩, 0) else (zero8, (version8 (l.take 8)).2) := by
  unfold status8
  exact if_pos h
set_option maxHeartbeats 1600000 in
theorem r8status_any (s : ByteArray) (hs : s.size ≤ 140737488351232) (w : World) :
    Calls Tryd.prog 26 #[.string s] w fun e w' => e = .returned (hrv (status8 (toL s)).1 (.slice none 0 0) (status8 (toL s)).2) ∧ Below w.heap.size w w' := by
  have HO := Lib.hid (HOne.start w)
  obtain ⟨x, hx⟩ : ∃ x, x = status8 (toL s) := ⟨_, rfl⟩
  rw [← hx]
  have HXB : ¬ OkS (toL s) → Hid (x = (zero8, 80)) := fun h => Lib.hid (by rw [hx, status_bad h])
  have HXG : OkS (toL s) → Hid (x = if (version8 ((toL s).take 8)).2 = 0 then (⟨[], [], numR 10 3 (((toL s).drop 9).take 3), (toL s).drop 13, (version8 ((toL s).take 8)).1, []⟩, 0) else (zero8, (version8 ((toL s).take 8)).2)) := fun h => Lib.hid (by rw [hx, status_good h])
  clear hx
  by_cases h1 : 12 ≤ s.size
  rotate_left
  · have hi : (s.size : Int) < 12 := by omega
    have HV := (HXB (fun h => h1 (by have := h.1; rwa [toL_length] at this))).out
    subst HV
    clear HXB HXG
    go_enter Tryd.func26, Tryd.ntmps26
    go_wp2_with fail
    refine bodyPost_ret (v := hrv zero8 (.slice none 0 0) 80) ?_ rfl ⟨rfl, HO.out.below⟩
    rw [results_cell_tmp rfl]
    exact end_hbox rfl rfl HO.out.box
  have hi : ¬ (s.size : Int) < 12 := by omega
  have h8 : (8 : Int) < (s.size : Int) := by omega
  have G8 : (toL s)[8]? = some s[8] := toL_get s 8 (by omega)
  rcases mark_32 s[8] with ⟨c0, c1⟩ | ⟨c0, c1⟩
  rotate_left
  · have HV := (HXB (fun h => c0 (by have := h.2.1; rw [G8] at this; exact Option.some.inj this))).out
    subst HV
    clear HXB HXG G8 c0
    go_enter Tryd.func26, Tryd.ntmps26
    go_wp2_with fail
    refine bodyPost_ret (v := hrv zero8 (.slice none 0 0) 80) ?_ rfl ⟨rfl, HO.out.below⟩
    rw [results_cell_tmp rfl]
    exact end_hbox rfl rfl HO.out.box
  rw [c0] at G8
  have e9 : toL (s.extract 9 12) = ((toL s).drop 9).take 3 := by rw [toL_extract, List.drop_take]
  have HD := Lib.hid (fun w => (rdecimal_any (s.extract 9 12) (by unfold maxLen; rw [ByteArray.size_extract]; omega) 3 w).mono (fun e w' h => (⟨by rw [h.1, e9]; rfl, h.2.symm⟩ : e = .returned (.tuple #[.int .i64 (numR 10 3 (((toL s).drop 9).take 3)), .bool (numOk 10 3 (((toL s).drop 9).take 3))]) ∧ w' = w)))
  have H8 : Hid ((toL s)[8]? = some 32) := Lib.hid G8
  have hu : numR 10 3 (((toL s).drop 9).take 3) = numR 10 3 (((toL s).drop 9).take 3) := rfl
  clear G8 c0 e9 hu
  unfold OkS at HXB HXG
  generalize numR 10 3 (((toL s).drop 9).take 3) = n at *
  generalize numOk 10 3 (((toL s).drop 9).take 3) = ok at *
  go_enter Tryd.func26, Tryd.ntmps26
  go_wp2_with fail
  generalize w.alloc (.cells #[.string ⟨#[]⟩, .string ⟨#[]⟩, .int .i64 0, .string ⟨#[]⟩, .int .i64 0, .slice none 0 0] 25) = W at HO ⊢
  obtain ⟨g, hg⟩ : ∃ g, g = w.heap.size := ⟨_, rfl⟩
  rw [← hg] at HO ⊢
  replace hg := Lib.hid hg
  obtain ⟨d0, d1, d2, d3, d4, d5⟩ := HO.out.box.cells
  obtain ⟨z0, z1, z2, z3, z4, z5⟩ := HO.out.box.frees
  have HE := Lib.hid (HO.out.box.put zero8 (.slice none 0 0))
  have HB := Lib.hid (HO.out.put zero8 (.slice none 0 0))
  cases ok with
  | false =>
    have HV := (HXB (fun h => absurd h.2.2.1 (by decide))).out
    subst HV
    clear HXB HXG HO
    refine (HD.out _).mono ?_
    rintro e w' ⟨rfl, rfl⟩
    go_wp2_with fail
    refine bodyPost_ret (v := hrv zero8 (.slice none 0 0) 80) ?_ rfl ⟨rfl, HB.out⟩
    rw [results_cell_tmp rfl]
    exact end_hbox rfl rfl HE.out
  | true =>
  by_cases h2 : 100 ≤ n
  rotate_left
  · have hj : n < 100 := by omega
    have HV := (HXB (fun h => h2 h.2.2.2.1)).out
    subst HV
    clear HXB HXG HO h2
    refine (HD.out _).mono ?_
    rintro e w' ⟨rfl, rfl⟩
    go_wp2_with fail
    refine bodyPost_ret (v := hrv zero8 (.slice none 0 0) 80) ?_ rfl ⟨rfl, HB.out⟩
    rw [results_cell_tmp rfl]
    exact end_hbox rfl rfl HE.out
  have hj : ¬ n < 100 := by omega
  by_cases h3 : n < 600
  rotate_left
  · have hk : 600 ≤ n := by omega
    have HV := (HXB (fun h => h3 h.2.2.2.2.1)).out
    subst HV
    clear HXB HXG HO h2 h3
    refine (HD.out _).mono ?_
    rintro e w' ⟨rfl, rfl⟩
    go_wp2_with fail
    refine bodyPost_ret (v := hrv zero8 (.slice none 0 0) 80) ?_ rfl ⟨rfl, HB.out⟩
    rw [results_cell_tmp rfl]
    exact end_hbox rfl rfl HE.out
  have hk : ¬ 600 ≤ n := by omega
  replace h2 := Lib.hid h2
  replace h3 := Lib.hid h3
  have e8 : toL (s.extract 0 8) = (toL s).take 8 := by rw [toL_extract, List.drop_zero]
  refine (HD.out _).mono ?_
  rintro e w' ⟨rfl, rfl⟩
  clear HD
  by_cases h4 : s.size = 12
  · have hl : ¬ (12 : Int) < (s.size : Int) := by omega
    have e13 : (toL s).drop 13 = [] := List.drop_eq_nil_of_le (by rw [toL_length]; omega)
    have Hr : Hid (ofL ((toL s).drop 13) = ⟨#[]⟩) := Lib.hid (by rw [e13]; rfl)
    replace HXG := HXG ⟨by rw [toL_length]; exact h1, H8.out, (by trivial), h2.out, h3.out, .inl (by rw [toL_length]; exact h4), by rw [e13]; rfl⟩
    clear e13
    replace h4 := Lib.hid h4
    go_wp2_with fail
    go_loop [7] (fun i => i = .int .i64 0) (fun i => 0)
    case atStart => rfl
    case round =>
      obtain rfl := hrel
      have HV := HXG.out
      have HZ := Lib.hid (fun w => (r8version_any (s.extract 0 8) w).mono (fun e w' h => (⟨h.1, h.2.symm⟩ : e = .returned (.tuple #[.int .i64 (version8 (toL (s.extract 0 8))).1, .int .i64 (version8 (toL (s.extract 0 8))).2]) ∧ w' = w)))
      rw [e8] at HZ
      clear HXB HXG
      generalize version8 ((toL s).take 8) = v at *
      obtain ⟨m, er⟩ := v
      by_cases h6 : er = 0
      · have HV2 : x = (⟨[], [], n, (toL s).drop 13, m, []⟩, 0) := by rw [HV, if_pos h6]
        subst HV2
        subst h6
        have HE := HO.out.box.put ⟨[], [], n, (toL s).drop 13, m, []⟩ (.slice none 0 0)
        have HB := HO.out.put ⟨[], [], n, (toL s).drop 13, m, []⟩ (.slice none 0 0)
        unfold hput at HE HB
        simp only [Hr.out] at HE HB
        replace HE := Lib.hid HE
        replace HB := Lib.hid HB
        clear HV HO
        go_wp2_with fail
        refine (HZ.out _).mono ?_
        rintro e w' ⟨rfl, rfl⟩
        go_wp2_with fail
        refine bodyPost_ret (v := hrv ⟨[], [], n, (toL s).drop 13, m, []⟩ (.slice none 0 0) 0) ?_ rfl ⟨rfl, HB.out⟩
        rw [results_cell_tmp rfl]
        exact end_hbox rfl rfl HE.out
      · have HV2 : x = (zero8, er) := by rw [HV, if_neg h6]
        subst HV2
        have h7 : (er != 0) = true := bne_iff_ne.2 h6
        clear HV HO h6
        go_wp2_with fail
        refine (HZ.out _).mono ?_
        rintro e w' ⟨rfl, rfl⟩
        go_wp2_with fail
        refine bodyPost_ret (v := hrv zero8 (.slice none 0 0) er) ?_ rfl ⟨rfl, HB.out⟩
        rw [results_cell_tmp rfl]
        exact end_hbox rfl rfl HE.out
  · have hl : (12 : Int) < (s.size : Int) := by omega
    have G12 : (toL s)[12]? = some s[12] := toL_get s 12 (by omega)
    rcases mark_32 s[12] with ⟨c2, c3⟩ | ⟨c2, c3⟩
    rotate_left
    · have HV := (HXB (by
        rintro ⟨_, _, _, _, _, h | h, _⟩
        · rw [toL_length] at h; exact h4 h
        · rw [G12] at h; exact c2 (Option.some.inj h))).out
      subst HV
      clear HXB HXG HO G12 c2
      go_wp2_with fail
      refine bodyPost_ret (v := hrv zero8 (.slice none 0 0) 80) ?_ rfl ⟨rfl, HB.out⟩
      rw [results_cell_tmp rfl]
      exact end_hbox rfl rfl HE.out
    rw [c2] at G12
    have H12 := Lib.hid G12
    clear G12 c2
    have eR : toL (s.extract 13 s.size) = (toL s).drop 13 := by rw [toL_extract, toL_take_all s (Nat.le_refl _)]
    have Hr : Hid (ofL ((toL s).drop 13) = s.extract 13 s.size) := Lib.hid (by rw [← eR, ofL_toL])
    replace eR := Lib.hid eR
    replace h4 := Lib.hid h4
    go_wp2_with fail
    have hrs : (s.extract 13 s.size).size ≤ 140737488351232 := by rw [ByteArray.size_extract]; omega
    generalize s.extract 13 s.size = r at *
    go_loop [7] (fun i => ∃ k : Nat, k ≤ r.size ∧ i = .int .i64 k ∧ Hid (((toL r).take k).all plainB = true)) (fun i => r.size - (intOf i).toNat)
    case atStart => exact ⟨0, Nat.zero_le _, rfl, Lib.hid rfl⟩
    case round =>
      obtain ⟨k, hk1, rfl, hq⟩ := hrel
      by_cases hlt : k < r.size
      · have hki : (k : Int) < (r.size : Int) := by omega
        have HT := Lib.hid (toL_take_succ r k hlt)
        have HG := Lib.hid (toL_get r k hlt)
        have HXC : plainB r[k] = false → Hid (x = (zero8, 80)) := fun hp => HXB (by
          rintro ⟨_, _, _, _, _, _, h⟩
          rw [← eR.out] at h
          have := List.all_eq_true.1 h r[k] (List.mem_of_getElem? HG.out)
          rw [hp] at this
          cases this)
        have HQ : plainB r[k] = true → Hid (((toL r).take (k + 1)).all plainB = true) := fun hp => Lib.hid (by
          rw [HT.out, List.all_append, hq.out]
          simp [hp])
        clear HT HG
        rcases plain_cases r[k] with ⟨c0, c1⟩ | ⟨c0, c1, c2, c3⟩ | ⟨c0, c1, c2, c3⟩ | ⟨c0, c1, c2⟩
        · have HV := (HXC c0).out
          subst HV
          clear HXB HXG HO HXC HQ c0
          go_wp2_with fail
          refine bodyPost_ret (v := hrv zero8 (.slice none 0 0) 80) ?_ rfl ⟨rfl, HB.out⟩
          rw [results_cell_tmp rfl]
          exact end_hbox rfl rfl HE.out
        · have HV := (HXC c0).out
          subst HV
          clear HXB HXG HO HXC HQ c0
          go_wp2_with fail
          refine bodyPost_ret (v := hrv zero8 (.slice none 0 0) 80) ?_ rfl ⟨rfl, HB.out⟩
          rw [results_cell_tmp rfl]
          exact end_hbox rfl rfl HE.out
        · replace HQ := HQ c0
          clear HXB HXG HO HXC c0
          go_wp2_with fail
          go_round
          case rel => exact ⟨k + 1, by omega, by go_num, HQ⟩
          case measure => simp [intOf]; omega
        · replace HQ := HQ c0
          clear HXB HXG HO HXC c0
          go_wp2_with fail
          go_round
          case rel => exact ⟨k + 1, by omega, by go_num, HQ⟩
          case measure => simp [intOf]; omega
      · have hki : ¬ (k : Int) < (r.size : Int) := by omega
        replace HXG := HXG ⟨by rw [toL_length]; exact h1, H8.out, (by trivial), h2.out, h3.out, .inr H12.out, by
          rw [← eR.out]
          have := hq.out
          rwa [toL_take_all r (by omega)] at this⟩
        clear hq
        have HV := HXG.out
        have HZ := Lib.hid (fun w => (r8version_any (s.extract 0 8) w).mono (fun e w' h => (⟨h.1, h.2.symm⟩ : e = .returned (.tuple #[.int .i64 (version8 (toL (s.extract 0 8))).1, .int .i64 (version8 (toL (s.extract 0 8))).2]) ∧ w' = w)))
        rw [e8] at HZ
        clear HXB HXG
        generalize version8 ((toL s).take 8) = v at *
        obtain ⟨m, er⟩ := v
        by_cases h6 : er = 0
        · have HV2 : x = (⟨[], [], n, (toL s).drop 13, m, []⟩, 0) := by rw [HV, if_pos h6]
          subst HV2
          subst h6
          have HE := HO.out.box.put ⟨[], [], n, (toL s).drop 13, m, []⟩ (.slice none 0 0)
          have HB := HO.out.put ⟨[], [], n, (toL s).drop 13, m, []⟩ (.slice none 0 0)
          unfold hput at HE HB
          simp only [Hr.out] at HE HB
          replace HE := Lib.hid HE
          replace HB := Lib.hid HB
          clear HV HO
          go_wp2_with fail
          refine (HZ.out _).mono ?_
          rintro e w' ⟨rfl, rfl⟩
          go_wp2_with fail
          refine bodyPost_ret (v := hrv ⟨[], [], n, (toL s).drop 13, m, []⟩ (.slice none 0 0) 0) ?_ rfl ⟨rfl, HB.out⟩
          rw [results_cell_tmp rfl]
          exact end_hbox rfl rfl HE.out
        · have HV2 : x = (zero8, er) := by rw [HV, if_neg h6]
          subst HV2
          have h7 : (er != 0) = true := bne_iff_ne.2 h6
          clear HV HO h6
          go_wp2_with fail
          refine (HZ.out _).mono ?_
          rintro e w' ⟨rfl, rfl⟩
          go_wp2_with fail
          refine bodyPost_ret (v := hrv zero8 (.slice none 0 0) er) ?_ rfl ⟨rfl, HB.out⟩
          rw [results_cell_tmp rfl]
          exact end_hbox rfl rfl HE.out
end Go.Proofs.YtclecgopmegjeaaDoor.R8Status

/- Layer 4, the document's own Blank. -/
namespace Go.Proofs.YtclecgopmegjeaaDoor.RBlank
open Go.ChangeShapes Go.WideShapes Go.ChangeAt Go.RowKit LexPure Bytes Ret
set_option maxRecDepth 20000
theorem rblank_any (c : UInt8) (w : World) :
    Calls Tryd.prog 46 #[.int .u8 (c.toNat : Int)] w fun e w' => e = .returned (.bool (blankB c)) ∧ w = w' := by
  rw [← blank_eq]
  generalize (c.toNat : Int) = c
  go_enter Tryd.func46, Tryd.ntmps46
  go_wp2_with fail
  all_goals
    go_ret
    refine ⟨ret_bool ?_, rfl⟩
    first
      | exact Eq.symm (decide_eq_true (by omega))
      | exact Eq.symm (decide_eq_false (by omega))
      | (rw [Bool.decide_or]; rfl)
end Go.Proofs.YtclecgopmegjeaaDoor.RBlank

/- Layer 4, the document's own Trim. -/
namespace Go.Proofs.YtclecgopmegjeaaDoor.RTrim
open Go.ChangeShapes Go.WideShapes Go.ChangeAt Go.RowKit LexPure Bytes Ret RBlank
set_option maxRecDepth 20000
theorem drop_at (s : ByteArray) (k : Nat) (h : k < s.size) : ((toL s).drop k).dropWhile blankB = if blankB s[k] then ((toL s).drop (k + 1)).dropWhile blankB else (toL s).drop k := by
  rw [toL_drop s k h, List.dropWhile_cons]
theorem last_at (D : List UInt8) (j : Nat) (c : UInt8) (h : D[j]? = some c) : (D.take (j + 1)).reverse.dropWhile blankB = if blankB c then (D.take j).reverse.dropWhile blankB else (D.take (j + 1)).reverse := by
  rw [List.take_add_one, h]
  simp only [Option.toList_some, List.reverse_append, List.reverse_cons, List.reverse_nil, List.nil_append, List.cons_append]
  rw [List.dropWhile_cons]
theorem rtrim_any (s : ByteArray) (hs : s.size ≤ maxLen) (w : World) :
    Calls Tryd.prog 35 #[.string s] w fun e w' => e = .returned (.string (ofL (trim (toL s)))) ∧ w = w' := by
  unfold maxLen at hs
  go_enter Tryd.func35, Tryd.ntmps35
  go_wp2_with fail
  go_loop [3] (fun f => ∃ k : Nat, k ≤ s.size ∧ f = .int .i64 k ∧ Hid ((toL s).dropWhile blankB = ((toL s).drop k).dropWhile blankB)) (fun f => s.size - (intOf f).toNat)
  case atStart => exact ⟨0, Nat.zero_le _, rfl, Lib.hid rfl⟩
  case round =>
    obtain ⟨k, hk, rfl, ha⟩ := hrel
    by_cases hgo : ∃ h : k < s.size, blankB s[k] = true
    · obtain ⟨hlt, hb⟩ := hgo
      have hki : (k : Int) < (s.size : Int) := by omega
      have HA : Hid ((toL s).dropWhile blankB = ((toL s).drop (k + 1)).dropWhile blankB) := Lib.hid (by rw [ha.out, drop_at s k hlt, if_pos hb])
      have HB := Lib.hid hb
      clear hb
      go_wp2_with fail
      refine (rblank_any _ _).mono ?_
      rintro e w' ⟨rfl, rfl⟩
      rw [HB.out]
      go_wp2_with fail
      go_round
      case rel => exact ⟨k + 1, by omega, by go_num, HA⟩
      case measure => simp [intOf]; omega
    · have HD : Hid ((toL s).dropWhile blankB = (toL s).drop k) := Lib.hid (by
        rw [ha.out]
        by_cases hlt : k < s.size
        · rw [drop_at s k hlt, if_neg (fun hb => hgo ⟨hlt, hb⟩)]
        · rw [List.drop_eq_nil_of_le (by rw [toL_length]; omega)]
          rfl)
      have HL : Hid (((toL s).drop k).length = s.size - k) := Lib.hid (by rw [List.length_drop, toL_length])
      have hx : (∃ h : k < s.size, (k : Int) < (s.size : Int) ∧ Hid (blankB s[k] = false)) ∨ (¬ (k : Int) < (s.size : Int)) := by
        by_cases hlt : k < s.size
        · refine .inl ⟨hlt, by omega, Lib.hid ?_⟩
          cases h : blankB s[k] with
          | true => exact absurd ⟨hlt, h⟩ hgo
          | false => rfl
        · exact .inr (by omega)
      clear hgo ha
      rcases hx with ⟨hlt, hki, HB⟩ | hki
      rotate_left
      · have ek : k = s.size := by omega
        subst ek
        have HV : Hid (ByteArray.empty = ofL (trim (toL s))) := Lib.hid (by
          refine toL_inj ?_
          rw [toL_ofL]
          unfold trim
          rw [HD.out, List.drop_eq_nil_of_le (by rw [toL_length]; omega)]
          rfl)
        go_wp2_with fail
        go_loop [4] (fun t => t = .int .i64 (s.size : Nat)) (fun _ => 0)
        case atStart => rfl
        case round =>
          subst hrel
          go_wp2_with fail
          go_ret
          exact ⟨ret_string HV.out, rfl⟩
      · go_wp2_with fail
        refine (rblank_any _ _).mono ?_
        rintro e w' ⟨rfl, rfl⟩
        rw [HB.out]
        go_wp2_with fail
        go_loop [4] (fun t => ∃ m : Nat, k ≤ m ∧ m ≤ s.size ∧ t = .int .i64 m ∧ Hid (((toL s).drop k).reverse.dropWhile blankB = (((toL s).drop k).take (m - k)).reverse.dropWhile blankB)) (fun t => (intOf t).toNat)
        case atStart => exact ⟨s.size, hk, Nat.le_refl _, rfl, Lib.hid (by rw [List.take_of_length_le (by rw [HL.out]; omega)])⟩
        case round =>
          obtain ⟨m, hm1, hm2, rfl, hb⟩ := hrel
          by_cases hlt2 : k < m
          · obtain ⟨j, rfl⟩ : ∃ j, m = j + 1 := ⟨m - 1, by omega⟩
            have hji : (k : Int) < ((j + 1 : Nat) : Int) := by omega
            have HE : Hid (((toL s).drop k)[j - k]? = some s[j]) := Lib.hid (by rw [List.getElem?_drop, show k + (j - k) = j by omega]; exact toL_get s j (by omega))
            have HLA := Lib.hid (last_at _ _ _ HE.out)
            by_cases hbl : blankB s[j] = true
            · have HB2 := Lib.hid hbl
              have HA : Hid (((toL s).drop k).reverse.dropWhile blankB = (((toL s).drop k).take (j - k)).reverse.dropWhile blankB) := Lib.hid (by
                rw [hb.out, show j + 1 - k = j - k + 1 by omega, HLA.out, if_pos hbl])
              clear hbl HLA HE
              go_wp2_with fail
              refine (rblank_any _ _).mono ?_
              rintro e w' ⟨rfl, rfl⟩
              rw [HB2.out]
              go_wp2_with fail
              go_round
              case rel => exact ⟨j, by omega, by omega, rfl, HA⟩
              case measure => simp [intOf]
            · have hbl : blankB s[j] = false := by simpa using hbl
              have HB2 := Lib.hid hbl
              have HV : Hid (s.extract k (j + 1) = ofL (trim (toL s))) := Lib.hid (by
                refine toL_inj ?_
                rw [toL_extract, toL_ofL]
                unfold trim
                rw [HD.out, hb.out, show j + 1 - k = j - k + 1 by omega, HLA.out, if_neg (by rw [hbl]; decide), List.reverse_reverse, List.drop_take, show j + 1 - k = j - k + 1 by omega])
              clear hbl HLA HE
              go_wp2_with fail
              refine (rblank_any _ _).mono ?_
              rintro e w' ⟨rfl, rfl⟩
              rw [HB2.out]
              go_wp2_with fail
              go_ret
              exact ⟨ret_string HV.out, rfl⟩
          · have em : m = k := by omega
            subst em
            have HV : Hid (ByteArray.empty = ofL (trim (toL s))) := Lib.hid (by
              refine toL_inj ?_
              rw [toL_ofL]
              unfold trim
              rw [HD.out, hb.out, Nat.sub_self]
              rfl)
            go_wp2_with fail
            go_ret
            exact ⟨ret_string HV.out, rfl⟩
end Go.Proofs.YtclecgopmegjeaaDoor.RTrim
