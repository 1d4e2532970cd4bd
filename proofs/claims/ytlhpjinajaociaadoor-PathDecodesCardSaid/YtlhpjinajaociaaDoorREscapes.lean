/- Layer 5, the document's own Escapes. -/
import Derived.Test.YtlhpjinajaociaaDoorREsc
namespace Go.Proofs.YtlhpjinajaociaaDoor.REscapes
open Go.ChangeShapes Go.WideShapes Go.ChangeAt Go.RowKit LexPure Bytes Ret PathPure RPlain Rows1 REsc
theorem okc_true {c : UInt8} (h : okc c = true) : ¬ (c.toNat : Int) ≤ 32 ∧ ¬ 127 ≤ (c.toNat : Int) ∧ ((c.toNat : Int) == 63) = false ∧ ((c.toNat : Int) == 35) = false := by
  have := all_bytes (p := fun c => !okc c || decide (¬ (c.toNat : Int) ≤ 32 ∧ ¬ 127 ≤ (c.toNat : Int) ∧ ((c.toNat : Int) == 63) = false ∧ ((c.toNat : Int) == 35) = false)) (by decide +kernel) c
  rw [h] at this
  simpa only [Bool.not_true, Bool.false_or, decide_eq_true_eq] using this
theorem okc_false {c : UInt8} (h : okc c = false) : (c.toNat : Int) ≤ 32 ∨ (¬ (c.toNat : Int) ≤ 32 ∧ 127 ≤ (c.toNat : Int)) ∨ (¬ (c.toNat : Int) ≤ 32 ∧ ¬ 127 ≤ (c.toNat : Int) ∧ ((c.toNat : Int) == 63) = true) ∨ (¬ (c.toNat : Int) ≤ 32 ∧ ¬ 127 ≤ (c.toNat : Int) ∧ ((c.toNat : Int) == 63) = false ∧ ((c.toNat : Int) == 35) = true) := by
  have := all_bytes (p := fun c => okc c || decide ((c.toNat : Int) ≤ 32 ∨ (¬ (c.toNat : Int) ≤ 32 ∧ 127 ≤ (c.toNat : Int)) ∨ (¬ (c.toNat : Int) ≤ 32 ∧ ¬ 127 ≤ (c.toNat : Int) ∧ ((c.toNat : Int) == 63) = true) ∨ (¬ (c.toNat : Int) ≤ 32 ∧ ¬ 127 ≤ (c.toNat : Int) ∧ ((c.toNat : Int) == 63) = false ∧ ((c.toNat : Int) == 35) = true))) (by decide +kernel) c
  rw [h] at this
  simpa only [Bool.false_or, decide_eq_true_eq] using this
theorem bv_of {n : Nat} (h : n < 256) : bv (UInt8.ofNat n) = .int .u8 (n : Int) := by
  have := all_below (p := fun n => (((UInt8.ofNat n).toNat : Int) == (n : Int))) (by decide +kernel) h
  rw [beq_iff_eq] at this
  unfold bv
  rw [this]
set_option maxHeartbeats 4000000 in
theorem loop_any (s : ByteArray) (hs : s.size ≤ 140737488351232) (h0 : 0 < s.size) (hsl : s[0] = 47) (w : World) :
    Calls Tryd.prog 14 #[.string s] w fun e w' => e = .returned (.tuple #[.string (ofL ((esc (toL s)).getD [])), .bool (esc (toL s)).isSome]) ∧ Below w.heap.size w w' := by
  obtain ⟨i0, hi, hz0, hz1, hz2⟩ := info_parts infoB
  have hq0 : ((s.size : Int) == 0) = false := beq_eq_false_iff_ne.2 (by omega)
  have hq1 : ((s[0].toNat : Int) != 47) = false := by rw [hsl]; rfl
  clear hsl
  go_enter Tryd.func14, Tryd.ntmps14
  go_wp2_with fail
  go_loopw [4, 5] (fun v i wr => ∃ k : Nat, k ≤ s.size ∧ i = .int .i64 k ∧ Hid (∃ G, Got w k v G wr ∧ esc (toL s) = (esc ((toL s).drop k)).map (G ++ ·))) (fun _ i _ => s.size - (intOf i).toNat)
  case atStart => exact ⟨0, Nat.zero_le _, rfl, Lib.hid ⟨[], Got.start w, by simp⟩⟩
  case round =>
    obtain ⟨k, hk, rfl, HI⟩ := hrel
    obtain ⟨G, I, hd⟩ := HI.out
    have hrow := I.row
    have hbw := I.below
    have hbs := hbw.size
    have hfew := I.few
    by_cases hlt : k < s.size
    · have hki : (k : Int) < (s.size : Int) := by omega
      by_cases hok : okc s[k] = true
      · obtain ⟨o1, o2, o3, o4⟩ := okc_true hok
        by_cases h37 : s[k] = 37
        · have hq : (s[k].toNat : Int) = 37 := by rw [h37]; rfl
          clear o1 o2 o3 o4
          have HA := Lib.hid (fun w => rat_any s (by omega) k hlt w)
          by_cases hn : atL ((toL s).drop k) < 0
          · have HV : Hid (esc (toL s) = none) := Lib.hid (by rw [hd, (atL_none hlt h37 hn).2]; rfl)
            generalize atL ((toL s).drop k) = z at *
            clear hd HI I hrow h37 hok
            go_wp2_with fail
            refine (HA.out _).mono ?_
            rintro e w' ⟨rfl, rfl⟩
            go_wp2_with fail
            go_ret2
            rw [HV.out]
            exact ⟨rfl, hbw⟩
          · obtain ⟨n, hn1, hn2, hn3, _, hn4⟩ := atL_some hlt h37 hn
            have hnb : (n : Int) ≤ 255 := by omega
            have HP := Lib.hid (fun w => rplain_any n hn2 w)
            rw [hn1] at HA
            by_cases hp : plainP n = true
            · have HB := Lib.hid (bv_of hn2)
              have HD : Hid (esc (toL s) = (esc ((toL s).drop (k + 3))).map ((G ++ [UInt8.ofNat n]) ++ ·)) := Lib.hid (by
                rw [hd, hn4, Option.map_map]
                unfold PathPure.wr
                rw [hp]
                congr 1
                funext x
                simp)
              rw [hp] at HP
              have HI2 := Lib.hid I
              clear hd HI h37 hn hn1 hn2 hn4 I hok hp
              go_wp2_with fail
              refine (HA.out _).mono ?_
              rintro e w' ⟨rfl, rfl⟩
              go_wp2_with fail
              refine (HP.out _).mono ?_
              rintro e w' ⟨rfl, rfl⟩
              go_wp2_with (at_builtin; refine wpList_append_own _ rfl _ _ 40 rfl w.heap.size 5 i0 (.int .u8 0) 1 1 Tryd.underlying40 hi hz0 hz1 hz2 rfl (by decide) _ _ _ rfl (hrow.alloc _) ⟨wr.heap.size, 0, none⟩ 1 1 [.int .u8 (n : Int)] rfl rfl (cell_one_new _ _ _) (fun x hx => by simp at hx; subst hx; rfl) (by unfold maxLen; omega) (by omega) (by simp; omega) ?_; intro v' w3 hown' hgrow3 hnil3)
              rw [← HB.out] at hown'
              have HI3 := Lib.hid (got_push HI2.out hown' hgrow3 (j := (k + 3)) (by omega))
              clear hown' hgrow3 hnil3 HI2 hrow hbs hfew
              have hrow := HI3.out.row
              have hbs := HI3.out.below.size
              have hfew := HI3.out.few
              have hglen : (G ++ [UInt8.ofNat n]).length = G.length + 1 := by simp

              have HR : Hid (∃ G, Got w (k + 3) v' G w3 ∧ esc (toL s) = (esc ((toL s).drop (k + 3))).map (G ++ ·)) := Lib.hid ⟨_, HI3.out, HD.out⟩
              clear HI3 HD HB HA HP hrow hbs hfew
              go_wp2_with fail
              go_roundw
              case rel => exact ⟨k + 3, by omega, by go_num, HR⟩
              case measure => simp [intOf]; omega
            · have hp : plainP n = false := by simpa using hp
              have HD : Hid (esc (toL s) = (esc ((toL s).drop (k + 3))).map ((G ++ [37, hx (n / 16), hx (n % 16)]) ++ ·)) := Lib.hid (by
                rw [hd, hn4, Option.map_map]
                unfold PathPure.wr
                rw [hp]
                congr 1
                funext x
                simp)
              rw [hp] at HP
              have HI2 := Lib.hid I
              have HX1 := Lib.hid (fun w => rhexd_any (n / 16) (by omega) w)
              have HX2 := Lib.hid (fun w => rhexd_any (n % 16) (by omega) w)
              clear hd HI h37 hn hn1 hn2 hn4 I hok hp
              go_wp2_with fail
              refine (HA.out _).mono ?_
              rintro e w' ⟨rfl, rfl⟩
              go_wp2_with fail
              refine (HP.out _).mono ?_
              rintro e w' ⟨rfl, rfl⟩
              have HB1 : Hid (bv 37 = .int .u8 37) := Lib.hid rfl
              have HB2 : Hid (bv (hx (n / 16)) = .int .u8 ((hx (n / 16)).toNat : Int)) := Lib.hid rfl
              have HB3 : Hid (bv (hx (n % 16)) = .int .u8 ((hx (n % 16)).toNat : Int)) := Lib.hid rfl
              rw [show ((n / 16 : Nat) : Int) = (n : Int) / 16 by omega] at HX1
              rw [show ((n % 16 : Nat) : Int) = (n : Int) % 16 by omega] at HX2
              have hx1 : ((hx (n / 16)).toNat : Int) ≤ 255 := by have := (hx (n / 16)).toNat_lt; omega
              have hx2 : ((hx (n % 16)).toNat : Int) ≤ 255 := by have := (hx (n % 16)).toNat_lt; omega
              go_wp2_with (at_builtin; refine wpList_append_own _ rfl _ _ 40 rfl w.heap.size 5 i0 (.int .u8 0) 1 1 Tryd.underlying40 hi hz0 hz1 hz2 rfl (by decide) _ _ _ rfl (hrow.alloc _) ⟨wr.heap.size, 0, none⟩ 1 1 [.int .u8 37] rfl rfl (cell_one_new _ _ _) (fun x hx => by simp at hx; subst hx; rfl) (by unfold maxLen; omega) (by omega) (by simp; omega) ?_; intro va wa hown' hgrow3 hnil3)
              rw [← HB1.out] at hown'
              replace HI2 := Lib.hid (got_push HI2.out hown' hgrow3 (j := (k + 1)) (by omega))
              clear hown' hgrow3 hnil3 hrow hbs hfew
              have hrow := HI2.out.row
              have hbs := HI2.out.below.size
              have hfew := HI2.out.few
              go_wp2_with fail
              refine (HX1.out _).mono ?_
              rintro e w' ⟨rfl, rfl⟩
              go_wp2_with (at_builtin; refine wpList_append_own _ rfl _ _ 40 rfl w.heap.size 5 i0 (.int .u8 0) 1 1 Tryd.underlying40 hi hz0 hz1 hz2 rfl (by decide) _ _ _ rfl (hrow.alloc _) ⟨wa.heap.size, 0, none⟩ 1 1 [.int .u8 ((hx (n / 16)).toNat : Int)] rfl rfl (cell_one_new _ _ _) (fun x hx => by simp at hx; subst hx; rfl) (by unfold maxLen; omega) (by omega) (by simp; omega) ?_; intro vb wb hown' hgrow3 hnil3)
              rw [← HB2.out] at hown'
              replace HI2 := Lib.hid (got_push HI2.out hown' hgrow3 (j := (k + 2)) (by omega))
              clear hown' hgrow3 hnil3 hrow hbs hfew
              have hrow := HI2.out.row
              have hbs := HI2.out.below.size
              have hfew := HI2.out.few
              go_wp2_with fail
              refine (HX2.out _).mono ?_
              rintro e w' ⟨rfl, rfl⟩
              go_wp2_with (at_builtin; refine wpList_append_own _ rfl _ _ 40 rfl w.heap.size 5 i0 (.int .u8 0) 1 1 Tryd.underlying40 hi hz0 hz1 hz2 rfl (by decide) _ _ _ rfl (hrow.alloc _) ⟨wb.heap.size, 0, none⟩ 1 1 [.int .u8 ((hx (n % 16)).toNat : Int)] rfl rfl (cell_one_new _ _ _) (fun x hx => by simp at hx; subst hx; rfl) (by unfold maxLen; omega) (by omega) (by simp; omega) ?_; intro vc wc hown' hgrow3 hnil3)
              rw [← HB3.out] at hown'
              replace HI2 := Lib.hid (got_push HI2.out hown' hgrow3 (j := (k + 3)) (by omega))
              clear hown' hgrow3 hnil3 hrow hbs hfew
              have hrow := HI2.out.row
              have hbs := HI2.out.below.size
              have hfew := HI2.out.few
              have HR : Hid (∃ G, Got w (k + 3) vc G wc ∧ esc (toL s) = (esc ((toL s).drop (k + 3))).map (G ++ ·)) := Lib.hid ⟨_, HI2.out, by have := HD.out; simpa using this⟩
              clear HI2 HD HA HP HX1 HX2 HB1 HB2 HB3 hrow hbs hfew
              go_wp2_with fail
              go_roundw
              case rel => exact ⟨k + 3, by omega, by go_num, HR⟩
              case measure => simp [intOf]; omega

        · have hq := sign_ne h37
          have HD : Hid (esc (toL s) = (esc ((toL s).drop (k + 1))).map ((G ++ [s[k]]) ++ ·)) := Lib.hid (by
            rw [hd, toL_drop s k hlt, esc_cons, if_pos hok, if_neg (by simpa using h37), Option.map_map]
            congr 1
            funext x
            simp)
          have HB : Hid (bv s[k] = .int .u8 (s[k].toNat : Int)) := Lib.hid rfl
          have HI2 := Lib.hid I
          clear hd HI h37 I hok
          go_wp2_with (at_builtin; refine wpList_append_own _ rfl _ _ 40 rfl w.heap.size 5 i0 (.int .u8 0) 1 1 Tryd.underlying40 hi hz0 hz1 hz2 rfl (by decide) _ _ _ rfl (hrow.alloc _) ⟨wr.heap.size, 0, none⟩ 1 1 [.int .u8 (s[k].toNat : Int)] rfl rfl (cell_one_new _ _ _) (fun x hx => by simp at hx; subst hx; rfl) (by unfold maxLen; omega) (by omega) (by simp; omega) ?_; intro v' w3 hown' hgrow3 hnil3)
          rw [← HB.out] at hown'
          have HI3 := Lib.hid (got_push HI2.out hown' hgrow3 (j := (k + 1)) (by omega))
          clear hown' hgrow3 hnil3 HI2 hrow hbs hfew
          have hrow := HI3.out.row
          have hbs := HI3.out.below.size
          have hfew := HI3.out.few
          have hglen : (G ++ [s[k]]).length = G.length + 1 := by simp

          have HR : Hid (∃ G, Got w (k + 1) v' G w3 ∧ esc (toL s) = (esc ((toL s).drop (k + 1))).map (G ++ ·)) := Lib.hid ⟨_, HI3.out, HD.out⟩
          clear HI3 HD HB hrow hbs hfew
          go_wp2_with fail
          go_roundw
          case rel => exact ⟨k + 1, by omega, by go_num, HR⟩
          case measure => simp [intOf]; omega
      · have hok : okc s[k] = false := by simpa using hok
        have HV : Hid (esc (toL s) = none) := Lib.hid (by rw [hd, toL_drop s k hlt, esc_cons, if_neg (by simp [hok])]; rfl)
        have ho := okc_false hok
        clear hd HI I hrow hok
        rcases ho with o1 | ⟨o1, o2⟩ | ⟨o1, o2, o3⟩ | ⟨o1, o2, o3, o4⟩
        all_goals
          go_wp2_with fail
          go_ret2
          rw [HV.out]
          exact ⟨rfl, hbw⟩
    · have HC := own_string (P := Tryd.prog) hrow 40 9 Tryd.underlying40 Tryd.underlying5 Tryd.underlying9
      have HV : Hid (esc (toL s) = some G) := Lib.hid (by
        rw [hd, List.drop_eq_nil_of_le (by rw [toL_length]; omega)]
        show some (G ++ []) = _
        rw [List.append_nil])
      clear hd HI I hrow
      go_wp2_with fail
      go_ret2
      rw [HV.out]
      exact ⟨rfl, hbw⟩
theorem slash_ne {c : UInt8} (h : ¬ c = 47) : ((c.toNat : Int) != 47) = true := by
  have := all_bytes (p := fun b => (((b.toNat : Int) != 47) == (b != 47))) (by decide +kernel) c
  rw [beq_iff_eq] at this
  rw [this, bne_iff_ne]
  exact h
theorem rescapes_any (s : ByteArray) (hs : s.size ≤ 140737488351232) (w : World) :
    Calls Tryd.prog 14 #[.string s] w fun e w' => e = .returned (.tuple #[.string (ofL ((escapes (toL s)).getD [])), .bool (escapes (toL s)).isSome]) ∧ Below w.heap.size w w' := by
  by_cases h0 : s.size = 0
  · have hnil : toL s = [] := List.length_eq_zero_iff.1 (by rw [toL_length]; exact h0)
    have hn : escapes (toL s) = none := by rw [hnil]; rfl
    have hq : ((s.size : Int) == 0) = true := by rw [h0]; rfl
    rw [hn]
    clear hn hnil
    go_enter Tryd.func14, Tryd.ntmps14
    go_wp2_with fail
    go_ret2
    exact ⟨rfl, Below.refl _ _⟩
  · have hpos : 0 < s.size := by omega
    have hd : toL s = s[0] :: (toL s).drop 1 := by
      have := toL_drop s 0 hpos
      simpa using this
    by_cases hsl : s[0] = 47
    · have he : escapes (toL s) = esc (toL s) := by
        rw [hd]
        show (if (s[0] == 47) = true then esc (s[0] :: (toL s).drop 1) else none) = _
        rw [if_pos (by rw [hsl]; rfl)]
      rw [he]
      exact loop_any s hs hpos hsl w
    · have hn : escapes (toL s) = none := by
        rw [hd]
        show (if (s[0] == 47) = true then esc (s[0] :: (toL s).drop 1) else none) = _
        rw [if_neg (by simpa using hsl)]
      have hq : ((s.size : Int) == 0) = false := beq_eq_false_iff_ne.2 (by omega)
      have hq2 := slash_ne hsl
      rw [hn]
      clear hn hd hsl h0
      go_enter Tryd.func14, Tryd.ntmps14
      go_wp2_with fail
      go_ret2
      exact ⟨rfl, Below.refl _ _⟩
end Go.Proofs.YtlhpjinajaociaaDoor.REscapes
