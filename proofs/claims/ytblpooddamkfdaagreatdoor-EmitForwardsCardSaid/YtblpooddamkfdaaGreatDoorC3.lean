/- Texts of this seat, one behind another: RFar, RParseAll. -/

import Derived.Test.YtblpooddamkfdaaGreatDoorC2
/- Layer 6, the document's own Parse: a target behind a scheme. -/
namespace Go.Proofs.YtblpooddamkfdaaGreatDoor.RFar
open Go.ChangeShapes Go.WideShapes Go.ChangeAt Go.RowKit LexPure Bytes Ret CutAt HostPure TargetPure RAuth RLower RLocal RParse TBox RBox Mem
set_option maxRecDepth 20000
theorem scheme_say (s : ByteArray) (h7 : 7 ≤ s.size) : ((ofL (lower (toL (s.extract 0 7)))).toList == SCHEME) = hasScheme (toL s) := by
  unfold hasScheme alike
  rw [is_text, toL_ofL, toL_extract, List.drop_zero, decide_eq_true (by rw [toL_length]; exact h7), show lower SCHEME = SCHEME by decide]
  rfl
theorem first_at {s : ByteArray} {k : Nat} (h : k < s.size) : (s.extract k s.size)[0]'(by rw [ByteArray.size_extract]; omega) = s[k] := by
  have h1 := toL_get (s.extract k s.size) 0 (by rw [ByteArray.size_extract]; omega)
  rw [toL_extract, List.take_of_length_le (by rw [toL_length]; exact Nat.le_refl _), List.getElem?_drop, Nat.add_zero, toL_get s k h] at h1
  exact (Option.some.inj h1).symm
set_option maxHeartbeats 3200000 in
theorem rparse_other (m s : ByteArray) (hm : (toL m == CONNECT) = false) (hs : (toL s == [42]) = false) (hh : HeadNot s) (h7 : 7 ≤ s.size) (hl : s.size ≤ 1048576) (hsc : hasScheme (toL s) = false) (w : World) :
    Calls Tryz.prog 23 #[.string m, .string s] w fun e w' => e = .returned (rv (zero, 60)) ∧ Below w.heap.size w w' := by
  have t1 := is_text m CONNECT
  rw [hm] at t1
  unfold CONNECT at t1
  have t2 := is_text s [42]
  rw [hs] at t2
  have t3 := scheme_say s h7
  rw [hsc] at t3
  unfold SCHEME at t3
  have h7i : (7 : Int) ≤ (s.size : Int) := by omega
  have h0i : (0 : Int) < (s.size : Int) := by omega
  obtain ⟨h0, hq⟩ : ∃ h : 0 < s.size, ((s[0].toNat : Int) == 47) = false := by
    rcases hh with h | h
    · omega
    · exact h
  have HL := Lib.hid (fun w => rlower_any (s.extract 0 7) (by rw [ByteArray.size_extract]; omega) w)
  have HT := Lib.hid (ROne.start w)
  clear hm hs hh hsc hl h7
  generalize ofL (lower (toL (s.extract 0 7))) = L at *
  go_enter Tryz.func23, Tryz.ntmps23
  go_wp2_with fail
  generalize w.alloc (.cells #[.int .i64 0, .string ⟨#[]⟩, .int .i64 0, .string ⟨#[]⟩, .string ⟨#[]⟩, .bool false] 27) = W at HT ⊢
  obtain ⟨g, hg⟩ : ∃ g, g = w.heap.size := ⟨_, rfl⟩
  rw [← hg] at HT ⊢
  replace hg := Lib.hid hg
  refine (HL.out _).mono ?_
  rintro e w1 ⟨rfl, hb1⟩
  replace HT := Lib.hid (HT.out.call hb1)
  clear HL hb1
  obtain ⟨r0, r1, r2, r3, r4, r5⟩ := HT.out.rbox.cells
  obtain ⟨f0, f1, f2, f3, f4, f5⟩ := HT.out.rbox.frees
  have HE := Lib.hid (HT.out.rbox.put zero)
  have HB := Lib.hid (HT.out.put zero)
  go_wp2_with fail
  refine bodyPost_ret (v := rv (zero, 60)) ?_ rfl ⟨rfl, HB.out⟩
  rw [results_cell_tmp rfl]
  exact end_rbox rfl rfl HE.out
set_option maxHeartbeats 3200000 in
theorem rparse_far (m s : ByteArray) (hm : (toL m == CONNECT) = false) (hs : (toL s == [42]) = false) (hh : HeadNot s) (h7 : 7 ≤ s.size) (hl : s.size ≤ 1048576) (hsc : hasScheme (toL s) = true) (w : World) :
    Calls Tryz.prog 23 #[.string m, .string s] w fun e w' => e = .returned (rv (absolute6 ((toL s).drop 7))) ∧ Below w.heap.size w w' := by
  have t1 := is_text m CONNECT
  rw [hm] at t1
  unfold CONNECT at t1
  have t2 := is_text s [42]
  rw [hs] at t2
  have t3 := scheme_say s h7
  rw [hsc] at t3
  unfold SCHEME at t3
  have h7i : (7 : Int) ≤ (s.size : Int) := by omega
  have h0i : (0 : Int) < (s.size : Int) := by omega
  have hli : (s.size : Int) ≤ 1048576 := by omega
  obtain ⟨h0, hq⟩ : ∃ h : 0 < s.size, ((s[0].toNat : Int) == 47) = false := by
    rcases hh with h | h
    · omega
    · exact h
  have HL := Lib.hid (fun w => rlower_any (s.extract 0 7) (by rw [ByteArray.size_extract]; omega) w)
  have HT := Lib.hid (ROne.start w)
  obtain ⟨x, hx⟩ : ∃ x, x = absolute6 ((toL s).drop 7) := ⟨_, rfl⟩
  rw [← hx]
  replace hx := Lib.hid hx
  clear hm hs hh hsc
  generalize ofL (lower (toL (s.extract 0 7))) = L at *
  go_enter Tryz.func23, Tryz.ntmps23
  go_wp2_with fail
  generalize w.alloc (.cells #[.int .i64 0, .string ⟨#[]⟩, .int .i64 0, .string ⟨#[]⟩, .string ⟨#[]⟩, .bool false] 27) = W at HT ⊢
  obtain ⟨g, hg⟩ : ∃ g, g = w.heap.size := ⟨_, rfl⟩
  rw [← hg] at HT ⊢
  replace hg := Lib.hid hg
  refine (HL.out _).mono ?_
  rintro e w1 ⟨rfl, hb1⟩
  replace HT := Lib.hid (HT.out.call hb1)
  clear HL hb1
  go_wp2_with fail
  go_loop [9] (fun i => ∃ k : Nat, 7 ≤ k ∧ k ≤ s.size ∧ i = .int .i64 k ∧ Hid ((((toL s).take k).drop 7).all (fun c => !endC c) = true)) (fun i => s.size - (intOf i).toNat)
  case atStart => exact ⟨7, Nat.le_refl _, h7, rfl, Lib.hid (by rw [List.drop_of_length_le (List.length_take_le _ _)]; rfl)⟩
  case round =>
    obtain ⟨k, hk7, hk, rfl, ha⟩ := hrel
    have hk7i : (7 : Int) ≤ (k : Int) := by omega
    have c3 : (k : Int) ≤ (s.size : Int) := by omega
    have HA := Lib.hid (fun w => rauth_any (s.extract 7 k) (by rw [ByteArray.size_extract]; omega) w)
    rw [toL_extract] at HA
    have eR : toL (s.extract k s.size) = (toL s).drop k := by rw [toL_extract, List.take_of_length_le (by rw [toL_length]; exact Nat.le_refl _)]
    have sR : (s.extract k s.size).size = s.size - k := by rw [ByteArray.size_extract]; omega
    by_cases hlt : k < s.size
    · have hki : (k : Int) < (s.size : Int) := by omega
      have HTS := Lib.hid (toL_take_succ s k hlt)
      rcases end_cases s[k] with ⟨he, q1, q2⟩ | ⟨he, hx2, q1⟩ | ⟨he, hx2, q1, q2⟩
      · have HN : Hid ((((toL s).take (k + 1)).drop 7).all (fun c => !endC c) = true) := Lib.hid (by
          rw [HTS.out, List.drop_append_of_le_length (by rw [List.length_take, toL_length]; omega), List.all_append, ha.out]
          simp [he])
        clear HTS ha he eR sR HA
        go_wp2_with fail
        go_round
        case rel => exact ⟨k + 1, by omega, by omega, by go_num, HN⟩
        case measure => simp [intOf]; omega
      · obtain ⟨a1, a2⟩ := inA_end hk7 hk ha.out (fun _ => he)
        rw [← a1] at HA
        rw [← a2] at eR
        have n1 : ¬ s.size - k = 0 := by omega
        have n2 : 0 < s.size - k := by omega
        have n3 : (((s.size - k : Nat) : Int) == 0) = false := beq_eq_false_iff_ne.2 (by omega)
        have hg0 := first_at (s := s) (k := k) hlt
        have n4 : ((((s.extract k s.size)[0]'(by omega)).toNat : Int) != 47) = false := by rw [hg0]; exact q1
        have HSL : Hid (toL (s.extract k s.size) = slashed (outA ((toL s).drop 7))) := Lib.hid (by rw [eR, a2, toL_drop s k hlt, hx2]; rfl)
        clear HTS ha he a1 a2 hg0 hx2
        go_wp2_with fail
        refine (HA.out _).mono ?_
        rintro e w2 ⟨rfl, hb2⟩
        replace HT := Lib.hid (HT.out.call hb2)
        clear HA hb2
        cases hau : authO (inA ((toL s).drop 7)) with
        | none =>
          have hr : x = (zero, 61) := by rw [hx.out]; unfold absolute6; rw [hau]
          subst hr
          rw [(auth_none hau).1, (auth_none hau).2.1, (auth_none hau).2.2]
          obtain ⟨r0, r1, r2, r3, r4, r5⟩ := HT.out.rbox.cells
          obtain ⟨f0, f1, f2, f3, f4, f5⟩ := HT.out.rbox.frees
          have HE := Lib.hid (HT.out.rbox.put zero)
          have HB := Lib.hid (HT.out.put zero)
          clear hx hau HSL eR
          go_wp2_with fail
          refine bodyPost_ret (v := rv (zero, 61)) ?_ rfl ⟨rfl, HB.out⟩
          rw [results_cell_tmp rfl]
          exact end_rbox rfl rfl HE.out
        | some q =>
          obtain ⟨h, p⟩ := q
          have hr : x = local6 ⟨2, h, p, [], [], false⟩ (slashed (outA ((toL s).drop 7))) := by rw [hx.out]; unfold absolute6; rw [hau]
          rw [(auth_some hau).1, (auth_some hau).2.1, (auth_some hau).2.2]
          have HW := Lib.hid (fun w => rlocal_in 2 h p (s.extract k s.size) (by rw [ByteArray.size_extract]; omega) x (by rw [hr]; congr 1; exact HSL.out.symm) w)
          clear hx hau HSL eR hr
          go_wp2_with fail
          refine (HW.out _).mono ?_
          rintro e w4 ⟨rfl, hb4⟩
          replace HT := Lib.hid (HT.out.call hb4)
          clear HW hb4
          obtain ⟨r0, r1, r2, r3, r4, r5⟩ := HT.out.rbox.cells
          obtain ⟨f0, f1, f2, f3, f4, f5⟩ := HT.out.rbox.frees
          have HE := Lib.hid (HT.out.rbox.put x.1)
          have HB := Lib.hid (HT.out.put x.1)
          go_wp2_with fail
          refine bodyPost_ret (v := rv x) ?_ rfl ⟨rfl, HB.out⟩
          rw [results_cell_tmp rfl]
          exact end_rbox rfl rfl HE.out
      · obtain ⟨a1, a2⟩ := inA_end hk7 hk ha.out (fun _ => he)
        rw [← a1] at HA
        rw [← a2] at eR
        have n1 : ¬ s.size - k = 0 := by omega
        have n2 : 0 < s.size - k := by omega
        have n3 : (((s.size - k : Nat) : Int) == 0) = false := beq_eq_false_iff_ne.2 (by omega)
        have hg0 := first_at (s := s) (k := k) hlt
        have sp1 : (⟨#[47]⟩ : ByteArray).size + (s.extract k s.size).size ≤ 9223372036854775807 := by rw [sR]; exact (by omega : 1 + (s.size - k) ≤ 9223372036854775807)
        have n4 : ((((s.extract k s.size)[0]'(by omega)).toNat : Int) != 47) = true := by rw [hg0]; exact q1
        have HSL : Hid (toL (⟨#[47]⟩ ++ s.extract k s.size) = slashed (outA ((toL s).drop 7))) := Lib.hid (by rw [toL_append, eR, a2, toL_drop s k hlt, hx2]; rfl)
        clear HTS ha he a1 a2 hg0 hx2
        go_wp2_with fail
        refine (HA.out _).mono ?_
        rintro e w2 ⟨rfl, hb2⟩
        replace HT := Lib.hid (HT.out.call hb2)
        clear HA hb2
        cases hau : authO (inA ((toL s).drop 7)) with
        | none =>
          have hr : x = (zero, 61) := by rw [hx.out]; unfold absolute6; rw [hau]
          subst hr
          rw [(auth_none hau).1, (auth_none hau).2.1, (auth_none hau).2.2]
          obtain ⟨r0, r1, r2, r3, r4, r5⟩ := HT.out.rbox.cells
          obtain ⟨f0, f1, f2, f3, f4, f5⟩ := HT.out.rbox.frees
          have HE := Lib.hid (HT.out.rbox.put zero)
          have HB := Lib.hid (HT.out.put zero)
          clear hx hau HSL eR
          go_wp2_with fail
          refine bodyPost_ret (v := rv (zero, 61)) ?_ rfl ⟨rfl, HB.out⟩
          rw [results_cell_tmp rfl]
          exact end_rbox rfl rfl HE.out
        | some q =>
          obtain ⟨h, p⟩ := q
          have hr : x = local6 ⟨2, h, p, [], [], false⟩ (slashed (outA ((toL s).drop 7))) := by rw [hx.out]; unfold absolute6; rw [hau]
          rw [(auth_some hau).1, (auth_some hau).2.1, (auth_some hau).2.2]
          have HW := Lib.hid (fun w => rlocal_in 2 h p (⟨#[47]⟩ ++ s.extract k s.size) (by rw [ByteArray.size_append, ByteArray.size_extract]; exact (by omega : 1 + (min s.size s.size - k) ≤ 1048576)) x (by rw [hr]; congr 1; exact HSL.out.symm) w)
          clear hx hau HSL eR hr
          go_wp2_with fail
          refine (HW.out _).mono ?_
          rintro e w4 ⟨rfl, hb4⟩
          replace HT := Lib.hid (HT.out.call hb4)
          clear HW hb4
          obtain ⟨r0, r1, r2, r3, r4, r5⟩ := HT.out.rbox.cells
          obtain ⟨f0, f1, f2, f3, f4, f5⟩ := HT.out.rbox.frees
          have HE := Lib.hid (HT.out.rbox.put x.1)
          have HB := Lib.hid (HT.out.put x.1)
          go_wp2_with fail
          refine bodyPost_ret (v := rv x) ?_ rfl ⟨rfl, HB.out⟩
          rw [results_cell_tmp rfl]
          exact end_rbox rfl rfl HE.out
    · obtain ⟨a1, a2⟩ := inA_end hk7 hk ha.out (fun h => absurd h hlt)
      rw [← a1] at HA
      rw [← a2] at eR
      have sp1 : (⟨#[47]⟩ : ByteArray).size + (s.extract k s.size).size ≤ 9223372036854775807 := by rw [sR]; exact (by omega : 1 + (s.size - k) ≤ 9223372036854775807)
      have n1 : s.size - k = 0 := by omega
      have n3 : (((s.size - k : Nat) : Int) == 0) = true := by rw [n1]; rfl
      have nlt : ¬ (k : Int) < (s.size : Int) := by omega
      have HSL : Hid (toL (⟨#[47]⟩ ++ s.extract k s.size) = slashed (outA ((toL s).drop 7))) := Lib.hid (by rw [toL_append, eR, a2, List.drop_of_length_le (by rw [toL_length]; omega)]; rfl)
      clear ha a1 a2 hlt
      go_wp2_with fail
      refine (HA.out _).mono ?_
      rintro e w2 ⟨rfl, hb2⟩
      replace HT := Lib.hid (HT.out.call hb2)
      clear HA hb2
      cases hau : authO (inA ((toL s).drop 7)) with
      | none =>
        have hr : x = (zero, 61) := by rw [hx.out]; unfold absolute6; rw [hau]
        subst hr
        rw [(auth_none hau).1, (auth_none hau).2.1, (auth_none hau).2.2]
        obtain ⟨r0, r1, r2, r3, r4, r5⟩ := HT.out.rbox.cells
        obtain ⟨f0, f1, f2, f3, f4, f5⟩ := HT.out.rbox.frees
        have HE := Lib.hid (HT.out.rbox.put zero)
        have HB := Lib.hid (HT.out.put zero)
        clear hx hau HSL eR
        go_wp2_with fail
        refine bodyPost_ret (v := rv (zero, 61)) ?_ rfl ⟨rfl, HB.out⟩
        rw [results_cell_tmp rfl]
        exact end_rbox rfl rfl HE.out
      | some q =>
        obtain ⟨h, p⟩ := q
        have hr : x = local6 ⟨2, h, p, [], [], false⟩ (slashed (outA ((toL s).drop 7))) := by rw [hx.out]; unfold absolute6; rw [hau]
        rw [(auth_some hau).1, (auth_some hau).2.1, (auth_some hau).2.2]
        have HW := Lib.hid (fun w => rlocal_in 2 h p (⟨#[47]⟩ ++ s.extract k s.size) (by rw [ByteArray.size_append, ByteArray.size_extract]; exact (by omega : 1 + (min s.size s.size - k) ≤ 1048576)) x (by rw [hr]; congr 1; exact HSL.out.symm) w)
        clear hx hau HSL eR hr
        go_wp2_with fail
        refine (HW.out _).mono ?_
        rintro e w4 ⟨rfl, hb4⟩
        replace HT := Lib.hid (HT.out.call hb4)
        clear HW hb4
        obtain ⟨r0, r1, r2, r3, r4, r5⟩ := HT.out.rbox.cells
        obtain ⟨f0, f1, f2, f3, f4, f5⟩ := HT.out.rbox.frees
        have HE := Lib.hid (HT.out.rbox.put x.1)
        have HB := Lib.hid (HT.out.put x.1)
        go_wp2_with fail
        refine bodyPost_ret (v := rv x) ?_ rfl ⟨rfl, HB.out⟩
        rw [results_cell_tmp rfl]
        exact end_rbox rfl rfl HE.out
end Go.Proofs.YtblpooddamkfdaaGreatDoor.RFar

/- Layer 6, the document's own Parse, of any target. -/
namespace Go.Proofs.YtblpooddamkfdaaGreatDoor.RParseAll
open Go.ChangeShapes Go.WideShapes Go.ChangeAt Go.RowKit LexPure Bytes TargetPure TBox RParse RFar Mem
theorem rparse_any (m s : ByteArray) (hs : s.size ≤ 1048576) (w : World) :
    Calls Tryz.prog 23 #[.string m, .string s] w fun e w' => e = .returned (rv (parse6 (toL m) (toL s))) ∧ Below w.heap.size w w' := by
  unfold parse6
  by_cases hc : (toL m == CONNECT) = true
  · rw [if_pos hc]
    exact rparse_connect m s hs hc w
  rw [if_neg hc]
  have hcf : (toL m == CONNECT) = false := by simpa using hc
  by_cases hq : (toL s == [42]) = true
  · rw [if_pos hq]
    unfold star6
    have hl : s.size = 1 := by
      have := toL_length s
      rw [beq_iff_eq] at hq
      rw [hq] at this
      exact this.symm
    have hn : ((toL s).head? == some 47) = false := by
      rw [beq_iff_eq] at hq
      rw [hq]
      decide
    by_cases ho : (toL m == OPTIONS) = true
    · rw [if_pos ho]
      exact rparse_star m s hcf hq ho w
    · rw [if_neg ho]
      exact rparse_short m s hcf (.inr ⟨hq, by simpa using ho⟩) (head_not hn) (by omega) w
  rw [if_neg hq]
  have hqf : (toL s == [42]) = false := by simpa using hq
  by_cases hh : ((toL s).head? == some 47) = true
  · rw [if_pos hh]
    exact rparse_slash m s hs hcf hh w
  rw [if_neg hh]
  have hhf : ((toL s).head? == some 47) = false := by simpa using hh
  by_cases h7 : 7 ≤ s.size
  · cases hsc : hasScheme (toL s)
    · exact rparse_other m s hcf hqf (head_not hhf) h7 hs hsc w
    · exact rparse_far m s hcf hqf (head_not hhf) h7 hs hsc w
  · have hsc : hasScheme (toL s) = false := by
      unfold hasScheme
      rw [decide_eq_false (by rw [toL_length]; exact h7)]
      rfl
    rw [hsc]
    exact rparse_short m s hcf (.inl hqf) (head_not hhf) (by omega) w
end Go.Proofs.YtblpooddamkfdaaGreatDoor.RParseAll
