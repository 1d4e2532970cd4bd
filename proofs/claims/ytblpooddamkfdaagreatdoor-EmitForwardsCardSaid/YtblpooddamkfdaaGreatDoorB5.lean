/- Texts of this seat, one behind another: R8ReadF1. -/

import Derived.Test.YtblpooddamkfdaaGreatDoorB3
/- Layer 8, the document's own Read: a request, the first loop left where the bytes are too short. -/
namespace Go.Proofs.YtblpooddamkfdaaGreatDoor.R8ReadF1
open Go.ChangeShapes Go.WideShapes Go.ChangeAt Go.RowKit LexPure Bytes Ret Rows1 FieldsPure HeadPure Flds HBox KeptRow Mem R8End R8Start R8Status R8Field R8ReadB
set_option maxRecDepth 20000
set_option linter.unusedVariables false
set_option maxHeartbeats 1600000 in
theorem r8read_false (s : ByteArray) (hs : s.size ≤ 140737488351232) (K : Nat) (hK : skip8 (toL s) = K) (hle0 : K ≤ s.size) (hway : s.size ≤ K + 1) (w : World) :
    Calls Tryz.prog 20 #[.string s, .bool false] w fun e w' => ∃ v, e = .returned (hrv3 (resH (read8 false (toL s))) v (resN (read8 false (toL s))) (resE (read8 false (toL s)))) ∧ RowF w' w.heap.size v (resH (read8 false (toL s))).fields ∧ Below w.heap.size w w' := by
  obtain ⟨i0, hi, hz0, hz1, hz2⟩ := info_parts infoF
  have HS := Lib.hid (St.start w)
  obtain ⟨X, hX⟩ : ∃ X, X = read8 false (toL s) := ⟨_, rfl⟩
  rw [← hX]
  have hXF : Hid (X = from8 false K ((toL s).drop K)) := Lib.hid (by rw [hX]; exact from_request hK)
  replace hK := Lib.hid hK
  clear hX
  go_enter Tryz.func20, Tryz.ntmps20
  go_wp2_with fail
  go_loop [7] (fun i => ∃ k : Nat, k ≤ K ∧ i = .int .i64 k ∧ Hid (K = k + skip8 ((toL s).drop k))) (fun i => s.size - (intOf i).toNat)
  case atStart => exact ⟨0, Nat.zero_le _, rfl, Lib.hid (by rw [List.drop_zero, Nat.zero_add]; exact hK.out.symm)⟩
  case round =>
    obtain ⟨k, hk, rfl, hq⟩ := hrel
    by_cases hkK : k < K
    · obtain ⟨h1, h2, h3, h4, h5⟩ := skip_on (s := s) (k := k) (by omega) (by have := hq.out; omega)
      have q1 : (k : Int) + 1 < (s.size : Int) := by omega
      have q2 : (k : Int) < (s.size : Int) := by omega
      have q3 := (mark_13 s[k]).1 h3
      have q4 := (mark_13 s[k + 1]).2.2.1 h4
      have HQ : Hid (K = k + 2 + skip8 ((toL s).drop (k + 2))) := Lib.hid (by have := hq.out; omega)
      have hk2 : k + 2 ≤ K := by have := HQ.out; omega
      clear h3 h4 h5 hq hway
      go_wp2_with fail
      go_round
      case rel => exact ⟨k + 2, hk2, by go_num, HQ⟩
      case measure => simp [intOf]; omega
    · have hke : k = K := by omega
      subst hke
      have hA := hXF
      have q1 : ¬ ((k : Int) + 1 < (s.size : Int)) := by omega
      clear hq hK hXF hkK
      go_wp2_with fail
      generalize (w.alloc (.cells #[.string ⟨#[]⟩, .string ⟨#[]⟩, .int .i64 0, .string ⟨#[]⟩, .int .i64 0, .slice none 0 0] 25)).alloc (.cells #[.string ⟨#[]⟩, .string ⟨#[]⟩, .int .i64 0, .string ⟨#[]⟩, .int .i64 0, .slice none 0 0] 25) = W at HS ⊢
      obtain ⟨g, hg⟩ : ∃ g, g = w.heap.size := ⟨_, rfl⟩
      obtain ⟨G, hG⟩ : ∃ G, G = w.heap.size + 1 := ⟨_, rfl⟩
      rw [← hG] at HS ⊢
      rw [← hg] at HS ⊢
      have hne : g ≠ G := by omega
      have hne2 : G ≠ g := by omega
      replace hg := Lib.hid hg
      replace hG := Lib.hid hG
      go_loopw [7, 9] (fun at_ n wr => ∃ a : Nat, a ≤ s.size ∧ at_ = .int .i64 a ∧ ((n = .int .i64 (-1) ∧ Hid (St w g G zero8 [] (.slice none 0 0) wr) ∧ Hid (X = from8 false a ((toL s).drop a))) ∨ (∃ (j : Nat) (H : H8) (acc : List HField) (v : Value), j ≤ 32 ∧ n = .int .i64 j ∧ Hid (acc.length = j) ∧ Hid (St w g G H acc v wr) ∧ Hid (X = fields8 H (32 - j) acc a ((toL s).drop a))))) (fun _ n _ => (33 - intOf n).toNat)
      case atStart => exact ⟨k, hle0, rfl, .inl ⟨rfl, HS, hA⟩⟩
      case round =>
        clear HS hA
        obtain ⟨a, ha, rfl, hrel⟩ := hrel
        rcases hrel with ⟨rfl, HW, HA⟩ | ⟨j, H, acc, v, hj, rfl, hl, HW, HA⟩
        · have HF : Hid (X = match scan 1100 82 0 ((toL s).drop a) with
            | .wait => .wait
            | .bad e => .bad e
            | .whole k => if (start8 (((toL s).drop a).take k)).2 = 0 then fields8 (start8 (((toL s).drop a).take k)).1 32 [] (a + k + 2) ((toL s).drop (a + k + 2)) else .bad (start8 (((toL s).drop a).take k)).2) := Lib.hid (by
              rw [HA.out]
              unfold from8
              cases scan 1100 82 0 ((toL s).drop a) with
              | wait => rfl
              | bad e => rfl
              | whole k => simp only [List.drop_drop, Bool.false_eq_true, if_false, Nat.add_assoc])
          clear HA
          cases hsc : scan 1100 82 0 ((toL s).drop a) with
          | wait =>
            have HC := Lib.hid (end_at hs ha hsc)
            rw [hsc] at HF
            have HV : X = .wait := HF.out
            subst HV
            clear HF hsc
            unfold endP at HC
            dsimp only at HC
            go_wp2_with fail
            refine (HC.out _).mono ?_
            rintro e w' ⟨rfl, rfl⟩
            have HE := Lib.hid (HW.out.putR zero8 (.slice none 0 0)).1
            have HB := Lib.hid (HW.out.putR zero8 (.slice none 0 0)).2
            obtain ⟨d0, d1, d2, d3, d4, d5⟩ := HW.out.res.cells
            obtain ⟨z0, z1, z2, z3, z4, z5⟩ := HW.out.res.frees
            go_wp2_with fail
            refine bodyPost_ret (v := hrv3 zero8 (.slice none 0 0) 0 0) ?_ rfl (ret_read (R := .wait) rfl rfl rfl rfl (row_none _ _) HB.out)
            rw [results_cell_tmp2 rfl]
            exact end_hbox3 rfl rfl rfl HE.out
          | bad er =>
            have HC := Lib.hid (end_at hs ha hsc)
            rw [hsc] at HF
            have HV : X = .bad er := HF.out
            subst HV
            clear HF hsc
            unfold endP at HC
            dsimp only at HC
            go_wp2_with fail
            refine (HC.out _).mono ?_
            rintro e w' ⟨rfl, rfl⟩
            have HE := Lib.hid (HW.out.putR zero8 (.slice none 0 0)).1
            have HB := Lib.hid (HW.out.putR zero8 (.slice none 0 0)).2
            obtain ⟨d0, d1, d2, d3, d4, d5⟩ := HW.out.res.cells
            obtain ⟨z0, z1, z2, z3, z4, z5⟩ := HW.out.res.frees
            go_wp2_with fail
            refine bodyPost_ret (v := hrv3 zero8 (.slice none 0 0) 0 er) ?_ rfl (ret_read (R := .bad er) rfl rfl rfl rfl (row_none _ _) HB.out)
            rw [results_cell_tmp2 rfl]
            exact end_hbox3 rfl rfl rfl HE.out
          | whole q =>
            have HC := end_at hs ha hsc
            have hle := whole_le hsc ha
            rw [hsc] at HF
            obtain ⟨b, hb⟩ : ∃ b, b = a + q := ⟨_, rfl⟩
            have hbs : b + 2 ≤ s.size := by omega
            have hab : a ≤ b := by omega
            have el : toL (s.extract a b) = ((toL s).drop a).take q := by rw [toL_extract, List.drop_take, show b - a = q by omega]
            replace HC : Hid (∀ w, Calls Tryz.prog 46 #[.string s, .int .i64 (a : Int), .int .i64 1100, .int .i64 82] w fun e w' => e = .returned (.tuple #[.int .i64 (b : Int), .int .i64 0]) ∧ w' = w) := Lib.hid (fun w => (HC w).mono (fun e w' h => ⟨by rw [h.1, hb]; rfl, h.2⟩))
            replace HF : Hid (X = if (start8 (toL (s.extract a b))).2 = 0 then fields8 (start8 (toL (s.extract a b))).1 32 [] (b + 2) ((toL s).drop (b + 2)) else .bad (start8 (toL (s.extract a b))).2) := Lib.hid (by rw [HF.out, el, hb])
            have hlz : (s.extract a b).size ≤ 140737488351232 := by rw [ByteArray.size_extract]; omega
            have HP := Lib.hid (fun w => r8start_any (s.extract a b) hlz w)
            clear hsc el hb hle hlz
            generalize start8 (toL (s.extract a b)) = y1 at *
            obtain ⟨yh, er⟩ := y1
            unfold hrv hv at HP
            dsimp only at HP HF
            go_wp2_with fail
            refine (HC.out _).mono ?_
            rintro e w' ⟨rfl, rfl⟩
            clear HC
            go_wp2_with fail
            refine (HP.out _).mono ?_
            rintro e w3 ⟨rfl, hb3⟩
            clear HP
            replace HW := Lib.hid (HW.out.call hb3)
            clear hb3
            obtain ⟨e0, e1, e2, e3, e4, e5⟩ := HW.out.box.cells
            obtain ⟨x0, x1, x2, x3, x4, x5⟩ := HW.out.box.frees
            obtain ⟨d0, d1, d2, d3, d4, d5⟩ := HW.out.res.cells
            obtain ⟨z0, z1, z2, z3, z4, z5⟩ := HW.out.res.frees
            replace HW := Lib.hid (HW.out.putH yh)
            by_cases h8 : er = 0
            · rw [if_pos h8] at HF
              rw [h8]
              go_wp2_with fail
              unfold hput at HW
              exact ⟨⟨b + 2, hbs, by go_num, .inr ⟨0, yh, [], .slice none 0 0, by omega, by go_num, Lib.hid rfl, HW, HF⟩⟩, by simp [intOf]⟩
            · rw [if_neg h8] at HF
              have HV : X = .bad er := HF.out
              subst HV
              have h9 : (er != 0) = true := bne_iff_ne.2 h8
              clear HF h8 d0 d1 d2 d3 d4 d5 z0 z1 z2 z3 z4 z5
              obtain ⟨W4, hW4⟩ : ∃ W4, W4 = hput w3 G yh (.slice none 0 0) := ⟨_, rfl⟩
              rw [← hW4] at HW
              unfold hput at hW4
              replace hW4 := Lib.hid hW4
              dsimp only
              iterate 15 go_step
              rw [← hW4.out]
              clear hW4 e0 e1 e2 e3 e4 e5 x0 x1 x2 x3 x4 x5
              have HE := Lib.hid (HW.out.putR zero8 (.slice none 0 0)).1
              have HB := Lib.hid (HW.out.putR zero8 (.slice none 0 0)).2
              obtain ⟨d0, d1, d2, d3, d4, d5⟩ := HW.out.res.cells
              obtain ⟨z0, z1, z2, z3, z4, z5⟩ := HW.out.res.frees
              clear HW
              go_wp2_with fail
              refine bodyPost_ret (v := hrv3 zero8 (.slice none 0 0) 0 er) ?_ rfl (ret_read (R := .bad er) rfl rfl rfl rfl (row_none _ _) HB.out)
              rw [results_cell_tmp2 rfl]
              exact end_hbox3 rfl rfl rfl HE.out

        · have HF : Hid (X = match scan 512 83 0 ((toL s).drop a) with
            | .wait => .wait
            | .bad e => .bad e
            | .whole k => if k = 0 then .done { H with fields := acc } (a + 2) else
              match 32 - j with
              | 0 => .bad 83
              | m + 1 => if (field8 (((toL s).drop a).take k)).2 = 0 then fields8 H m (acc ++ [(field8 (((toL s).drop a).take k)).1]) (a + k + 2) (((toL s).drop a).drop (k + 2)) else .bad 70) := Lib.hid (by
              rw [HA.out]
              conv => lhs; unfold fields8
              rfl)
          clear HA
          have hj0 : ¬ (j : Int) < 0 := by omega
          have hj32 : (j : Int) ≤ 32 := by omega
          cases hsc : scan 512 83 0 ((toL s).drop a) with
          | wait =>
            have HC := Lib.hid (end_at hs ha hsc)
            rw [hsc] at HF
            have HV : X = .wait := HF.out
            subst HV
            clear HF hsc
            unfold endP at HC
            dsimp only at HC
            go_wp2_with fail
            refine (HC.out _).mono ?_
            rintro e w' ⟨rfl, rfl⟩
            have HE := Lib.hid (HW.out.putR zero8 (.slice none 0 0)).1
            have HB := Lib.hid (HW.out.putR zero8 (.slice none 0 0)).2
            obtain ⟨d0, d1, d2, d3, d4, d5⟩ := HW.out.res.cells
            obtain ⟨z0, z1, z2, z3, z4, z5⟩ := HW.out.res.frees
            go_wp2_with fail
            refine bodyPost_ret (v := hrv3 zero8 (.slice none 0 0) 0 0) ?_ rfl (ret_read (R := .wait) rfl rfl rfl rfl (row_none _ _) HB.out)
            rw [results_cell_tmp2 rfl]
            exact end_hbox3 rfl rfl rfl HE.out
          | bad er =>
            have HC := Lib.hid (end_at hs ha hsc)
            rw [hsc] at HF
            have HV : X = .bad er := HF.out
            subst HV
            clear HF hsc
            unfold endP at HC
            dsimp only at HC
            go_wp2_with fail
            refine (HC.out _).mono ?_
            rintro e w' ⟨rfl, rfl⟩
            have HE := Lib.hid (HW.out.putR zero8 (.slice none 0 0)).1
            have HB := Lib.hid (HW.out.putR zero8 (.slice none 0 0)).2
            obtain ⟨d0, d1, d2, d3, d4, d5⟩ := HW.out.res.cells
            obtain ⟨z0, z1, z2, z3, z4, z5⟩ := HW.out.res.frees
            go_wp2_with fail
            refine bodyPost_ret (v := hrv3 zero8 (.slice none 0 0) 0 er) ?_ rfl (ret_read (R := .bad er) rfl rfl rfl rfl (row_none _ _) HB.out)
            rw [results_cell_tmp2 rfl]
            exact end_hbox3 rfl rfl rfl HE.out
          | whole q =>
            have HC := end_at hs ha hsc
            have hle := whole_le hsc ha
            rw [hsc] at HF
            by_cases hq : q = 0
            · have HV : X = .done { H with fields := acc } (a + 2) := by rw [HF.out]; exact if_pos hq
              subst HV
              subst hq
              replace HC : Hid (∀ w, Calls Tryz.prog 46 #[.string s, .int .i64 (a : Int), .int .i64 512, .int .i64 83] w fun e w' => e = .returned (.tuple #[.int .i64 (a : Int), .int .i64 0]) ∧ w' = w) := Lib.hid (fun w => (HC w).mono (fun e w' h => ⟨by rw [h.1]; exact ret_two (show (a : Int) + ((0 : Nat) : Int) = a by omega) rfl, h.2⟩))
              have has : a + 2 ≤ s.size := by omega
              clear HF hsc hle
              go_wp2_with fail
              refine (HC.out _).mono ?_
              rintro e w' ⟨rfl, rfl⟩
              clear HC
              obtain ⟨p, cap, rfl, _, _⟩ := fl_of HW.out.row (by have := hl.out; omega)
              obtain ⟨d0, d1, d2, d3, d4, d5⟩ := HW.out.res.cells
              obtain ⟨z0, z1, z2, z3, z4, z5⟩ := HW.out.res.frees
              obtain ⟨e0, e1, e2, e3, e4, e5⟩ := HW.out.box.cells
              obtain ⟨x0, x1, x2, x3, x4, x5⟩ := HW.out.box.frees
              have HE := Lib.hid (HW.out.putR H (.slice p acc.length cap)).1
              have HB := Lib.hid (HW.out.putR H (.slice p acc.length cap)).2
              have HL : Hid (RowF (hput w' g H (.slice p acc.length cap)) w.heap.size (.slice p acc.length cap) acc) := Lib.hid ⟨row_mono (row_hput HW.out.row (g := g) (by rw [HW.out.next]; omega) H (.slice p acc.length cap)) (by have := HW.out.at_; have := HW.out.next; omega), by have := hl.out; omega⟩
              clear HW
              go_wp2_with fail
              refine bodyPost_ret (v := hrv3 H (.slice p acc.length cap) ((a : Int) + 2) 0) ?_ rfl (ret_read (R := .done { H with fields := acc } (a + 2)) rfl (show ((a + 2 : Nat) : Int) = (a : Int) + 2 by omega) rfl rfl HL.out HB.out)
              rw [results_cell_tmp2 rfl]
              exact end_hbox3 rfl rfl rfl HE.out
            · obtain ⟨b, hb⟩ : ∃ b, b = a + q := ⟨_, rfl⟩
              have hbs : b + 2 ≤ s.size := by omega
              have hab : a ≤ b := by omega
              have hlt : a < b := by omega
              have el : toL (s.extract a b) = ((toL s).drop a).take q := by rw [toL_extract, List.drop_take, show b - a = q by omega]
              have hlz : (s.extract a b).size ≤ 140737488351232 := by rw [ByteArray.size_extract]; omega
              have hls : (toL (s.extract a b)).length = b - a := by rw [toL_length, ByteArray.size_extract]; omega
              have n1 : ¬ ((s.extract a b).toList = []) := by
                rw [ByteArray.toList_eq]
                intro h
                have := congrArg List.length h
                rw [show (s.extract a b).data.toList.length = b - a from hls] at this
                rw [List.length_nil] at this
                omega
              have n2 : (s.extract a b).toList.isEmpty = false := by
                cases hx : (s.extract a b).toList with
                | nil => exact absurd hx n1
                | cons => rfl
              replace HC : Hid (∀ w, Calls Tryz.prog 46 #[.string s, .int .i64 (a : Int), .int .i64 512, .int .i64 83] w fun e w' => e = .returned (.tuple #[.int .i64 (b : Int), .int .i64 0]) ∧ w' = w) := Lib.hid (fun w => (HC w).mono (fun e w' h => ⟨by rw [h.1, hb]; rfl, h.2⟩))
              replace hb := Lib.hid hb
              by_cases h32 : j = 32
              · have HV : X = .bad 83 := by rw [HF.out]; subst h32; exact if_neg hq
                subst HV
                have hjj : ((j : Int) == 32) = true := by rw [beq_iff_eq]; omega
                clear HF hsc hle el hls hq h32 hlt
                go_wp2_with fail
                refine (HC.out _).mono ?_
                rintro e w' ⟨rfl, rfl⟩
                clear HC
                have HE := Lib.hid (HW.out.putR zero8 (.slice none 0 0)).1
                have HB := Lib.hid (HW.out.putR zero8 (.slice none 0 0)).2
                obtain ⟨d0, d1, d2, d3, d4, d5⟩ := HW.out.res.cells
                obtain ⟨z0, z1, z2, z3, z4, z5⟩ := HW.out.res.frees
                clear HW
                go_wp2_with fail
                refine bodyPost_ret (v := hrv3 zero8 (.slice none 0 0) 0 83) ?_ rfl (ret_read (R := .bad 83) rfl rfl rfl rfl (row_none _ _) HB.out)
                rw [results_cell_tmp2 rfl]
                exact end_hbox3 rfl rfl rfl HE.out
              · have hjj : ((j : Int) == 32) = false := beq_eq_false_iff_ne.2 (by omega)
                obtain ⟨mm, hmm⟩ : ∃ mm, 32 - j = mm + 1 := ⟨31 - j, by omega⟩
                have HF2 : X = if (field8 (toL (s.extract a b))).2 = 0 then fields8 H mm (acc ++ [(field8 (toL (s.extract a b))).1]) (b + 2) ((toL s).drop (b + 2)) else .bad 70 := by
                  rw [HF.out, hmm]
                  dsimp only
                  rw [if_neg hq, el, hb.out, List.drop_drop, Nat.add_assoc a q 2]
                have HP := Lib.hid (fun w => r8field_any (s.extract a b) hlz w)
                have hfe := field_err8 (toL (s.extract a b))
                generalize field8 (toL (s.extract a b)) = y at *
                obtain ⟨⟨f1, f2⟩, er⟩ := y
                unfold frv fv at HP
                dsimp only at HP HF2 hfe
                replace hmm := Lib.hid hmm
                clear HF hsc hle el hls hq hlz h32
                go_wp2_with fail
                refine (HC.out _).mono ?_
                rintro e w' ⟨rfl, rfl⟩
                clear HC
                go_wp2_with fail
                refine (HP.out _).mono ?_
                rintro e w3 ⟨rfl, hb3⟩
                clear HP
                replace HW := Lib.hid ((HW.out.call hb3).alloc (.cells #[.string (ofL f1), .string (ofL f2)] 36))
                clear hb3
                by_cases h9 : er = 0
                · rw [if_pos h9] at HF2
                  subst h9
                  clear hfe
                  obtain ⟨p, cap, rfl, _, _⟩ := fl_of HW.out.row (by have := hl.out; omega)
                  have hbx : Has (w3.alloc (.cells #[.string (ofL f1), .string (ofL f2)] 36)) w3.heap.size 36 #[.string (ofL f1), .string (ofL f2)] := Has.new w3 _ _
                  dsimp only
                  iterate 15 go_step
                  generalize w3.alloc (.cells #[.string (ofL f1), .string (ofL f2)] 36) = W4 at HW hbx ⊢
                  generalize w3.heap.size = gf at hbx ⊢
                  have i0' := hbx.cell 0
                  have i1' := hbx.cell 1
                  obtain ⟨e0, e1, e2, e3, e4, e5⟩ := HW.out.box.cells
                  obtain ⟨x0, x1, x2, x3, x4, x5⟩ := HW.out.box.frees
                  have HWa := Lib.hid (HW.out.alloc (.cells #[.string (ofL f1), .string (ofL f2)] 36))
                  have hrow := HWa.out.row
                  have hnew := Lib.hid (World.news_of_block (heap_alloc_new W4 (.cells #[.string (ofL f1), .string (ofL f2)] 36)))
                  have hsz : G + 1 ≤ (W4.alloc (.cells #[.string (ofL f1), .string (ofL f2)] 36)).heap.size := HWa.out.size
                  clear hbx
                  go_wp2_with (at_builtin; refine wpList_append_own_at _ rfl (.tmp 99) (.tmp 101) 23 rfl (G + 1) 36 i0 _ 2 32 Tryz.underlying23 hi hz0 hz1 hz2 rfl (by omega) _ _ _ rfl hrow ⟨W4.heap.size, 0, none⟩ 1 1 (encF (f1, f2)) rfl rfl hnew.out (by simp [encF, Value.oneCell']) (by simp only [maxLen]; have := hl.out; omega) (by have := hl.out; omega) hsz ?_; intro v4 w4 hown4 hg4 _ hat4; have HW4 := Lib.hid (HWa.out.grow (f := (f1, f2)) hg4 hown4); obtain ⟨u5, f5⟩ := HWa.out.cell5 hg4; clear hat4 hg4 hown4 hrow; obtain ⟨p4, cap4, rfl, _, _⟩ := fl_of HW4.out.row (by rw [List.length_append, List.length_singleton]; have := hl.out; omega))
                  go_wp2_with fail
                  have HW5 := HW4.out
                  rw [List.length_append, List.length_singleton] at HW5
                  exact ⟨⟨b + 2, hbs, by go_num, .inr ⟨j + 1, H, acc ++ [(f1, f2)], .slice p4 (acc.length + 1) cap4, by have := hmm.out; omega, by go_num, Lib.hid (by rw [List.length_append, List.length_singleton]; have := hl.out; omega), Lib.hid HW5, Lib.hid (by rw [HF2, show 32 - (j + 1) = mm by have := hmm.out; omega])⟩⟩, by simp [intOf]; omega⟩
                · rw [if_neg h9] at HF2
                  have h70 : er = 70 := hfe.resolve_left h9
                  subst h70
                  subst HF2
                  clear h9 hfe
                  dsimp only
                  iterate 15 go_step
                  generalize w3.alloc (.cells #[.string (ofL f1), .string (ofL f2)] 36) = W4 at HW ⊢
                  have HE := Lib.hid (HW.out.putR zero8 (.slice none 0 0)).1
                  have HB := Lib.hid (HW.out.putR zero8 (.slice none 0 0)).2
                  obtain ⟨d0, d1, d2, d3, d4, d5⟩ := HW.out.res.cells
                  obtain ⟨z0, z1, z2, z3, z4, z5⟩ := HW.out.res.frees
                  clear HW
                  go_wp2_with fail
                  refine bodyPost_ret (v := hrv3 zero8 (.slice none 0 0) 0 70) ?_ rfl (ret_read (R := .bad 70) rfl rfl rfl rfl (row_none _ _) HB.out)
                  rw [results_cell_tmp2 rfl]
                  exact end_hbox3 rfl rfl rfl HE.out
end Go.Proofs.YtblpooddamkfdaaGreatDoor.R8ReadF1
