/- Texts of this seat, one behind another: RLocal, RParse. -/
import Derived.Deep.QuietTactic
import Derived.BigQuiet
import Derived.Laws.DeepStrings4
import Derived.Test.YtblpooddamkfdaaGreatDoorC1
/- Layer 6, the document's own path and query of a target. -/
namespace Go.Proofs.YtblpooddamkfdaaGreatDoor.RLocal
open Go.ChangeShapes Go.WideShapes Go.ChangeAt Go.RowKit LexPure Bytes Ret CutAt TargetPure PathPure RNormal RAuth TBox RBox Mem
set_option maxRecDepth 20000
theorem rq_cases (b : UInt8) : (qc b = true ∧ 32 < (b.toNat : Int) ∧ (b.toNat : Int) < 127 ∧ ((b.toNat : Int) == 35) = false) ∨ (qc b = false ∧ (b.toNat : Int) ≤ 32) ∨ (qc b = false ∧ 32 < (b.toNat : Int) ∧ 127 ≤ (b.toNat : Int)) ∨ (qc b = false ∧ 32 < (b.toNat : Int) ∧ (b.toNat : Int) < 127 ∧ ((b.toNat : Int) == 35) = true) := by
  have := all_bytes (p := fun b => decide ((qc b = true ∧ 32 < (b.toNat : Int) ∧ (b.toNat : Int) < 127 ∧ ((b.toNat : Int) == 35) = false) ∨ (qc b = false ∧ (b.toNat : Int) ≤ 32) ∨ (qc b = false ∧ 32 < (b.toNat : Int) ∧ 127 ≤ (b.toNat : Int)) ∨ (qc b = false ∧ 32 < (b.toNat : Int) ∧ (b.toNat : Int) < 127 ∧ ((b.toNat : Int) == 35) = true))) (by decide +kernel) b
  exact of_decide_eq_true this
set_option maxHeartbeats 3200000 in
theorem rlocal_any (fo : Int) (ho : List UInt8) (po : Int) (s : ByteArray) (hs : s.size ≤ 1048576) (x : Tgt × Int) (hx : x = local6 ⟨fo, ho, po, [], [], false⟩ (toL s)) (w : World) :
    Calls Tryz.prog 51 #[.agg #[.int .i64 fo, .string (ofL ho), .int .i64 po, .string ⟨#[]⟩, .string ⟨#[]⟩, .bool false], .string s] w fun e w' => e = .returned (rv x) ∧ Below w.heap.size w w' := by
  have HT : Hid (RTwo w ((w.alloc (.cells #[.int .i64 fo, .string (ofL ho), .int .i64 po, .string ⟨#[]⟩, .string ⟨#[]⟩, .bool false] 27)).alloc (.cells #[.int .i64 0, .string ⟨#[]⟩, .int .i64 0, .string ⟨#[]⟩, .string ⟨#[]⟩, .bool false] 27)) w.heap.size ⟨fo, ho, po, [], [], false⟩ zero) := Lib.hid (RTwo.start w fo ho po [] [] false)
  replace hx := Lib.hid hx
  obtain ⟨B0, hB0⟩ : ∃ B0, B0 = Below w.heap.size w := ⟨_, rfl⟩
  rw [← hB0]
  replace hB0 := Lib.hid hB0
  go_enter Tryz.func51, Tryz.ntmps51
  go_wp2_with fail
  generalize (w.alloc (.cells #[.int .i64 fo, .string (ofL ho), .int .i64 po, .string ⟨#[]⟩, .string ⟨#[]⟩, .bool false] 27)).alloc (.cells #[.int .i64 0, .string ⟨#[]⟩, .int .i64 0, .string ⟨#[]⟩, .string ⟨#[]⟩, .bool false] 27) = W at HT ⊢
  generalize w.heap.size = g at HT ⊢
  go_loop [6] (fun i => ∃ k : Nat, k ≤ s.size ∧ i = .int .i64 k ∧ Hid (((toL s).take k).all (fun c => c != 63) = true)) (fun i => s.size - (intOf i).toNat)
  case atStart => exact ⟨0, Nat.zero_le _, rfl, Lib.hid rfl⟩
  case round =>
    obtain ⟨k, hk, rfl, ha⟩ := hrel
    by_cases hlt : k < s.size
    · have hki : (k : Int) < (s.size : Int) := by omega
      have HTS := Lib.hid (toL_take_succ s k hlt)
      rcases x_cases 63 s[k] with ⟨hx63, hq⟩ | ⟨hx63, hq⟩
      · rw [show ((63 : UInt8).toNat : Int) = 63 from rfl] at hq
        obtain ⟨a1, a2, a3⟩ := end_some hlt hx63 ha.out
        have HN := Lib.hid (fun w => rnormal_any (s.extract 0 k) (by rw [ByteArray.size_extract]; omega) w)
        rw [toL_extract, List.drop_zero, ← a1] at HN
        have eQ : toL (s.extract (k + 1) s.size) = behind 63 (toL s) := by rw [toL_extract, List.take_of_length_le (by rw [toL_length]; exact Nat.le_refl _), a2]
        have sQ : (s.extract (k + 1) s.size).size ≤ 4194304 := by rw [ByteArray.size_extract]; omega
        have ne : ((k : Int) == (s.size : Int)) = false := beq_eq_false_iff_ne.2 (by omega)
        have c1 : (k : Int) + 1 ≤ (s.size : Int) := by omega
        have c2 : (0 : Int) ≤ (k : Int) + 1 := by omega
        have c3 : (k : Int) ≤ (s.size : Int) := by omega
        replace a3 := Lib.hid a3
        replace eQ := Lib.hid eQ
        clear HTS hx63 ha a1 a2
        generalize hahead : aheadOf 63 (toL s) = A at *
        go_wp2_with fail
        refine (HN.out _).mono ?_
        rintro e w1 ⟨rfl, hb1⟩
        replace HT := Lib.hid (HT.out.call hb1)
        clear HN hb1
        cases hn : normal A with
        | none =>
          have hr : x = (zero, 50) := by rw [hx.out]; unfold local6; rw [hahead, hn]
          subst hr
          obtain ⟨r0, r1, r2, r3, r4, r5⟩ := HT.out.rbox.cells
          obtain ⟨f0, f1, f2, f3, f4, f5⟩ := HT.out.rbox.frees
          have HE := Lib.hid (HT.out.rbox.put zero)
          have HB : Hid (B0 (put w1 (g + 1) zero)) := Lib.hid (by rw [hB0.out]; exact below_put HT.out.below (by rw [HT.out.at_]; omega) zero)
          rw [(norm_none hn).1, (norm_none hn).2]
          clear hn hx hahead a3 eQ
          go_wp2_with fail
          refine bodyPost_ret (v := rv (zero, 50)) ?_ rfl ⟨rfl, HB.out⟩
          rw [results_cell_tmp rfl]
          exact end_rbox rfl rfl HE.out
        | some p =>
          rw [(norm_some hn).1, (norm_some hn).2]
          obtain ⟨t0, t1, t2, t3, t4, t5⟩ := HT.out.tbox.cells
          obtain ⟨u0, u1, u2, u3, u4, u5⟩ := HT.out.tbox.frees
          obtain ⟨r0, r1, r2, r3, r4, r5⟩ := HT.out.rbox.cells
          obtain ⟨f0, f1, f2, f3, f4, f5⟩ := HT.out.rbox.frees
          have HT2 := HT.out.paths p (behind 63 (toL s)) true
          rw [← eQ.out, ofL_toL, eQ.out] at HT2
          replace HT2 := Lib.hid HT2
          go_wp2_with fail
          generalize ((w1.setCell ⟨g, 3, none⟩ (.string (ofL p))).setCell ⟨g, 5, none⟩ (.bool true)).setCell ⟨g, 4, none⟩ (.string (s.extract (k + 1) s.size)) = W2 at HT2 ⊢
          clear HT t0 t1 t2 t3 t4 t5 u0 u1 u2 u3 u4 u5 r0 r1 r2 r3 r4 r5 f0 f1 f2 f3 f4 f5
          obtain ⟨t0, t1, t2, t3, t4, t5⟩ := HT2.out.tbox.cells
          obtain ⟨u0, u1, u2, u3, u4, u5⟩ := HT2.out.tbox.frees
          obtain ⟨r0, r1, r2, r3, r4, r5⟩ := HT2.out.rbox.cells
          obtain ⟨f0, f1, f2, f3, f4, f5⟩ := HT2.out.rbox.frees
          have HR : Hid (qok (behind 63 (toL s)) = true → x = (⟨fo, ho, po, p, behind 63 (toL s), true⟩, 0)) := Lib.hid (fun hk => by rw [hx.out]; unfold local6; rw [hahead, hn]; simp only; rw [hk, a3.out]; rfl)
          have HF : Hid (qok (behind 63 (toL s)) = false → x = (zero, 60)) := Lib.hid (fun hk => by rw [hx.out]; unfold local6; rw [hahead, hn]; simp only; rw [hk]; rfl)
          have hqq : ofL (behind 63 (toL s)) = s.extract (k + 1) s.size := by rw [← eQ.out, ofL_toL]
          have eQ2 := eQ.out
          simp only at t0 t1 t2 t3 t4 t5
          rw [hqq] at t4
          rw [← eQ2] at HR HF HT2
          clear eQ eQ2 hqq hx hn hahead a3 ne c1 c2 c3
          generalize s.extract (k + 1) s.size = Q at *
          have hqs : (Q.size : Int) ≤ 4194304 := by omega
          go_loop [9] (fun i => ∃ j : Nat, j ≤ Q.size ∧ i = .int .i64 j ∧ Hid (((toL Q).take j).all qc = true)) (fun i => Q.size - (intOf i).toNat)
          case atStart => exact ⟨0, Nat.zero_le _, rfl, Lib.hid rfl⟩
          case round =>
            obtain ⟨j, hj, rfl, hb⟩ := hrel
            by_cases hjt : j < Q.size
            · have hji : (j : Int) < (Q.size : Int) := by omega
              have HS2 := Lib.hid (toL_take_succ Q j hjt)
              have HG2 := Lib.hid (toL_get Q j hjt)
              rcases rq_cases Q[j] with ⟨hh, h1, h2, h3⟩ | ⟨hh, h1⟩ | ⟨hh, h1, h2⟩ | ⟨hh, h1, h2, h3⟩
              · have HA : Hid (((toL Q).take (j + 1)).all qc = true) := Lib.hid (by rw [HS2.out, List.all_append, hb.out]; simp [hh])
                clear hh HS2 HG2 hb
                go_wp2_with fail
                go_round
                case rel => exact ⟨j + 1, by omega, by go_num, HA⟩
                case measure => simp [intOf]; omega
              all_goals
                have hr : x = (zero, 60) := HF.out (by
                  unfold qok
                  rw [List.all_eq_false]
                  exact ⟨Q[j], List.mem_of_getElem? HG2.out, by simpa using hh⟩)
                have HE := Lib.hid (HT2.out.rbox.put zero)
                have HB : Hid (B0 (put W2 (g + 1) zero)) := Lib.hid (by rw [hB0.out]; exact below_put HT2.out.below (by rw [HT2.out.at_]; omega) zero)
                subst hr
                clear hh HS2 HG2 hb HF HR
                go_wp2_with fail
                refine bodyPost_ret (v := rv (zero, 60)) ?_ rfl ⟨rfl, HB.out⟩
                rw [results_cell_tmp rfl]
                exact end_rbox rfl rfl HE.out
            · have hall : (toL Q).take j = toL Q := toL_take_all Q (by omega)
              have hr : x = (⟨fo, ho, po, p, toL Q, true⟩, 0) := HR.out (by
                have h := hb.out
                rw [hall] at h
                exact h)
              have HE := Lib.hid (HT2.out.rbox.put ⟨fo, ho, po, p, toL Q, true⟩)
              have HB : Hid (B0 (put W2 (g + 1) ⟨fo, ho, po, p, toL Q, true⟩)) := Lib.hid (by rw [hB0.out]; exact below_put HT2.out.below (by rw [HT2.out.at_]; omega) _)
              unfold put at HE HB
              simp only [ofL_toL] at HE HB
              subst hr
              clear hall hb HF HR
              go_wp2_with fail
              refine bodyPost_ret (v := rv (⟨fo, ho, po, p, toL Q, true⟩, 0)) ?_ rfl ⟨rfl, HB.out⟩
              rw [results_cell_tmp rfl]
              exact end_rbox rfl rfl HE.out
      · rw [show ((63 : UInt8).toNat : Int) = 63 from rfl] at hq
        have HA : Hid (((toL s).take (k + 1)).all (fun c => c != 63) = true) := Lib.hid (by rw [HTS.out, List.all_append, ha.out]; simp [hx63])
        clear HTS ha hx63
        go_wp2_with fail
        go_round
        case rel => exact ⟨k + 1, by omega, by go_num, HA⟩
        case measure => simp [intOf]; omega
    · obtain ⟨a1, a2, a3⟩ := end_none (s := s) (x := 63) (k := k) (by omega) ha.out
      have HN := Lib.hid (fun w => rnormal_any (s.extract 0 k) (by rw [ByteArray.size_extract]; omega) w)
      rw [toL_extract, List.drop_zero, ← a1] at HN
      obtain ⟨eb, heb, e1⟩ : ∃ eb : Bool, Hid (eb = true) ∧ ((k : Int) == (s.size : Int)) = eb := ⟨true, Lib.hid rfl, by rw [beq_iff_eq]; omega⟩
      have c3 : (k : Int) ≤ (s.size : Int) := by omega
      have c4 : ¬ (k : Int) < (s.size : Int) := by omega
      replace a2 := Lib.hid a2
      replace a3 := Lib.hid a3
      clear a1 ha hlt
      generalize hahead : aheadOf 63 (toL s) = A at *
      go_wp2_with fail
      refine (HN.out _).mono ?_
      rintro e w1 ⟨rfl, hb1⟩
      replace HT := Lib.hid (HT.out.call hb1)
      clear HN hb1
      cases hn : normal A with
      | none =>
        have hr : x = (zero, 50) := by rw [hx.out]; unfold local6; rw [hahead, hn]
        subst hr
        obtain ⟨r0, r1, r2, r3, r4, r5⟩ := HT.out.rbox.cells
        obtain ⟨f0, f1, f2, f3, f4, f5⟩ := HT.out.rbox.frees
        have HE := Lib.hid (HT.out.rbox.put zero)
        have HB : Hid (B0 (put w1 (g + 1) zero)) := Lib.hid (by rw [hB0.out]; exact below_put HT.out.below (by rw [HT.out.at_]; omega) zero)
        rw [(norm_none hn).1, (norm_none hn).2]
        clear hn hx hahead a2 a3 e1
        go_wp2_with fail
        refine bodyPost_ret (v := rv (zero, 50)) ?_ rfl ⟨rfl, HB.out⟩
        rw [results_cell_tmp rfl]
        exact end_rbox rfl rfl HE.out
      | some p =>
        have hr : x = (⟨fo, ho, po, p, [], false⟩, 0) := by rw [hx.out]; unfold local6; rw [hahead, hn, a2.out, a3.out]; rfl
        subst hr
        rw [(norm_some hn).1, (norm_some hn).2]
        obtain ⟨t0, t1, t2, t3, t4, t5⟩ := HT.out.tbox.cells
        obtain ⟨u0, u1, u2, u3, u4, u5⟩ := HT.out.tbox.frees
        obtain ⟨r0, r1, r2, r3, r4, r5⟩ := HT.out.rbox.cells
        obtain ⟨f0, f1, f2, f3, f4, f5⟩ := HT.out.rbox.frees
        have HT2 := Lib.hid (HT.out.path p)
        have HE := Lib.hid (HT2.out.rbox.put ⟨fo, ho, po, p, [], false⟩)
        have HB : Hid (B0 (put (w1.setCell ⟨g, 3, none⟩ (.string (ofL p))) (g + 1) ⟨fo, ho, po, p, [], false⟩)) := Lib.hid (by rw [hB0.out]; exact below_put HT2.out.below (by rw [HT2.out.at_]; omega) _)
        clear hn hx hahead a2 a3 HT2
        obtain rfl := heb.out
        go_wp2_with fail
        refine bodyPost_ret (v := rv (⟨fo, ho, po, p, [], false⟩, 0)) ?_ rfl ⟨rfl, HB.out⟩
        rw [results_cell_tmp rfl]
        exact end_rbox rfl rfl HE.out
end Go.Proofs.YtblpooddamkfdaaGreatDoor.RLocal

/- Layer 6, the document's own Parse. -/
namespace Go.Proofs.YtblpooddamkfdaaGreatDoor.RParse
open Go.ChangeShapes Go.WideShapes Go.ChangeAt Go.RowKit LexPure Bytes Ret CutAt HostPure TargetPure RAuth RLower RLocal TBox RBox Mem
set_option maxRecDepth 20000
theorem is_text (s : ByteArray) (l : List UInt8) : (s.toList == l) = (toL s == l) := by rw [ByteArray.toList_eq]
theorem inA_end {s : ByteArray} {k : Nat} (h7 : 7 ≤ k) (hk : k ≤ s.size) (ha : (((toL s).take k).drop 7).all (fun c => !endC c) = true) (hx : ∀ h : k < s.size, endC s[k] = true) :
    inA ((toL s).drop 7) = ((toL s).take k).drop 7 ∧ outA ((toL s).drop 7) = (toL s).drop k := by
  have h' : ∀ a ∈ ((toL s).take k).drop 7, (!endC a) = true := List.all_eq_true.1 ha
  have hs : (toL s).drop 7 = ((toL s).take k).drop 7 ++ (toL s).drop k := by
    conv => lhs; rw [← List.take_append_drop k (toL s)]
    rw [List.drop_append_of_le_length (by rw [List.length_take, toL_length]; omega)]
  have hd : (toL s).drop k = [] ∨ ∃ c r, (toL s).drop k = c :: r ∧ endC c = true := by
    by_cases h : k < s.size
    · exact .inr ⟨s[k], _, toL_drop s k h, hx h⟩
    · exact .inl (List.drop_of_length_le (by rw [toL_length]; omega))
  generalize ((toL s).take k).drop 7 = A at *
  generalize (toL s).drop k = B at *
  rw [hs]
  unfold inA outA
  rw [List.takeWhile_append_of_pos h', List.dropWhile_append_of_pos h']
  rcases hd with rfl | ⟨c, r, rfl, hc⟩
  · simp
  · rw [List.takeWhile_cons, List.dropWhile_cons, hc]
    simp
theorem end_cases (b : UInt8) : (endC b = false ∧ ((b.toNat : Int) != 47) = true ∧ ((b.toNat : Int) != 63) = true) ∨ (endC b = true ∧ b = 47 ∧ ((b.toNat : Int) != 47) = false) ∨ (endC b = true ∧ b = 63 ∧ ((b.toNat : Int) != 47) = true ∧ ((b.toNat : Int) != 63) = false) := by
  have := all_bytes (p := fun b => decide ((endC b = false ∧ ((b.toNat : Int) != 47) = true ∧ ((b.toNat : Int) != 63) = true) ∨ (endC b = true ∧ b = 47 ∧ ((b.toNat : Int) != 47) = false) ∨ (endC b = true ∧ b = 63 ∧ ((b.toNat : Int) != 47) = true ∧ ((b.toNat : Int) != 63) = false))) (by decide +kernel) b
  exact of_decide_eq_true this
theorem slash_cases (b : UInt8) : (b = 47 ∧ ((b.toNat : Int) == 47) = true) ∨ (b ≠ 47 ∧ ((b.toNat : Int) == 47) = false) := by
  have := all_bytes (p := fun b => decide ((b = 47 ∧ ((b.toNat : Int) == 47) = true) ∨ (b ≠ 47 ∧ ((b.toNat : Int) == 47) = false))) (by decide +kernel) b
  exact of_decide_eq_true this
/-- a request to tunnel -/
theorem rparse_connect (m s : ByteArray) (hs : s.size ≤ 1048576) (hm : (toL m == CONNECT) = true) (w : World) :
    Calls Tryz.prog 23 #[.string m, .string s] w fun e w' => e = .returned (rv (remote6 (toL s))) ∧ Below w.heap.size w w' := by
  have t1 := is_text m CONNECT
  rw [hm] at t1
  unfold CONNECT at t1
  have HA := Lib.hid (fun w => rauth_any s (by omega) w)
  have HT := Lib.hid (ROne.start w)
  clear hs hm
  obtain ⟨x, hx⟩ : ∃ x, x = remote6 (toL s) := ⟨_, rfl⟩
  rw [← hx]
  replace hx := Lib.hid hx
  go_enter Tryz.func23, Tryz.ntmps23
  go_wp2_with fail
  generalize w.alloc (.cells #[.int .i64 0, .string ⟨#[]⟩, .int .i64 0, .string ⟨#[]⟩, .string ⟨#[]⟩, .bool false] 27) = W at HT ⊢
  obtain ⟨g, hg⟩ : ∃ g, g = w.heap.size := ⟨_, rfl⟩
  rw [← hg] at HT ⊢
  replace hg := Lib.hid hg
  refine (HA.out _).mono ?_
  rintro e w1 ⟨rfl, hb1⟩
  replace HT := Lib.hid (HT.out.call hb1)
  clear HA hb1
  obtain ⟨r0, r1, r2, r3, r4, r5⟩ := HT.out.rbox.cells
  obtain ⟨f0, f1, f2, f3, f4, f5⟩ := HT.out.rbox.frees
  cases ha : authO (toL s) with
  | none =>
    have hr : x = (zero, 60) := by rw [hx.out]; unfold remote6; rw [ha]
    subst hr
    rw [(auth_none ha).1, (auth_none ha).2.1, (auth_none ha).2.2]
    have HE := Lib.hid (HT.out.rbox.put zero)
    have HB := Lib.hid (HT.out.put zero)
    clear hx ha
    go_wp2_with fail
    refine bodyPost_ret (v := rv (zero, 60)) ?_ rfl ⟨rfl, HB.out⟩
    rw [results_cell_tmp rfl]
    exact end_rbox rfl rfl HE.out
  | some q =>
    obtain ⟨h, p⟩ := q
    rw [(auth_some ha).1, (auth_some ha).2.1, (auth_some ha).2.2]
    by_cases hp : p = 0
    · have hr : x = (zero, 60) := by rw [hx.out]; unfold remote6; rw [ha]; simp only; rw [if_pos hp]
      subst hr
      subst hp
      have HE := Lib.hid (HT.out.rbox.put zero)
      have HB := Lib.hid (HT.out.put zero)
      clear hx ha
      go_wp2_with fail
      refine bodyPost_ret (v := rv (zero, 60)) ?_ rfl ⟨rfl, HB.out⟩
      rw [results_cell_tmp rfl]
      exact end_rbox rfl rfl HE.out
    · have hr : x = (⟨3, h, p, [], [], false⟩, 0) := by rw [hx.out]; unfold remote6; rw [ha]; simp only; rw [if_neg hp]
      subst hr
      have hq : (p == 0) = false := beq_eq_false_iff_ne.2 hp
      have HE := Lib.hid (HT.out.rbox.put ⟨3, h, p, [], [], false⟩)
      have HB := Lib.hid (HT.out.put ⟨3, h, p, [], [], false⟩)
      clear hx ha hp
      go_wp2_with fail
      refine bodyPost_ret (v := rv (⟨3, h, p, [], [], false⟩, 0)) ?_ rfl ⟨rfl, HB.out⟩
      rw [results_cell_tmp rfl]
      exact end_rbox rfl rfl HE.out
theorem rlocal_in (fo : Int) (ho : List UInt8) (po : Int) (s : ByteArray) (hs : s.size ≤ 1048576) (x : Tgt × Int) (hx : x = local6 ⟨fo, ho, po, [], [], false⟩ (toL s)) (w : World) :
    Calls Tryz.prog 51 #[.agg #[.int .i64 fo, .string (ofL ho), .int .i64 po, .string ⟨#[]⟩, .string ⟨#[]⟩, .bool false], .string s] w fun e w' =>
      e = .returned (.tuple #[.agg #[.int .i64 x.1.form, .string (ofL x.1.host), .int .i64 x.1.port, .string (ofL x.1.path), .string (ofL x.1.query), .bool x.1.has], .int .i64 x.2]) ∧ Below w.heap.size w w' :=
  rlocal_any fo ho po s hs x hx w
set_option maxHeartbeats 1600000 in
theorem rparse_star (m s : ByteArray) (hm : (toL m == CONNECT) = false) (hs : (toL s == [42]) = true) (ho : (toL m == OPTIONS) = true) (w : World) :
    Calls Tryz.prog 23 #[.string m, .string s] w fun e w' => e = .returned (rv (⟨4, [], 0, [], [], false⟩, 0)) ∧ Below w.heap.size w w' := by
  have t1 := is_text m CONNECT
  rw [hm] at t1
  unfold CONNECT at t1
  have t2 := is_text s [42]
  rw [hs] at t2
  have t3 := is_text m OPTIONS
  rw [ho] at t3
  unfold OPTIONS at t3
  clear hm hs ho
  go_enter Tryz.func23, Tryz.ntmps23
  go_wp2_with fail
  refine bodyPost_ret (v := rv (⟨4, [], 0, [], [], false⟩, 0)) ?_ rfl ⟨rfl, (Below.refl w.heap.size w).alloc (Nat.le_refl _) _⟩
  rw [results_cell_tmp rfl]
  exact end_rbox rfl rfl (RB.new w ⟨4, [], 0, [], [], false⟩)
/-- how a text begins, for the walk -/
def HeadNot (s : ByteArray) : Prop := s.size = 0 ∨ ∃ h : 0 < s.size, ((s[0].toNat : Int) == 47) = false
theorem head_not {s : ByteArray} (h : ((toL s).head? == some 47) = false) : HeadNot s := by
  by_cases h0 : 0 < s.size
  · right
    refine ⟨h0, ?_⟩
    have hg := toL_get s 0 h0
    rw [List.head?_eq_getElem?, hg] at h
    rcases slash_cases s[0] with ⟨e, _⟩ | ⟨_, e⟩
    · rw [e] at h
      exact absurd h (by decide)
    · exact e
  · exact .inl (by omega)
theorem head_yes {s : ByteArray} (h : ((toL s).head? == some 47) = true) : ∃ h : 0 < s.size, ((s[0].toNat : Int) == 47) = true := by
  by_cases h0 : 0 < s.size
  · refine ⟨h0, ?_⟩
    have hg := toL_get s 0 h0
    rw [List.head?_eq_getElem?, hg, beq_iff_eq] at h
    rw [Option.some.inj h]
    rfl
  · have : toL s = [] := List.length_eq_zero_iff.1 (by rw [toL_length]; omega)
    rw [this] at h
    cases h
set_option maxHeartbeats 1600000 in
/-- too short for a scheme: neither a star that is meant, nor a path -/
theorem rparse_short (m s : ByteArray) (hm : (toL m == CONNECT) = false) (hs : (toL s == [42]) = false ∨ ((toL s == [42]) = true ∧ (toL m == OPTIONS) = false)) (hh : HeadNot s) (h7 : s.size < 7) (w : World) :
    Calls Tryz.prog 23 #[.string m, .string s] w fun e w' => e = .returned (rv (zero, 60)) ∧ Below w.heap.size w w' := by
  have t1 := is_text m CONNECT
  rw [hm] at t1
  unfold CONNECT at t1
  have t2 := is_text s [42]
  have t3 := is_text m OPTIONS
  unfold OPTIONS at t3
  have h7i : (s.size : Int) < 7 := by omega
  rcases hs with hs | ⟨hs, ho⟩
  · rw [hs] at t2
    clear hm hs t3
    rcases hh with h0 | ⟨h0, hq⟩
    · have h0i : ¬ (0 : Int) < (s.size : Int) := by omega
      clear h0 h7
      go_enter Tryz.func23, Tryz.ntmps23
      go_wp2_with fail
      refine bodyPost_ret (v := rv (zero, 60)) ?_ rfl ⟨rfl, (Below.refl w.heap.size w).alloc (Nat.le_refl _) _⟩
      rw [results_cell_tmp rfl]
      exact end_rbox rfl rfl (RB.new w zero)
    · have h0i : (0 : Int) < (s.size : Int) := by omega
      go_enter Tryz.func23, Tryz.ntmps23
      go_wp2_with fail
      refine bodyPost_ret (v := rv (zero, 60)) ?_ rfl ⟨rfl, (Below.refl w.heap.size w).alloc (Nat.le_refl _) _⟩
      rw [results_cell_tmp rfl]
      exact end_rbox rfl rfl (RB.new w zero)
  · rw [hs] at t2
    unfold OPTIONS at ho
    rw [ho] at t3
    rcases hh with h0 | ⟨h0, hq⟩
    · exfalso
      have := toL_length s
      rw [beq_iff_eq] at hs
      rw [hs, h0] at this
      cases this
    · clear hm hs ho
      have h0i : (0 : Int) < (s.size : Int) := by omega
      go_enter Tryz.func23, Tryz.ntmps23
      go_wp2_with fail
      refine bodyPost_ret (v := rv (zero, 60)) ?_ rfl ⟨rfl, (Below.refl w.heap.size w).alloc (Nat.le_refl _) _⟩
      rw [results_cell_tmp rfl]
      exact end_rbox rfl rfl (RB.new w zero)
set_option maxHeartbeats 1600000 in
/-- a path -/
theorem rparse_slash (m s : ByteArray) (hs : s.size ≤ 1048576) (hm : (toL m == CONNECT) = false) (hh : ((toL s).head? == some 47) = true) (w : World) :
    Calls Tryz.prog 23 #[.string m, .string s] w fun e w' => e = .returned (rv (local6 ⟨1, [], 0, [], [], false⟩ (toL s))) ∧ Below w.heap.size w w' := by
  have t1 := is_text m CONNECT
  rw [hm] at t1
  unfold CONNECT at t1
  obtain ⟨h0, hq⟩ := head_yes hh
  have t2 : (s.toList == [42]) = false := by
    rw [is_text, beq_eq_false_iff_ne]
    intro e
    rw [e] at hh
    exact absurd hh (by decide)
  have h0i : (0 : Int) < (s.size : Int) := by omega
  have HT := Lib.hid (ROne.start w)
  obtain ⟨x, hx⟩ : ∃ x, x = local6 ⟨1, [], 0, [], [], false⟩ (toL s) := ⟨_, rfl⟩
  rw [← hx]
  have HW := Lib.hid (fun w => rlocal_in 1 [] 0 s hs x hx w)
  clear hx hm hh hs
  go_enter Tryz.func23, Tryz.ntmps23
  go_wp2_with fail
  generalize w.alloc (.cells #[.int .i64 0, .string ⟨#[]⟩, .int .i64 0, .string ⟨#[]⟩, .string ⟨#[]⟩, .bool false] 27) = W at HT ⊢
  obtain ⟨g, hg⟩ : ∃ g, g = w.heap.size := ⟨_, rfl⟩
  rw [← hg] at HT ⊢
  replace hg := Lib.hid hg
  refine (HW.out _).mono ?_
  rintro e w4 ⟨rfl, hb4⟩
  replace HT := Lib.hid (HT.out.call hb4)
  clear HW hb4
  obtain ⟨r0, r1, r2, r3, r4, r5⟩ := HT.out.rbox.cells
  obtain ⟨f0, f1, f2, f3, f4, f5⟩ := HT.out.rbox.frees
  have HE := Lib.hid (HT.out.rbox.put x.1)
  have HB := Lib.hid (HT.out.put x.1)
  go_wp2_with fail
  refine bodyPost_ret (v := rv x) ?_ rfl ⟨rfl, HB.out⟩
  rw [results_cell_tmp rfl]
  exact end_rbox rfl rfl HE.out
end Go.Proofs.YtblpooddamkfdaaGreatDoor.RParse
