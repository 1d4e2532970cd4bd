/- Texts of this seat, one behind another: RLocal. -/
import Derived.Deep.QuietTactic
import Derived.BigQuiet
import Derived.Laws.DeepStrings4
import Derived.Test.YtaiipdjibllodaaDoorC
import Derived.Test.YtaiipdjibllodaaDoorP1
import Derived.Test.YtaiipdjibllodaaDoorA3
/- Layer 6, the document's own path and query of a target. -/
namespace Go.Proofs.YtaiipdjibllodaaDoor.RLocal
open Go.ChangeShapes Go.WideShapes Go.ChangeAt Go.RowKit LexPure Bytes Ret CutAt TargetPure PathPure RNormal RAuth TBox RBox Mem
set_option maxRecDepth 20000
theorem rq_cases (b : UInt8) : (qc b = true ∧ 32 < (b.toNat : Int) ∧ (b.toNat : Int) < 127 ∧ ((b.toNat : Int) == 35) = false) ∨ (qc b = false ∧ (b.toNat : Int) ≤ 32) ∨ (qc b = false ∧ 32 < (b.toNat : Int) ∧ 127 ≤ (b.toNat : Int)) ∨ (qc b = false ∧ 32 < (b.toNat : Int) ∧ (b.toNat : Int) < 127 ∧ ((b.toNat : Int) == 35) = true) := by
  have := all_bytes (p := fun b => decide ((qc b = true ∧ 32 < (b.toNat : Int) ∧ (b.toNat : Int) < 127 ∧ ((b.toNat : Int) == 35) = false) ∨ (qc b = false ∧ (b.toNat : Int) ≤ 32) ∨ (qc b = false ∧ 32 < (b.toNat : Int) ∧ 127 ≤ (b.toNat : Int)) ∨ (qc b = false ∧ 32 < (b.toNat : Int) ∧ (b.toNat : Int) < 127 ∧ ((b.toNat : Int) == 35) = true))) (by decide +kernel) b
  exact of_decide_eq_true this
set_option maxHeartbeats 3200000 in
theorem rlocal_any (fo : Int) (ho : List UInt8) (po : Int) (s : ByteArray) (hs : s.size ≤ 1048576) (x : Tgt × Int) (hx : x = local6 ⟨fo, ho, po, [], [], false⟩ (toL s)) (w : World) :
    Calls Tryd.prog 23 #[.agg #[.int .i64 fo, .string (ofL ho), .int .i64 po, .string ⟨#[]⟩, .string ⟨#[]⟩, .bool false], .string s] w fun e w' => e = .returned (rv x) ∧ Below w.heap.size w w' := by
  have HT : Hid (RTwo w ((w.alloc (.cells #[.int .i64 fo, .string (ofL ho), .int .i64 po, .string ⟨#[]⟩, .string ⟨#[]⟩, .bool false] 28)).alloc (.cells #[.int .i64 0, .string ⟨#[]⟩, .int .i64 0, .string ⟨#[]⟩, .string ⟨#[]⟩, .bool false] 28)) w.heap.size ⟨fo, ho, po, [], [], false⟩ zero) := Lib.hid (RTwo.start w fo ho po [] [] false)
  replace hx := Lib.hid hx
  obtain ⟨B0, hB0⟩ : ∃ B0, B0 = Below w.heap.size w := ⟨_, rfl⟩
  rw [← hB0]
  replace hB0 := Lib.hid hB0
  go_enter Tryd.func23, Tryd.ntmps23
  go_wp2_with fail
  generalize (w.alloc (.cells #[.int .i64 fo, .string (ofL ho), .int .i64 po, .string ⟨#[]⟩, .string ⟨#[]⟩, .bool false] 28)).alloc (.cells #[.int .i64 0, .string ⟨#[]⟩, .int .i64 0, .string ⟨#[]⟩, .string ⟨#[]⟩, .bool false] 28) = W at HT ⊢
  generalize w.heap.size = g at HT ⊢
  go_loop [6] (fun i => ∃ k : Nat, k ≤ s.size ∧ i = .int .i64 k ∧ Hid (((toL s).take k).all (fun c => c != 63) = true)) (fun i => s.size - (intOf i).toNat)
  case atStart => exact ⟨0, Nat.zero_le _, rfl, Lib.hid rfl⟩
  case round =>
    obtain ⟨k, hk, rfl, ha⟩ := hrel
    by_cases hlt : k < s.size
    · have hki : (k : Int) < (s.size : Int) := by omega
      have HTS := Lib.hid (toL_take_succ s k hlt)
      rcases x_cases 63 s[k] with ⟨hx63, hq⟩ | ⟨hx63, hq⟩
      · rw [show ((63 : UInt8).toNat : Int) = 63 from rfl] at hq
        obtain ⟨a1, a2, a3⟩ := end_some hlt hx63 ha.out
        have HN := Lib.hid (fun w => rnormal_any (s.extract 0 k) (by rw [ByteArray.size_extract]; omega) w)
        rw [toL_extract, List.drop_zero, ← a1] at HN
        have eQ : toL (s.extract (k + 1) s.size) = behind 63 (toL s) := by rw [toL_extract, List.take_of_length_le (by rw [toL_length]; exact Nat.le_refl _), a2]
        have sQ : (s.extract (k + 1) s.size).size ≤ 4194304 := by rw [ByteArray.size_extract]; omega
        have ne : ((k : Int) == (s.size : Int)) = false := beq_eq_false_iff_ne.2 (by omega)
        have c1 : (k : Int) + 1 ≤ (s.size : Int) := by omega
        have c2 : (0 : Int) ≤ (k : Int) + 1 := by omega
        have c3 : (k : Int) ≤ (s.size : Int) := by omega
        replace a3 := Lib.hid a3
        replace eQ := Lib.hid eQ
        clear HTS hx63 ha a1 a2
        generalize hahead : aheadOf 63 (toL s) = A at *
        go_wp2_with fail
        refine (HN.out _).mono ?_
        rintro e w1 ⟨rfl, hb1⟩
        replace HT := Lib.hid (HT.out.call hb1)
        clear HN hb1
        cases hn : normal A with
        | none =>
          have hr : x = (zero, 50) := by rw [hx.out]; unfold local6; rw [hahead, hn]
          subst hr
          obtain ⟨r0, r1, r2, r3, r4, r5⟩ := HT.out.rbox.cells
          obtain ⟨f0, f1, f2, f3, f4, f5⟩ := HT.out.rbox.frees
          have HE := Lib.hid (HT.out.rbox.put zero)
          have HB : Hid (B0 (put w1 (g + 1) zero)) := Lib.hid (by rw [hB0.out]; exact below_put HT.out.below (by rw [HT.out.at_]; omega) zero)
          rw [(norm_none hn).1, (norm_none hn).2]
          clear hn hx hahead a3 eQ
          go_wp2_with fail
          refine bodyPost_ret (v := rv (zero, 50)) ?_ rfl ⟨rfl, HB.out⟩
          rw [results_cell_tmp rfl]
          exact end_rbox rfl rfl HE.out
        | some p =>
          rw [(norm_some hn).1, (norm_some hn).2]
          obtain ⟨t0, t1, t2, t3, t4, t5⟩ := HT.out.tbox.cells
          obtain ⟨u0, u1, u2, u3, u4, u5⟩ := HT.out.tbox.frees
          obtain ⟨r0, r1, r2, r3, r4, r5⟩ := HT.out.rbox.cells
          obtain ⟨f0, f1, f2, f3, f4, f5⟩ := HT.out.rbox.frees
          have HT2 := HT.out.paths p (behind 63 (toL s)) true
          rw [← eQ.out, ofL_toL, eQ.out] at HT2
          replace HT2 := Lib.hid HT2
          go_wp2_with fail
          generalize ((w1.setCell ⟨g, 3, none⟩ (.string (ofL p))).setCell ⟨g, 5, none⟩ (.bool true)).setCell ⟨g, 4, none⟩ (.string (s.extract (k + 1) s.size)) = W2 at HT2 ⊢
          clear HT t0 t1 t2 t3 t4 t5 u0 u1 u2 u3 u4 u5 r0 r1 r2 r3 r4 r5 f0 f1 f2 f3 f4 f5
          obtain ⟨t0, t1, t2, t3, t4, t5⟩ := HT2.out.tbox.cells
          obtain ⟨u0, u1, u2, u3, u4, u5⟩ := HT2.out.tbox.frees
          obtain ⟨r0, r1, r2, r3, r4, r5⟩ := HT2.out.rbox.cells
          obtain ⟨f0, f1, f2, f3, f4, f5⟩ := HT2.out.rbox.frees
          have HR : Hid (qok (behind 63 (toL s)) = true → x = (⟨fo, ho, po, p, behind 63 (toL s), true⟩, 0)) := Lib.hid (fun hk => by rw [hx.out]; unfold local6; rw [hahead, hn]; simp only; rw [hk, a3.out]; rfl)
          have HF : Hid (qok (behind 63 (toL s)) = false → x = (zero, 60)) := Lib.hid (fun hk => by rw [hx.out]; unfold local6; rw [hahead, hn]; simp only; rw [hk]; rfl)
          have hqq : ofL (behind 63 (toL s)) = s.extract (k + 1) s.size := by rw [← eQ.out, ofL_toL]
          have eQ2 := eQ.out
          simp only at t0 t1 t2 t3 t4 t5
          rw [hqq] at t4
          rw [← eQ2] at HR HF HT2
          clear eQ eQ2 hqq hx hn hahead a3 ne c1 c2 c3
          generalize s.extract (k + 1) s.size = Q at *
          have hqs : (Q.size : Int) ≤ 4194304 := by omega
          go_loop [9] (fun i => ∃ j : Nat, j ≤ Q.size ∧ i = .int .i64 j ∧ Hid (((toL Q).take j).all qc = true)) (fun i => Q.size - (intOf i).toNat)
          case atStart => exact ⟨0, Nat.zero_le _, rfl, Lib.hid rfl⟩
          case round =>
            obtain ⟨j, hj, rfl, hb⟩ := hrel
            by_cases hjt : j < Q.size
            · have hji : (j : Int) < (Q.size : Int) := by omega
              have HS2 := Lib.hid (toL_take_succ Q j hjt)
              have HG2 := Lib.hid (toL_get Q j hjt)
              rcases rq_cases Q[j] with ⟨hh, h1, h2, h3⟩ | ⟨hh, h1⟩ | ⟨hh, h1, h2⟩ | ⟨hh, h1, h2, h3⟩
              · have HA : Hid (((toL Q).take (j + 1)).all qc = true) := Lib.hid (by rw [HS2.out, List.all_append, hb.out]; simp [hh])
                clear hh HS2 HG2 hb
                go_wp2_with fail
                go_round
                case rel => exact ⟨j + 1, by omega, by go_num, HA⟩
                case measure => simp [intOf]; omega
              all_goals
                have hr : x = (zero, 60) := HF.out (by
                  unfold qok
                  rw [List.all_eq_false]
                  exact ⟨Q[j], List.mem_of_getElem? HG2.out, by simpa using hh⟩)
                have HE := Lib.hid (HT2.out.rbox.put zero)
                have HB : Hid (B0 (put W2 (g + 1) zero)) := Lib.hid (by rw [hB0.out]; exact below_put HT2.out.below (by rw [HT2.out.at_]; omega) zero)
                subst hr
                clear hh HS2 HG2 hb HF HR
                go_wp2_with fail
                refine bodyPost_ret (v := rv (zero, 60)) ?_ rfl ⟨rfl, HB.out⟩
                rw [results_cell_tmp rfl]
                exact end_rbox rfl rfl HE.out
            · have hall : (toL Q).take j = toL Q := toL_take_all Q (by omega)
              have hr : x = (⟨fo, ho, po, p, toL Q, true⟩, 0) := HR.out (by
                have h := hb.out
                rw [hall] at h
                exact h)
              have HE := Lib.hid (HT2.out.rbox.put ⟨fo, ho, po, p, toL Q, true⟩)
              have HB : Hid (B0 (put W2 (g + 1) ⟨fo, ho, po, p, toL Q, true⟩)) := Lib.hid (by rw [hB0.out]; exact below_put HT2.out.below (by rw [HT2.out.at_]; omega) _)
              unfold put at HE HB
              simp only [ofL_toL] at HE HB
              subst hr
              clear hall hb HF HR
              go_wp2_with fail
              refine bodyPost_ret (v := rv (⟨fo, ho, po, p, toL Q, true⟩, 0)) ?_ rfl ⟨rfl, HB.out⟩
              rw [results_cell_tmp rfl]
              exact end_rbox rfl rfl HE.out
      · rw [show ((63 : UInt8).toNat : Int) = 63 from rfl] at hq
        have HA : Hid (((toL s).take (k + 1)).all (fun c => c != 63) = true) := Lib.hid (by rw [HTS.out, List.all_append, ha.out]; simp [hx63])
        clear HTS ha hx63
        go_wp2_with fail
        go_round
        case rel => exact ⟨k + 1, by omega, by go_num, HA⟩
        case measure => simp [intOf]; omega
    · obtain ⟨a1, a2, a3⟩ := end_none (s := s) (x := 63) (k := k) (by omega) ha.out
      have HN := Lib.hid (fun w => rnormal_any (s.extract 0 k) (by rw [ByteArray.size_extract]; omega) w)
      rw [toL_extract, List.drop_zero, ← a1] at HN
      obtain ⟨eb, heb, e1⟩ : ∃ eb : Bool, Hid (eb = true) ∧ ((k : Int) == (s.size : Int)) = eb := ⟨true, Lib.hid rfl, by rw [beq_iff_eq]; omega⟩
      have c3 : (k : Int) ≤ (s.size : Int) := by omega
      have c4 : ¬ (k : Int) < (s.size : Int) := by omega
      replace a2 := Lib.hid a2
      replace a3 := Lib.hid a3
      clear a1 ha hlt
      generalize hahead : aheadOf 63 (toL s) = A at *
      go_wp2_with fail
      refine (HN.out _).mono ?_
      rintro e w1 ⟨rfl, hb1⟩
      replace HT := Lib.hid (HT.out.call hb1)
      clear HN hb1
      cases hn : normal A with
      | none =>
        have hr : x = (zero, 50) := by rw [hx.out]; unfold local6; rw [hahead, hn]
        subst hr
        obtain ⟨r0, r1, r2, r3, r4, r5⟩ := HT.out.rbox.cells
        obtain ⟨f0, f1, f2, f3, f4, f5⟩ := HT.out.rbox.frees
        have HE := Lib.hid (HT.out.rbox.put zero)
        have HB : Hid (B0 (put w1 (g + 1) zero)) := Lib.hid (by rw [hB0.out]; exact below_put HT.out.below (by rw [HT.out.at_]; omega) zero)
        rw [(norm_none hn).1, (norm_none hn).2]
        clear hn hx hahead a2 a3 e1
        go_wp2_with fail
        refine bodyPost_ret (v := rv (zero, 50)) ?_ rfl ⟨rfl, HB.out⟩
        rw [results_cell_tmp rfl]
        exact end_rbox rfl rfl HE.out
      | some p =>
        have hr : x = (⟨fo, ho, po, p, [], false⟩, 0) := by rw [hx.out]; unfold local6; rw [hahead, hn, a2.out, a3.out]; rfl
        subst hr
        rw [(norm_some hn).1, (norm_some hn).2]
        obtain ⟨t0, t1, t2, t3, t4, t5⟩ := HT.out.tbox.cells
        obtain ⟨u0, u1, u2, u3, u4, u5⟩ := HT.out.tbox.frees
        obtain ⟨r0, r1, r2, r3, r4, r5⟩ := HT.out.rbox.cells
        obtain ⟨f0, f1, f2, f3, f4, f5⟩ := HT.out.rbox.frees
        have HT2 := Lib.hid (HT.out.path p)
        have HE := Lib.hid (HT2.out.rbox.put ⟨fo, ho, po, p, [], false⟩)
        have HB : Hid (B0 (put (w1.setCell ⟨g, 3, none⟩ (.string (ofL p))) (g + 1) ⟨fo, ho, po, p, [], false⟩)) := Lib.hid (by rw [hB0.out]; exact below_put HT2.out.below (by rw [HT2.out.at_]; omega) _)
        clear hn hx hahead a2 a3 HT2
        obtain rfl := heb.out
        go_wp2_with fail
        refine bodyPost_ret (v := rv (⟨fo, ho, po, p, [], false⟩, 0)) ?_ rfl ⟨rfl, HB.out⟩
        rw [results_cell_tmp rfl]
        exact end_rbox rfl rfl HE.out
end Go.Proofs.YtaiipdjibllodaaDoor.RLocal
