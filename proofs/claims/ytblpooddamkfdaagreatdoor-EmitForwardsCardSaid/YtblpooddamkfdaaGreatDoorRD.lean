/- Texts of this seat, one behind another: R11ReadD. -/

import Derived.Test.YtblpooddamkfdaaGreatDoorRA
/- Layer 11, the document's own Read: a body by its length, or in chunks. -/
namespace Go.Proofs.YtblpooddamkfdaaGreatDoor.R11Read
open Go.ChangeShapes Go.WideShapes Go.ChangeAt Go.RowKit LexPure Bytes FieldsPure HeadPure FramePure TargetPure InflowPure Flds HBox KeptRow Mem R11D R12Box R11Host
set_option maxRecDepth 100000
set_option linter.unusedVariables false
set_option linter.unusedSimpArgs false
set_option maxHeartbeats 12800000 in
theorem tailD (s : ByteArray) (hs : s.size ≤ 140737488351232) (most : Int) (hmost : -9223372036854775808 ≤ most ∧ most ≤ 9223372036854775807) (w : World) : (upto s hs most hmost w).1.2.1 := by
  have HMost := Lib.hid hmost
  have HS := Lib.hid hs
  conv => whnf
  clear hmost hs
  intro X Q' h n HFw hn0 HNL hlen p cap gh t gt hn hp nx K L h9 w6 T6 HR9 HX4 kp up kb HKU HKB hkb HBm K0 hK0 W8 g8 HQ hK
  have hq : kb = true := by rw [HKB.out]; exact bne_iff_ne.2 hK
  subst hq
  have hnc : ¬ (h.method = TargetPure.CONNECT ∧ K ≠ 1) := fun ⟨e, _⟩ => by have := HBm.out; rw [e] at this; exact absurd this (by decide)
  have HX5 := Lib.hid (HX4.out.trans (if_neg hnc))
  have HB := Lib.hid (T6.out.h.q.call HQ.out.below)
  have HRow : Hid (RowF W8 (w.heap.size + 1) (.slice p h.fields.length cap) h.fields) := Lib.hid (RowF.below T6.out.h.row HQ.out.below)
  have hlow := T6.out.h.q.below.size
  have hgl : w.heap.size < g8 := by have := HQ.out.low; have := T6.out.h.low; have := T6.out.h.lt; omega
  have hki := kinds (HR9.out.symm)
  have hnl := HNL.out
  have hss := HS.out
  clear HX4 hnc
  by_cases hK2 : K = 2
  · subst hK2
    obtain ⟨m, rfl⟩ : ∃ m : Nat, L = m := ⟨L.toNat, by omega⟩
    have HX6 : Hid (X = (if (((toL s).drop n).length : Int) < (m : Int) then .wait else .whole ⟨h, t, hn, hp, ((toL s).drop n).take (m : Int).toNat, true, keep9 h.minor h.fields, up11 h 2⟩ (n + m))) := Lib.hid HX5.out
    clear HX5 hki hlow
    rw [List.length_drop, toL_length] at HX6
    by_cases hl : ((s.size - n : Nat) : Int) < (m : Int)
    · have HV : Hid (X = .wait) := Lib.hid (HX6.out.trans (if_pos hl))
      have hli : (s.size : Int) - (n : Int) < (m : Int) := by omega
      clear HX6 hl HQ HRow hgl
      as_aux_lemma =>
        have hat := HB.out.box.at_
        have HE := HB.out.put zq
        have hld := qload HE.box rfl
        go_wp2_with (refine wpList_store_row rfl QT _ _ rfl w.heap.size zq rfl rfl QT _ hat (by kernel_rfl) rfl (by simp [zq, Value.oneCell']) ?_)
        refine bodyPost_ret (v := .tuple #[.agg zq, .int .i64 0, .int .i64 0]) ?_ rfl ⟨HV.out ▸ rfl, HE.below⟩
        rw [results_cell_tmp2 rfl]
        simp [asAddr, Result.andThen, hld]
    · have hli : ¬ (s.size : Int) - (n : Int) < (m : Int) := by omega
      have HV : Hid (X = .whole ⟨h, t, hn, hp, ((toL s).drop n).take m, true, keep9 h.minor h.fields, up11 h 2⟩ (n + m)) := Lib.hid (HX6.out.trans (if_neg hl))
      have hbt : ((toL s).drop n).take m = toL (s.extract n (n + m)) := by rw [toL_extract, List.take_drop]
      have HBT := Lib.hid hbt
      clear HX6 hl hbt
      as_aux_lemma =>
        have c14 : W8.cell? ⟨g8, 14, none⟩ = some (.string ⟨#[]⟩) := HQ.out.box.cell 14
        have f14 := HQ.out.box.free 14
        have HQ2 : Hid (Has (W8.setCell ⟨g8, 14, none⟩ (.string (s.extract n (n + m)))) g8 QT #[.string (ofL h.method), .string (ofL h.target), .int .i64 h.status, .string (ofL h.reason), .int .i64 h.minor, .slice p h.fields.length cap, .int .i64 t.form, .string (ofL t.host), .int .i64 t.port, .string (ofL t.path), .string (ofL t.query), .bool t.has, .string (ofL hn), .int .i64 hp, .string (s.extract n (n + m)), .bool true, .bool kp, .string (ofL up)]) := Lib.hid (HQ.out.box.set_ 14 (.string (s.extract n (n + m))))
        have HB2 : Hid (QB w zq (W8.setCell ⟨g8, 14, none⟩ (.string (s.extract n (n + m))))) := Lib.hid ⟨HB.out.below.setCell (p := ⟨g8, 14, none⟩) (Nat.le_of_lt hgl) _, HB.out.box.far (p := ⟨g8, 14, none⟩) (Nat.ne_of_lt hgl) _⟩
        have HRow2 : Hid (RowF (W8.setCell ⟨g8, 14, none⟩ (.string (s.extract n (n + m)))) (w.heap.size + 1) (.slice p h.fields.length cap) h.fields) := Lib.hid (RowF.below T6.out.h.row (HQ.out.below.setCell (p := ⟨g8, 14, none⟩) HQ.out.low _))
        replace HB := HB2
        replace HRow := HRow2
        have e0 : (W8.setCell ⟨g8, 14, none⟩ (.string (s.extract n (n + m)))).cell? ⟨g8, 0, none⟩ = some (.string (ofL h.method)) := HQ2.out.cell 0
        have e1 : (W8.setCell ⟨g8, 14, none⟩ (.string (s.extract n (n + m)))).cell? ⟨g8, 1, none⟩ = some (.string (ofL h.target)) := HQ2.out.cell 1
        have e2 : (W8.setCell ⟨g8, 14, none⟩ (.string (s.extract n (n + m)))).cell? ⟨g8, 2, none⟩ = some (.int .i64 h.status) := HQ2.out.cell 2
        have e3 : (W8.setCell ⟨g8, 14, none⟩ (.string (s.extract n (n + m)))).cell? ⟨g8, 3, none⟩ = some (.string (ofL h.reason)) := HQ2.out.cell 3
        have e4 : (W8.setCell ⟨g8, 14, none⟩ (.string (s.extract n (n + m)))).cell? ⟨g8, 4, none⟩ = some (.int .i64 h.minor) := HQ2.out.cell 4
        have e5 : (W8.setCell ⟨g8, 14, none⟩ (.string (s.extract n (n + m)))).cell? ⟨g8, 5, none⟩ = some (.slice p h.fields.length cap) := HQ2.out.cell 5
        have e6 : (W8.setCell ⟨g8, 14, none⟩ (.string (s.extract n (n + m)))).cell? ⟨g8, 6, none⟩ = some (.int .i64 t.form) := HQ2.out.cell 6
        have e7 : (W8.setCell ⟨g8, 14, none⟩ (.string (s.extract n (n + m)))).cell? ⟨g8, 7, none⟩ = some (.string (ofL t.host)) := HQ2.out.cell 7
        have e8 : (W8.setCell ⟨g8, 14, none⟩ (.string (s.extract n (n + m)))).cell? ⟨g8, 8, none⟩ = some (.int .i64 t.port) := HQ2.out.cell 8
        have e9 : (W8.setCell ⟨g8, 14, none⟩ (.string (s.extract n (n + m)))).cell? ⟨g8, 9, none⟩ = some (.string (ofL t.path)) := HQ2.out.cell 9
        have e10 : (W8.setCell ⟨g8, 14, none⟩ (.string (s.extract n (n + m)))).cell? ⟨g8, 10, none⟩ = some (.string (ofL t.query)) := HQ2.out.cell 10
        have e11 : (W8.setCell ⟨g8, 14, none⟩ (.string (s.extract n (n + m)))).cell? ⟨g8, 11, none⟩ = some (.bool t.has) := HQ2.out.cell 11
        have e12 : (W8.setCell ⟨g8, 14, none⟩ (.string (s.extract n (n + m)))).cell? ⟨g8, 12, none⟩ = some (.string (ofL hn)) := HQ2.out.cell 12
        have e13 : (W8.setCell ⟨g8, 14, none⟩ (.string (s.extract n (n + m)))).cell? ⟨g8, 13, none⟩ = some (.int .i64 hp) := HQ2.out.cell 13
        have e14 : (W8.setCell ⟨g8, 14, none⟩ (.string (s.extract n (n + m)))).cell? ⟨g8, 14, none⟩ = some (.string (s.extract n (n + m))) := HQ2.out.cell 14
        have e15 : (W8.setCell ⟨g8, 14, none⟩ (.string (s.extract n (n + m)))).cell? ⟨g8, 15, none⟩ = some (.bool true) := HQ2.out.cell 15
        have e16 : (W8.setCell ⟨g8, 14, none⟩ (.string (s.extract n (n + m)))).cell? ⟨g8, 16, none⟩ = some (.bool kp) := HQ2.out.cell 16
        have e17 : (W8.setCell ⟨g8, 14, none⟩ (.string (s.extract n (n + m)))).cell? ⟨g8, 17, none⟩ = some (.string (ofL up)) := HQ2.out.cell 17
        clear HQ2 HB2 HRow2 HQ hgl
        have hat := HB.out.box.at_
        have HE := HB.out.put #[.string (ofL h.method), .string (ofL h.target), .int .i64 h.status, .string (ofL h.reason), .int .i64 h.minor, .slice p h.fields.length cap, .int .i64 t.form, .string (ofL t.host), .int .i64 t.port, .string (ofL t.path), .string (ofL t.query), .bool t.has, .string (ofL hn), .int .i64 hp, .string (s.extract n (n + m)), .bool true, .bool kp, .string (ofL up)]
        have hld := qload HE.box rfl
        go_wp2_with (refine wpList_store_row rfl QT _ _ rfl w.heap.size #[.string (ofL h.method), .string (ofL h.target), .int .i64 h.status, .string (ofL h.reason), .int .i64 h.minor, .slice p h.fields.length cap, .int .i64 t.form, .string (ofL t.host), .int .i64 t.port, .string (ofL t.path), .string (ofL t.query), .bool t.has, .string (ofL hn), .int .i64 hp, .string (s.extract n (n + m)), .bool true, .bool kp, .string (ofL up)] rfl rfl QT _ hat (by kernel_rfl) rfl (by simp [Value.oneCell']) ?_)
        refine bodyPost_ret (v := .tuple #[.agg #[.string (ofL h.method), .string (ofL h.target), .int .i64 h.status, .string (ofL h.reason), .int .i64 h.minor, .slice p h.fields.length cap, .int .i64 t.form, .string (ofL t.host), .int .i64 t.port, .string (ofL t.path), .string (ofL t.query), .bool t.has, .string (ofL hn), .int .i64 hp, .string (s.extract n (n + m)), .bool true, .bool kp, .string (ofL up)], .int .i64 ((n : Int) + (m : Int)), .int .i64 0]) ?_ rfl ⟨?_, HE.below⟩
        · rw [results_cell_tmp2 rfl]
          simp [asAddr, Result.andThen, hld]
        · rw [HV.out]
          obtain ⟨hkp, hup⟩ := HKU.out
          subst hkp hup
          exact ⟨_, (by unfold qcl; rw [HBT.out, ofL_toL]), row_lower (row_setRow HRow.out.1 (Nat.lt_succ_self _) _) (Nat.le_succ _) HRow.out.2⟩
  · obtain ⟨rfl, rfl⟩ : K = 3 ∧ L = 0 := by omega
    have HX6 : Hid (X = (if (chunkD most ((toL s).drop n)).2.2 ≠ 0 then .fail (status11 (chunkD most ((toL s).drop n)).2.2) else if (chunkD most ((toL s).drop n)).2.1 < 0 then .wait else .whole ⟨h, t, hn, hp, (chunkD most ((toL s).drop n)).1, true, keep9 h.minor h.fields, up11 h 3⟩ (n + (chunkD most ((toL s).drop n)).2.1))) := Lib.hid HX5.out
    have hD : toL (s.extract n s.size) = (toL s).drop n := by rw [toL_extract, show s.size = (toL s).length by rw [toL_length], List.take_length]
    have hxs : (s.extract n s.size).size = s.size - n := by simp
    have HT : Hid (Calls Tryz.prog 28 #[.string (s.extract n s.size), .int .i64 most] W8 fun e w' => e = .returned (.tuple #[.string (ofL (chunkD most (toL (s.extract n s.size))).1), .int .i64 (chunkD most (toL (s.extract n s.size))).2.1, .int .i64 (chunkD most (toL (s.extract n s.size))).2.2]) ∧ Below W8.heap.size W8 w') := Lib.hid (R10Read.r10read_any (s.extract n s.size) (by omega) most HMost.out W8)
    rw [hD] at HT
    have hce := (chunk_end most ((toL s).drop n)).1
    rw [List.length_drop, toL_length] at hce
    obtain ⟨⟨B, E, G⟩, hC⟩ : ∃ C, C = chunkD most ((toL s).drop n) := ⟨_, rfl⟩
    rw [← hC] at HT HX6 hce
    clear HX5 hki hlow hC hD hxs
    dsimp only at HX6 HT hce
    go_wp2_with fail
    refine HT.out.mono ?_
    rintro e w9 ⟨rfl, hb9⟩
    replace HB := Lib.hid (HB.out.call hb9)
    have HQ9 : Hid (RQ w6 w9 g8 #[.string (ofL h.method), .string (ofL h.target), .int .i64 h.status, .string (ofL h.reason), .int .i64 h.minor, .slice p h.fields.length cap, .int .i64 t.form, .string (ofL t.host), .int .i64 t.port, .string (ofL t.path), .string (ofL t.query), .bool t.has, .string (ofL hn), .int .i64 hp, .string ⟨#[]⟩, .bool true, .bool kp, .string (ofL up)]) := Lib.hid ⟨below_chain HQ.out.below hb9, HQ.out.box.below hb9 HQ.out.box.lt, HQ.out.low⟩
    clear hb9 HT HQ HRow
    by_cases hG : G = 0
    case neg =>
      have hGb : (G != 0) = true := bne_iff_ne.2 hG
      have HS := Lib.hid (fun w => R11Stat.r11status_any G w)
      have HV : Hid (X = .fail (status11 G)) := Lib.hid (HX6.out.trans (if_pos hG))
      clear HX6 hG
      go_wp2_with fail
      refine (HS.out _).mono ?_
      rintro e w10 ⟨rfl, rfl⟩
      clear HS
      as_aux_lemma =>
        have hat := HB.out.box.at_
        have HE := HB.out.put zq
        have hld := qload HE.box rfl
        go_wp2_with (refine wpList_store_row rfl QT _ _ rfl w.heap.size zq rfl rfl QT _ hat (by kernel_rfl) rfl (by simp [zq, Value.oneCell']) ?_)
        refine bodyPost_ret (v := .tuple #[.agg zq, .int .i64 0, .int .i64 (status11 G)]) ?_ rfl ⟨HV.out ▸ rfl, HE.below⟩
        rw [results_cell_tmp2 rfl]
        simp [asAddr, Result.andThen, hld]
    subst hG
    have HX7 := Lib.hid (HX6.out.trans (if_neg (fun h => h rfl)))
    clear HX6
    by_cases hE : E < 0
    · have HV : Hid (X = .wait) := Lib.hid (HX7.out.trans (if_pos hE))
      clear HX7
      as_aux_lemma =>
        have hat := HB.out.box.at_
        have HE := HB.out.put zq
        have hld := qload HE.box rfl
        go_wp2_with (refine wpList_store_row rfl QT _ _ rfl w.heap.size zq rfl rfl QT _ hat (by kernel_rfl) rfl (by simp [zq, Value.oneCell']) ?_)
        refine bodyPost_ret (v := .tuple #[.agg zq, .int .i64 0, .int .i64 0]) ?_ rfl ⟨HV.out ▸ rfl, HE.below⟩
        rw [results_cell_tmp2 rfl]
        simp [asAddr, Result.andThen, hld]
    · have HV : Hid (X = .whole ⟨h, t, hn, hp, B, true, keep9 h.minor h.fields, up11 h 3⟩ (n + E)) := Lib.hid (HX7.out.trans (if_neg hE))
      have HRow : True := trivial
      clear HX7
      as_aux_lemma =>
        have c14 : w9.cell? ⟨g8, 14, none⟩ = some (.string ⟨#[]⟩) := HQ9.out.box.cell 14
        have f14 := HQ9.out.box.free 14
        have HQ2 : Hid (Has (w9.setCell ⟨g8, 14, none⟩ (.string (ofL B))) g8 QT #[.string (ofL h.method), .string (ofL h.target), .int .i64 h.status, .string (ofL h.reason), .int .i64 h.minor, .slice p h.fields.length cap, .int .i64 t.form, .string (ofL t.host), .int .i64 t.port, .string (ofL t.path), .string (ofL t.query), .bool t.has, .string (ofL hn), .int .i64 hp, .string (ofL B), .bool true, .bool kp, .string (ofL up)]) := Lib.hid (HQ9.out.box.set_ 14 (.string (ofL B)))
        have HB2 : Hid (QB w zq (w9.setCell ⟨g8, 14, none⟩ (.string (ofL B)))) := Lib.hid ⟨HB.out.below.setCell (p := ⟨g8, 14, none⟩) (Nat.le_of_lt hgl) _, HB.out.box.far (p := ⟨g8, 14, none⟩) (Nat.ne_of_lt hgl) _⟩
        have HRow2 : Hid (RowF (w9.setCell ⟨g8, 14, none⟩ (.string (ofL B))) (w.heap.size + 1) (.slice p h.fields.length cap) h.fields) := Lib.hid (RowF.below T6.out.h.row (HQ9.out.below.setCell (p := ⟨g8, 14, none⟩) HQ9.out.low _))
        replace HB := HB2
        replace HRow := HRow2
        have e0 : (w9.setCell ⟨g8, 14, none⟩ (.string (ofL B))).cell? ⟨g8, 0, none⟩ = some (.string (ofL h.method)) := HQ2.out.cell 0
        have e1 : (w9.setCell ⟨g8, 14, none⟩ (.string (ofL B))).cell? ⟨g8, 1, none⟩ = some (.string (ofL h.target)) := HQ2.out.cell 1
        have e2 : (w9.setCell ⟨g8, 14, none⟩ (.string (ofL B))).cell? ⟨g8, 2, none⟩ = some (.int .i64 h.status) := HQ2.out.cell 2
        have e3 : (w9.setCell ⟨g8, 14, none⟩ (.string (ofL B))).cell? ⟨g8, 3, none⟩ = some (.string (ofL h.reason)) := HQ2.out.cell 3
        have e4 : (w9.setCell ⟨g8, 14, none⟩ (.string (ofL B))).cell? ⟨g8, 4, none⟩ = some (.int .i64 h.minor) := HQ2.out.cell 4
        have e5 : (w9.setCell ⟨g8, 14, none⟩ (.string (ofL B))).cell? ⟨g8, 5, none⟩ = some (.slice p h.fields.length cap) := HQ2.out.cell 5
        have e6 : (w9.setCell ⟨g8, 14, none⟩ (.string (ofL B))).cell? ⟨g8, 6, none⟩ = some (.int .i64 t.form) := HQ2.out.cell 6
        have e7 : (w9.setCell ⟨g8, 14, none⟩ (.string (ofL B))).cell? ⟨g8, 7, none⟩ = some (.string (ofL t.host)) := HQ2.out.cell 7
        have e8 : (w9.setCell ⟨g8, 14, none⟩ (.string (ofL B))).cell? ⟨g8, 8, none⟩ = some (.int .i64 t.port) := HQ2.out.cell 8
        have e9 : (w9.setCell ⟨g8, 14, none⟩ (.string (ofL B))).cell? ⟨g8, 9, none⟩ = some (.string (ofL t.path)) := HQ2.out.cell 9
        have e10 : (w9.setCell ⟨g8, 14, none⟩ (.string (ofL B))).cell? ⟨g8, 10, none⟩ = some (.string (ofL t.query)) := HQ2.out.cell 10
        have e11 : (w9.setCell ⟨g8, 14, none⟩ (.string (ofL B))).cell? ⟨g8, 11, none⟩ = some (.bool t.has) := HQ2.out.cell 11
        have e12 : (w9.setCell ⟨g8, 14, none⟩ (.string (ofL B))).cell? ⟨g8, 12, none⟩ = some (.string (ofL hn)) := HQ2.out.cell 12
        have e13 : (w9.setCell ⟨g8, 14, none⟩ (.string (ofL B))).cell? ⟨g8, 13, none⟩ = some (.int .i64 hp) := HQ2.out.cell 13
        have e14 : (w9.setCell ⟨g8, 14, none⟩ (.string (ofL B))).cell? ⟨g8, 14, none⟩ = some (.string (ofL B)) := HQ2.out.cell 14
        have e15 : (w9.setCell ⟨g8, 14, none⟩ (.string (ofL B))).cell? ⟨g8, 15, none⟩ = some (.bool true) := HQ2.out.cell 15
        have e16 : (w9.setCell ⟨g8, 14, none⟩ (.string (ofL B))).cell? ⟨g8, 16, none⟩ = some (.bool kp) := HQ2.out.cell 16
        have e17 : (w9.setCell ⟨g8, 14, none⟩ (.string (ofL B))).cell? ⟨g8, 17, none⟩ = some (.string (ofL up)) := HQ2.out.cell 17
        clear HQ2 HB2 HRow2 HQ9 hgl
        have hat := HB.out.box.at_
        have HE := HB.out.put #[.string (ofL h.method), .string (ofL h.target), .int .i64 h.status, .string (ofL h.reason), .int .i64 h.minor, .slice p h.fields.length cap, .int .i64 t.form, .string (ofL t.host), .int .i64 t.port, .string (ofL t.path), .string (ofL t.query), .bool t.has, .string (ofL hn), .int .i64 hp, .string (ofL B), .bool true, .bool kp, .string (ofL up)]
        have hld := qload HE.box rfl
        go_wp2_with (refine wpList_store_row rfl QT _ _ rfl w.heap.size #[.string (ofL h.method), .string (ofL h.target), .int .i64 h.status, .string (ofL h.reason), .int .i64 h.minor, .slice p h.fields.length cap, .int .i64 t.form, .string (ofL t.host), .int .i64 t.port, .string (ofL t.path), .string (ofL t.query), .bool t.has, .string (ofL hn), .int .i64 hp, .string (ofL B), .bool true, .bool kp, .string (ofL up)] rfl rfl QT _ hat (by kernel_rfl) rfl (by simp [Value.oneCell']) ?_)
        refine bodyPost_ret (v := .tuple #[.agg #[.string (ofL h.method), .string (ofL h.target), .int .i64 h.status, .string (ofL h.reason), .int .i64 h.minor, .slice p h.fields.length cap, .int .i64 t.form, .string (ofL t.host), .int .i64 t.port, .string (ofL t.path), .string (ofL t.query), .bool t.has, .string (ofL hn), .int .i64 hp, .string (ofL B), .bool true, .bool kp, .string (ofL up)], .int .i64 ((n : Int) + E), .int .i64 0]) ?_ rfl ⟨?_, HE.below⟩
        · rw [results_cell_tmp2 rfl]
          simp [asAddr, Result.andThen, hld]
        · rw [HV.out]
          obtain ⟨hkp, hup⟩ := HKU.out
          subst hkp hup
          exact ⟨_, rfl, row_lower (row_setRow HRow.out.1 (Nat.lt_succ_self _) _) (Nat.le_succ _) HRow.out.2⟩
end Go.Proofs.YtblpooddamkfdaaGreatDoor.R11Read
