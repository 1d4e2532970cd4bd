/- Texts of this seat, one behind another: R11ReadB. -/

import Derived.Test.YtblpooddamkfdaaGreatDoorRA
/- Layer 11, the document's own Read: a request without a body. -/
namespace Go.Proofs.YtblpooddamkfdaaGreatDoor.R11Read
open Go.ChangeShapes Go.WideShapes Go.ChangeAt Go.RowKit LexPure Bytes FieldsPure HeadPure FramePure TargetPure InflowPure Flds HBox KeptRow Mem R11D R12Box R11Host
set_option maxRecDepth 100000
set_option linter.unusedVariables false
set_option linter.unusedSimpArgs false
set_option maxHeartbeats 12800000 in
theorem tailB (s : ByteArray) (hs : s.size ≤ 140737488351232) (most : Int) (hmost : -9223372036854775808 ≤ most ∧ most ≤ 9223372036854775807) (w : World) : (upto s hs most hmost w).1.1 := by
  have HMost := Lib.hid hmost
  have HS := Lib.hid hs
  conv => whnf
  clear hmost hs
  intro X Q' h n HFw hn0 HNL hlen p cap gh t gt hn hp nx L h9 w6 T6 kp up kb HBm K0 hK0 W8 g8 HQ HR9 HX4 HKU HKB hkb
  have HV : Hid (X = .whole ⟨h, t, hn, hp, [], false, keep9 h.minor h.fields, up11 h 1⟩ n) := Lib.hid (by
    have := HX4.out
    rw [if_neg (by rintro ⟨_, h⟩; exact h rfl)] at this
    exact this)
  have hq : kb = false := HKB.out
  subst hq
  have HB := Lib.hid (T6.out.h.q.call HQ.out.below)
  have HRow : Hid (RowF W8 (w.heap.size + 1) (.slice p h.fields.length cap) h.fields) := Lib.hid (RowF.below T6.out.h.row HQ.out.below)
  have c0 : W8.cell? ⟨g8, 0, none⟩ = some (.string (ofL h.method)) := HQ.out.box.cell 0
  have c1 : W8.cell? ⟨g8, 1, none⟩ = some (.string (ofL h.target)) := HQ.out.box.cell 1
  have c2 : W8.cell? ⟨g8, 2, none⟩ = some (.int .i64 h.status) := HQ.out.box.cell 2
  have c3 : W8.cell? ⟨g8, 3, none⟩ = some (.string (ofL h.reason)) := HQ.out.box.cell 3
  have c4 : W8.cell? ⟨g8, 4, none⟩ = some (.int .i64 h.minor) := HQ.out.box.cell 4
  have c5 : W8.cell? ⟨g8, 5, none⟩ = some (.slice p h.fields.length cap) := HQ.out.box.cell 5
  have c6 : W8.cell? ⟨g8, 6, none⟩ = some (.int .i64 t.form) := HQ.out.box.cell 6
  have c7 : W8.cell? ⟨g8, 7, none⟩ = some (.string (ofL t.host)) := HQ.out.box.cell 7
  have c8 : W8.cell? ⟨g8, 8, none⟩ = some (.int .i64 t.port) := HQ.out.box.cell 8
  have c9 : W8.cell? ⟨g8, 9, none⟩ = some (.string (ofL t.path)) := HQ.out.box.cell 9
  have c10 : W8.cell? ⟨g8, 10, none⟩ = some (.string (ofL t.query)) := HQ.out.box.cell 10
  have c11 : W8.cell? ⟨g8, 11, none⟩ = some (.bool t.has) := HQ.out.box.cell 11
  have c12 : W8.cell? ⟨g8, 12, none⟩ = some (.string (ofL hn)) := HQ.out.box.cell 12
  have c13 : W8.cell? ⟨g8, 13, none⟩ = some (.int .i64 hp) := HQ.out.box.cell 13
  have c14 : W8.cell? ⟨g8, 14, none⟩ = some (.string ⟨#[]⟩) := HQ.out.box.cell 14
  have c15 : W8.cell? ⟨g8, 15, none⟩ = some (.bool false) := HQ.out.box.cell 15
  have c16 : W8.cell? ⟨g8, 16, none⟩ = some (.bool kp) := HQ.out.box.cell 16
  have c17 : W8.cell? ⟨g8, 17, none⟩ = some (.string (ofL up)) := HQ.out.box.cell 17
  clear HX4 HQ T6
  have hat := HB.out.box.at_
  have HE := HB.out.put #[.string (ofL h.method), .string (ofL h.target), .int .i64 h.status, .string (ofL h.reason), .int .i64 h.minor, .slice p h.fields.length cap, .int .i64 t.form, .string (ofL t.host), .int .i64 t.port, .string (ofL t.path), .string (ofL t.query), .bool t.has, .string (ofL hn), .int .i64 hp, .string ⟨#[]⟩, .bool false, .bool kp, .string (ofL up)]
  have hld := qload HE.box rfl
  go_wp2_with (refine wpList_store_row rfl QT _ _ rfl w.heap.size #[.string (ofL h.method), .string (ofL h.target), .int .i64 h.status, .string (ofL h.reason), .int .i64 h.minor, .slice p h.fields.length cap, .int .i64 t.form, .string (ofL t.host), .int .i64 t.port, .string (ofL t.path), .string (ofL t.query), .bool t.has, .string (ofL hn), .int .i64 hp, .string ⟨#[]⟩, .bool false, .bool kp, .string (ofL up)] rfl rfl QT _ hat (by kernel_rfl) rfl (by simp [Value.oneCell']) ?_)
  refine bodyPost_ret (v := .tuple #[.agg #[.string (ofL h.method), .string (ofL h.target), .int .i64 h.status, .string (ofL h.reason), .int .i64 h.minor, .slice p h.fields.length cap, .int .i64 t.form, .string (ofL t.host), .int .i64 t.port, .string (ofL t.path), .string (ofL t.query), .bool t.has, .string (ofL hn), .int .i64 hp, .string ⟨#[]⟩, .bool false, .bool kp, .string (ofL up)], .int .i64 n, .int .i64 0]) ?_ rfl ⟨?_, HE.below⟩
  · rw [results_cell_tmp2 rfl]
    simp [asAddr, Result.andThen, hld]
  · rw [HV.out]
    obtain ⟨hkp, hup⟩ := HKU.out
    subst hkp hup
    exact ⟨_, rfl, row_lower (row_setRow HRow.out.1 (Nat.lt_succ_self _) _) (Nat.le_succ _) HRow.out.2⟩
end Go.Proofs.YtblpooddamkfdaaGreatDoor.R11Read
