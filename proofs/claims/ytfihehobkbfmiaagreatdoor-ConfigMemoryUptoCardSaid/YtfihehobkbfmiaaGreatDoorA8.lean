/- Texts of this seat, one behind another: R14Line. -/
import Derived.Handy
import Derived.Test.YtfihehobkbfmiaaGreatDoorA7
/- Layer 14, the document's own route: a route's line. -/
namespace Go.Proofs.YtfihehobkbfmiaaGreatDoor.R14Line
open Go.ChangeShapes Go.WideShapes Go.ChangeAt Go.RowKit Bytes LexPure EmitPure ConfPure ConfMem Ret Mem R14Name R14Num
set_option maxRecDepth 100000
set_option linter.unusedVariables false
set_option linter.unusedSimpArgs false
abbrev RT : TypeId := 45
theorem str_app (A l : List UInt8) : ofL A ++ ofL l = ofL (A ++ l) := by
  apply toL_inj
  simp [toL, ofL]
structure Bx (w : World) (g : Nat) (t : TypeId) (cs : Array Value) (W : World) : Prop where
  box : Has W g t cs
  below : Below g w W
theorem Bx.call {w W W' : World} {g : Nat} {t : TypeId} {cs : Array Value} (x : Bx w g t cs W) (hb : Below W.heap.size W W') : Bx w g t cs W' :=
  ⟨x.box.below hb x.box.lt, ⟨hb.os.trans x.below.os, hb.tape.trans x.below.tape, hb.output.trans x.below.output, Nat.le_trans x.below.size hb.size, fun i hi => (hb.block i (Nat.lt_trans hi x.box.lt)).trans (x.below.block i hi)⟩⟩
theorem Bx.drew {w W : World} {g : Nat} {t : TypeId} {cs : Array Value} (x : Bx w g t cs W) : Bx w g t cs W.drew := ⟨x.box.drew, below_drew x.below⟩
theorem Bx.start (w : World) (t : TypeId) (cs : Array Value) : Bx w w.heap.size t cs (w.alloc (.cells cs t)) := ⟨Has.new w _ _, (Below.refl _ _).alloc (Nat.le_refl _) _⟩
/-- a route's cells -/
theorem rcells {w W : World} {g : Nat} {x : Rout} (h : Bx w g RT #[.bool x.pre, .string (ofL x.path), .string (ofL x.method), .string (ofL x.field), .string (ofL x.value), .int .i64 x.action, .string (ofL x.cluster), .int .i64 x.status, .string (ofL x.text), .string (ofL x.rewrite), .int .i64 x.retries, .int .i64 x.timeout, .bool x.upgrade] W) : W.cell? ⟨g, 0, none⟩ = some (.bool x.pre) ∧ W.cell? ⟨g, 1, none⟩ = some (.string (ofL x.path)) ∧ W.cell? ⟨g, 2, none⟩ = some (.string (ofL x.method)) ∧ W.cell? ⟨g, 3, none⟩ = some (.string (ofL x.field)) ∧ W.cell? ⟨g, 4, none⟩ = some (.string (ofL x.value)) ∧ W.cell? ⟨g, 5, none⟩ = some (.int .i64 x.action) ∧ W.cell? ⟨g, 6, none⟩ = some (.string (ofL x.cluster)) ∧ W.cell? ⟨g, 7, none⟩ = some (.int .i64 x.status) ∧ W.cell? ⟨g, 8, none⟩ = some (.string (ofL x.text)) ∧ W.cell? ⟨g, 9, none⟩ = some (.string (ofL x.rewrite)) ∧ W.cell? ⟨g, 10, none⟩ = some (.int .i64 x.retries) ∧ W.cell? ⟨g, 11, none⟩ = some (.int .i64 x.timeout) ∧ W.cell? ⟨g, 12, none⟩ = some (.bool x.upgrade) :=
  ⟨h.box.cell 0, h.box.cell 1, h.box.cell 2, h.box.cell 3, h.box.cell 4, h.box.cell 5, h.box.cell 6, h.box.cell 7, h.box.cell 8, h.box.cell 9, h.box.cell 10, h.box.cell 11, h.box.cell 12⟩
set_option maxHeartbeats 12800000 in
theorem rline_any (x : Rout) (hx : FitRout x) (w : World) :
    Calls Tryz.prog 39 #[.agg #[.bool x.pre, .string (ofL x.path), .string (ofL x.method), .string (ofL x.field), .string (ofL x.value), .int .i64 x.action, .string (ofL x.cluster), .int .i64 x.status, .string (ofL x.text), .string (ofL x.rewrite), .int .i64 x.retries, .int .i64 x.timeout, .bool x.upgrade]] w fun e w' => e = .returned (.string (ofL (lineW ROUTE (routW x) ++ [10]))) ∧ Below w.heap.size w w' := by
  have H0 := Lib.hid (fun w => rflag_any x.pre w)
  have z0 : (ofL (32 :: flagL x.pre)).size ≤ 4000000 := by rw [ofL_size]; cases x.pre <;> decide
  have H1 := Lib.hid (fun w => rwordB_any (ofL x.path) (by rw [ofL_size]; exact hx.path) w)
  rw [toL_ofL] at H1
  have z1 : (ofL (32 :: word x.path)).size ≤ 4000000 := by rw [ofL_size, List.length_cons]; have := word_len x.path; have := hx.path; omega
  have H2 := Lib.hid (fun w => rwordB_any (ofL x.method) (by rw [ofL_size]; exact hx.method) w)
  rw [toL_ofL] at H2
  have z2 : (ofL (32 :: word x.method)).size ≤ 4000000 := by rw [ofL_size, List.length_cons]; have := word_len x.method; have := hx.method; omega
  have H3 := Lib.hid (fun w => rwordB_any (ofL x.field) (by rw [ofL_size]; exact hx.field) w)
  rw [toL_ofL] at H3
  have z3 : (ofL (32 :: word x.field)).size ≤ 4000000 := by rw [ofL_size, List.length_cons]; have := word_len x.field; have := hx.field; omega
  have H4 := Lib.hid (fun w => rwordB_any (ofL x.value) (by rw [ofL_size]; exact hx.value) w)
  rw [toL_ofL] at H4
  have z4 : (ofL (32 :: word x.value)).size ≤ 4000000 := by rw [ofL_size, List.length_cons]; have := word_len x.value; have := hx.value; omega
  have H5 := Lib.hid (fun w => rnumber_any x.action hx.action.1 hx.action.2 w)
  have z5 : (ofL (32 :: decZ x.action)).size ≤ 4000000 := by rw [ofL_size, List.length_cons]; have := decZ_len hx.action.1 hx.action.2; omega
  have H6 := Lib.hid (fun w => rwordB_any (ofL x.cluster) (by rw [ofL_size]; exact hx.cluster) w)
  rw [toL_ofL] at H6
  have z6 : (ofL (32 :: word x.cluster)).size ≤ 4000000 := by rw [ofL_size, List.length_cons]; have := word_len x.cluster; have := hx.cluster; omega
  have H7 := Lib.hid (fun w => rnumber_any x.status hx.status.1 hx.status.2 w)
  have z7 : (ofL (32 :: decZ x.status)).size ≤ 4000000 := by rw [ofL_size, List.length_cons]; have := decZ_len hx.status.1 hx.status.2; omega
  have H8 := Lib.hid (fun w => rwordB_any (ofL x.text) (by rw [ofL_size]; exact hx.text) w)
  rw [toL_ofL] at H8
  have z8 : (ofL (32 :: word x.text)).size ≤ 4000000 := by rw [ofL_size, List.length_cons]; have := word_len x.text; have := hx.text; omega
  have H9 := Lib.hid (fun w => rwordB_any (ofL x.rewrite) (by rw [ofL_size]; exact hx.rewrite) w)
  rw [toL_ofL] at H9
  have z9 : (ofL (32 :: word x.rewrite)).size ≤ 4000000 := by rw [ofL_size, List.length_cons]; have := word_len x.rewrite; have := hx.rewrite; omega
  have H10 := Lib.hid (fun w => rnumber_any x.retries hx.retries.1 hx.retries.2 w)
  have z10 : (ofL (32 :: decZ x.retries)).size ≤ 4000000 := by rw [ofL_size, List.length_cons]; have := decZ_len hx.retries.1 hx.retries.2; omega
  have H11 := Lib.hid (fun w => rnumber_any x.timeout hx.timeout.1 hx.timeout.2 w)
  have z11 : (ofL (32 :: decZ x.timeout)).size ≤ 4000000 := by rw [ofL_size, List.length_cons]; have := decZ_len hx.timeout.1 hx.timeout.2; omega
  have H12 := Lib.hid (fun w => rflag_any x.upgrade w)
  have z12 : (ofL (32 :: flagL x.upgrade)).size ≤ 4000000 := by rw [ofL_size]; cases x.upgrade <;> decide
  have HV : Hid (ofL (lineW ROUTE (routW x) ++ [10]) = (⟨#[114, 111, 117, 116, 101]⟩ : ByteArray) ++ ofL (32 :: flagL x.pre) ++ ofL (32 :: word x.path) ++ ofL (32 :: word x.method) ++ ofL (32 :: word x.field) ++ ofL (32 :: word x.value) ++ ofL (32 :: decZ x.action) ++ ofL (32 :: word x.cluster) ++ ofL (32 :: decZ x.status) ++ ofL (32 :: word x.text) ++ ofL (32 :: word x.rewrite) ++ ofL (32 :: decZ x.retries) ++ ofL (32 :: decZ x.timeout) ++ ofL (32 :: flagL x.upgrade) ++ (⟨#[10]⟩ : ByteArray)) := Lib.hid (by
    rw [show (⟨#[114, 111, 117, 116, 101]⟩ : ByteArray) = ofL [114, 111, 117, 116, 101] from rfl, show (⟨#[10]⟩ : ByteArray) = ofL [10] from rfl]
    simp only [str_app]
    congr 1
    simp [lineW, routW, ROUTE])
  obtain ⟨A0, hA0⟩ : ∃ A0, A0 = ofL (32 :: flagL x.pre) := ⟨_, rfl⟩
  rw [← hA0] at H0 z0 HV
  obtain ⟨A1, hA1⟩ : ∃ A1, A1 = ofL (32 :: word x.path) := ⟨_, rfl⟩
  rw [← hA1] at H1 z1 HV
  obtain ⟨A2, hA2⟩ : ∃ A2, A2 = ofL (32 :: word x.method) := ⟨_, rfl⟩
  rw [← hA2] at H2 z2 HV
  obtain ⟨A3, hA3⟩ : ∃ A3, A3 = ofL (32 :: word x.field) := ⟨_, rfl⟩
  rw [← hA3] at H3 z3 HV
  obtain ⟨A4, hA4⟩ : ∃ A4, A4 = ofL (32 :: word x.value) := ⟨_, rfl⟩
  rw [← hA4] at H4 z4 HV
  obtain ⟨A5, hA5⟩ : ∃ A5, A5 = ofL (32 :: decZ x.action) := ⟨_, rfl⟩
  rw [← hA5] at H5 z5 HV
  obtain ⟨A6, hA6⟩ : ∃ A6, A6 = ofL (32 :: word x.cluster) := ⟨_, rfl⟩
  rw [← hA6] at H6 z6 HV
  obtain ⟨A7, hA7⟩ : ∃ A7, A7 = ofL (32 :: decZ x.status) := ⟨_, rfl⟩
  rw [← hA7] at H7 z7 HV
  obtain ⟨A8, hA8⟩ : ∃ A8, A8 = ofL (32 :: word x.text) := ⟨_, rfl⟩
  rw [← hA8] at H8 z8 HV
  obtain ⟨A9, hA9⟩ : ∃ A9, A9 = ofL (32 :: word x.rewrite) := ⟨_, rfl⟩
  rw [← hA9] at H9 z9 HV
  obtain ⟨A10, hA10⟩ : ∃ A10, A10 = ofL (32 :: decZ x.retries) := ⟨_, rfl⟩
  rw [← hA10] at H10 z10 HV
  obtain ⟨A11, hA11⟩ : ∃ A11, A11 = ofL (32 :: decZ x.timeout) := ⟨_, rfl⟩
  rw [← hA11] at H11 z11 HV
  obtain ⟨A12, hA12⟩ : ∃ A12, A12 = ofL (32 :: flagL x.upgrade) := ⟨_, rfl⟩
  rw [← hA12] at H12 z12 HV
  clear hA0 hA1 hA2 hA3 hA4 hA5 hA6 hA7 hA8 hA9 hA10 hA11 hA12 hx
  have s0 : ¬ (9223372036854775807 < 5 + A0.size) := by omega
  have s1 : ¬ (9223372036854775807 < 5 + A0.size + A1.size) := by omega
  have s2 : ¬ (9223372036854775807 < 5 + A0.size + A1.size + A2.size) := by omega
  have s3 : ¬ (9223372036854775807 < 5 + A0.size + A1.size + A2.size + A3.size) := by omega
  have s4 : ¬ (9223372036854775807 < 5 + A0.size + A1.size + A2.size + A3.size + A4.size) := by omega
  have s5 : ¬ (9223372036854775807 < 5 + A0.size + A1.size + A2.size + A3.size + A4.size + A5.size) := by omega
  have s6 : ¬ (9223372036854775807 < 5 + A0.size + A1.size + A2.size + A3.size + A4.size + A5.size + A6.size) := by omega
  have s7 : ¬ (9223372036854775807 < 5 + A0.size + A1.size + A2.size + A3.size + A4.size + A5.size + A6.size + A7.size) := by omega
  have s8 : ¬ (9223372036854775807 < 5 + A0.size + A1.size + A2.size + A3.size + A4.size + A5.size + A6.size + A7.size + A8.size) := by omega
  have s9 : ¬ (9223372036854775807 < 5 + A0.size + A1.size + A2.size + A3.size + A4.size + A5.size + A6.size + A7.size + A8.size + A9.size) := by omega
  have s10 : ¬ (9223372036854775807 < 5 + A0.size + A1.size + A2.size + A3.size + A4.size + A5.size + A6.size + A7.size + A8.size + A9.size + A10.size) := by omega
  have s11 : ¬ (9223372036854775807 < 5 + A0.size + A1.size + A2.size + A3.size + A4.size + A5.size + A6.size + A7.size + A8.size + A9.size + A10.size + A11.size) := by omega
  have s12 : ¬ (9223372036854775807 < 5 + A0.size + A1.size + A2.size + A3.size + A4.size + A5.size + A6.size + A7.size + A8.size + A9.size + A10.size + A11.size + A12.size) := by omega
  have s13 : ¬ (9223372036854775807 < 5 + A0.size + A1.size + A2.size + A3.size + A4.size + A5.size + A6.size + A7.size + A8.size + A9.size + A10.size + A11.size + A12.size + 1) := by omega
  have HB := Lib.hid (Bx.start w RT #[.bool x.pre, .string (ofL x.path), .string (ofL x.method), .string (ofL x.field), .string (ofL x.value), .int .i64 x.action, .string (ofL x.cluster), .int .i64 x.status, .string (ofL x.text), .string (ofL x.rewrite), .int .i64 x.retries, .int .i64 x.timeout, .bool x.upgrade])
  obtain ⟨g, hg⟩ : ∃ g, g = w.heap.size := ⟨_, rfl⟩
  rw [← hg] at HB ⊢
  have HG := Lib.hid hg
  clear hg z0 z1 z2 z3 z4 z5 z6 z7 z8 z9 z10 z11 z12
  unfold RT at HB
  go_enter Tryz.func39, Tryz.ntmps39
  go_wp2_with fail
  rw [← HG.out]
  generalize w.alloc (.cells #[.bool x.pre, .string (ofL x.path), .string (ofL x.method), .string (ofL x.field), .string (ofL x.value), .int .i64 x.action, .string (ofL x.cluster), .int .i64 x.status, .string (ofL x.text), .string (ofL x.rewrite), .int .i64 x.retries, .int .i64 x.timeout, .bool x.upgrade] 45) = W1 at HB ⊢
  have P0 := HB.out.drew
  have s_0 := rcells P0
  go_region_held3 (fun w' => w'.cell? ⟨g, 0, none⟩ = some (.bool x.pre) ∧ w'.cell? ⟨g, 1, none⟩ = some (.string (ofL x.path)) ∧ w'.cell? ⟨g, 2, none⟩ = some (.string (ofL x.method)) ∧ w'.cell? ⟨g, 3, none⟩ = some (.string (ofL x.field)) ∧ w'.cell? ⟨g, 4, none⟩ = some (.string (ofL x.value)) ∧ w'.cell? ⟨g, 5, none⟩ = some (.int .i64 x.action) ∧ w'.cell? ⟨g, 6, none⟩ = some (.string (ofL x.cluster)) ∧ w'.cell? ⟨g, 7, none⟩ = some (.int .i64 x.status) ∧ w'.cell? ⟨g, 8, none⟩ = some (.string (ofL x.text)) ∧ w'.cell? ⟨g, 9, none⟩ = some (.string (ofL x.rewrite)) ∧ w'.cell? ⟨g, 10, none⟩ = some (.int .i64 x.retries) ∧ w'.cell? ⟨g, 11, none⟩ = some (.int .i64 x.timeout) ∧ w'.cell? ⟨g, 12, none⟩ = some (.bool x.upgrade)) (first | exact s_4b | exact s_3b | exact s_2b | exact s_1b | exact s_0)
    (first
      | (go_at_call 75; refine (H0.out _).mono ?_; rintro e v0 ⟨rfl, rfl⟩
         clear H0)
      | (go_at_call 38; refine (H1.out _).mono ?_; rintro e v1 ⟨rfl, hb1⟩
         have P1b := P0.call hb1
         have s_1b := rcells P1b
         clear H1)
      | (go_at_call 38; refine (H2.out _).mono ?_; rintro e v2 ⟨rfl, hb2⟩
         have P2b := P1b.call hb2
         have s_2b := rcells P2b
         clear H2)
      | (go_at_call 38; refine (H3.out _).mono ?_; rintro e v3 ⟨rfl, hb3⟩
         have P3b := P2b.call hb3
         have s_3b := rcells P3b
         clear H3)
      | (go_at_call 38; refine (H4.out _).mono ?_; rintro e v4 ⟨rfl, hb4⟩
         have P4b := P3b.call hb4
         have s_4b := rcells P4b
         clear H4))
  have K1 := Lib.hid P4b
  clear P0 s_0 P1b s_1b hb1 P2b s_2b hb2 P3b s_3b hb3 P4b s_4b hb4 s0 s1 s2 s3 s4
  go_wp2_with fail
  have P5 := K1.out.drew
  have s_5 := rcells P5
  go_region_held3 (fun w' => w'.cell? ⟨g, 0, none⟩ = some (.bool x.pre) ∧ w'.cell? ⟨g, 1, none⟩ = some (.string (ofL x.path)) ∧ w'.cell? ⟨g, 2, none⟩ = some (.string (ofL x.method)) ∧ w'.cell? ⟨g, 3, none⟩ = some (.string (ofL x.field)) ∧ w'.cell? ⟨g, 4, none⟩ = some (.string (ofL x.value)) ∧ w'.cell? ⟨g, 5, none⟩ = some (.int .i64 x.action) ∧ w'.cell? ⟨g, 6, none⟩ = some (.string (ofL x.cluster)) ∧ w'.cell? ⟨g, 7, none⟩ = some (.int .i64 x.status) ∧ w'.cell? ⟨g, 8, none⟩ = some (.string (ofL x.text)) ∧ w'.cell? ⟨g, 9, none⟩ = some (.string (ofL x.rewrite)) ∧ w'.cell? ⟨g, 10, none⟩ = some (.int .i64 x.retries) ∧ w'.cell? ⟨g, 11, none⟩ = some (.int .i64 x.timeout) ∧ w'.cell? ⟨g, 12, none⟩ = some (.bool x.upgrade)) (first | exact s_9b | exact s_8b | exact s_7b | exact s_6b | exact s_5b | exact s_5)
    (first
      | (go_at_call 37; refine (H5.out _).mono ?_; rintro e v5 ⟨rfl, hb5⟩
         have P5b := P5.call hb5
         have s_5b := rcells P5b
         clear H5)
      | (go_at_call 38; refine (H6.out _).mono ?_; rintro e v6 ⟨rfl, hb6⟩
         have P6b := P5b.call hb6
         have s_6b := rcells P6b
         clear H6)
      | (go_at_call 37; refine (H7.out _).mono ?_; rintro e v7 ⟨rfl, hb7⟩
         have P7b := P6b.call hb7
         have s_7b := rcells P7b
         clear H7)
      | (go_at_call 38; refine (H8.out _).mono ?_; rintro e v8 ⟨rfl, hb8⟩
         have P8b := P7b.call hb8
         have s_8b := rcells P8b
         clear H8)
      | (go_at_call 38; refine (H9.out _).mono ?_; rintro e v9 ⟨rfl, hb9⟩
         have P9b := P8b.call hb9
         have s_9b := rcells P9b
         clear H9))
  have K2 := Lib.hid P9b
  clear P5 s_5 P5b s_5b hb5 P6b s_6b hb6 P7b s_7b hb7 P8b s_8b hb8 P9b s_9b hb9 s5 s6 s7 s8 s9
  go_wp2_with fail
  have P10 := K2.out.drew
  have s_10 := rcells P10
  go_region_held3 (fun w' => w'.cell? ⟨g, 0, none⟩ = some (.bool x.pre) ∧ w'.cell? ⟨g, 1, none⟩ = some (.string (ofL x.path)) ∧ w'.cell? ⟨g, 2, none⟩ = some (.string (ofL x.method)) ∧ w'.cell? ⟨g, 3, none⟩ = some (.string (ofL x.field)) ∧ w'.cell? ⟨g, 4, none⟩ = some (.string (ofL x.value)) ∧ w'.cell? ⟨g, 5, none⟩ = some (.int .i64 x.action) ∧ w'.cell? ⟨g, 6, none⟩ = some (.string (ofL x.cluster)) ∧ w'.cell? ⟨g, 7, none⟩ = some (.int .i64 x.status) ∧ w'.cell? ⟨g, 8, none⟩ = some (.string (ofL x.text)) ∧ w'.cell? ⟨g, 9, none⟩ = some (.string (ofL x.rewrite)) ∧ w'.cell? ⟨g, 10, none⟩ = some (.int .i64 x.retries) ∧ w'.cell? ⟨g, 11, none⟩ = some (.int .i64 x.timeout) ∧ w'.cell? ⟨g, 12, none⟩ = some (.bool x.upgrade)) (first | exact s_11b | exact s_10b | exact s_10)
    (first
      | (go_at_call 37; refine (H10.out _).mono ?_; rintro e v10 ⟨rfl, hb10⟩
         have P10b := P10.call hb10
         have s_10b := rcells P10b
         clear H10)
      | (go_at_call 37; refine (H11.out _).mono ?_; rintro e v11 ⟨rfl, hb11⟩
         have P11b := P10b.call hb11
         have s_11b := rcells P11b
         clear H11)
      | (go_at_call 75; refine (H12.out _).mono ?_; rintro e v12 ⟨rfl, rfl⟩
         clear H12))
  have K3 := Lib.hid P11b
  clear P10 s_10 P10b s_10b hb10 P11b s_11b hb11 s10 s11 s12 s13
  go_wp2_with fail
  go_ret
  exact ⟨by rw [HV.out] <;> rfl, HG.out ▸ K3.out.below⟩
end Go.Proofs.YtfihehobkbfmiaaGreatDoor.R14Line
