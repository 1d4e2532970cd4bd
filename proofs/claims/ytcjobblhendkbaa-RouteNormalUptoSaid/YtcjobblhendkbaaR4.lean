/- Texts of this seat, one behind another: R14RouB, R14Route, R14Bnd. -/
import Derived.Handy
import Derived.Test.YtcjobblhendkbaaR2
import Derived.Test.YtcjobblhendkbaaR3
import Derived.Test.YtcjobblhendkbaaR1
import Derived.Test.YtcjobblhendkbaaA1
/- Layer 14, the document's own Route: another path. -/
namespace Go.Proofs.Ytcjobblhendkbaa.R14RouB
open Go.ChangeShapes Go.WideShapes Go.ChangeAt Go.RowKit Bytes LexPure ConfPure ConfMem Ret Mem Texts R14In R14Name R14Host R14Clus R14Rout
set_option maxRecDepth 100000
set_option linter.unusedVariables false
set_option linter.unusedSimpArgs false
set_option maxHeartbeats 6400000 in
theorem rrouteB (x : Rout) (hx : FitRout x) (G : List Clus) (v : Value) (hG : G.length ≤ 1048576) (hw : normalB x.path = false) (w : World) (hC : Cluss w v G) :
    Calls Try.prog 35 #[.agg #[.bool x.pre, .string (ofL x.path), .string (ofL x.method), .string (ofL x.field), .string (ofL x.value), .int .i64 x.action, .string (ofL x.cluster), .int .i64 x.status, .string (ofL x.text), .string (ofL x.rewrite), .int .i64 x.retries, .int .i64 x.timeout, .bool x.upgrade], v] w fun e w' => e = .returned (.bool (routB x G)) ∧ Below w.heap.size w w' := by
  have hC0 := hC
  obtain ⟨p, cap, rfl, _, _⟩ := hC0.parts
  have HB := Lib.hid (Rb.start (cs := #[.bool x.pre, .string (ofL x.path), .string (ofL x.method), .string (ofL x.field), .string (ofL x.value), .int .i64 x.action, .string (ofL x.cluster), .int .i64 x.status, .string (ofL x.text), .string (ofL x.rewrite), .int .i64 x.retries, .int .i64 x.timeout, .bool x.upgrade]) hC)
  have H0 := Lib.hid (fun w => rnorm_any (ofL x.path) (by rw [ofL_size]; exact hx.path) w)
  have H4 := Lib.hid (fun w => rtok_any (ofL x.method) (by rw [ofL_size]; exact hx.method) 16 (by decide) w)
  have H5 := Lib.hid (fun w => rtext_any (ofL x.value) (by rw [ofL_size]; exact hx.value) w)
  have H8 := Lib.hid (fun w => rtok_any (ofL x.field) (by rw [ofL_size]; exact hx.field) 32 (by decide) w)
  have HF := Lib.hid (fun w hC => rforward_any x hx G (.slice p G.length cap) hG w hC)
  have H15 := Lib.hid (fun w => rtext_any (ofL x.text) (by rw [ofL_size]; exact hx.text) w)
  have H22 := Lib.hid (fun w => rin_any x.status 200 599 w)
  rw [toL_ofL] at H0 H4 H5 H8 H15
  obtain ⟨r0, hr0⟩ : ∃ r0, r0 = normalB x.path := ⟨_, rfl⟩
  obtain ⟨r1, hr1⟩ : ∃ r1, r1 = (x.path == []) := ⟨_, rfl⟩
  have yr1a : ((ofL x.path).toList == []) = r1 := by rw [hr1, ByteArray.toList_eq]; show (toL (ofL x.path) == []) = _; rw [toL_ofL]
  have yr1b : ((ofL x.path).toList != []) = !r1 := by rw [← yr1a]; rfl
  have yr1c : (ofL x.path).toList.isEmpty = r1 := by rw [← yr1a]; cases (ofL x.path).toList <;> rfl
  obtain ⟨r2, hr2⟩ : ∃ r2, r2 = (x.method == CONNECT) := ⟨_, rfl⟩
  have yr2a : ((ofL x.method).toList == [67, 79, 78, 78, 69, 67, 84]) = r2 := by rw [hr2, ByteArray.toList_eq]; show (toL (ofL x.method) == [67, 79, 78, 78, 69, 67, 84]) = _; rw [toL_ofL]; rfl
  have yr2b : ((ofL x.method).toList != [67, 79, 78, 78, 69, 67, 84]) = !r2 := by rw [← yr2a]; rfl
  obtain ⟨r3, hr3⟩ : ∃ r3, r3 = (x.method == []) := ⟨_, rfl⟩
  have yr3a : ((ofL x.method).toList == []) = r3 := by rw [hr3, ByteArray.toList_eq]; show (toL (ofL x.method) == []) = _; rw [toL_ofL]
  have yr3b : ((ofL x.method).toList != []) = !r3 := by rw [← yr3a]; rfl
  have yr3c : (ofL x.method).toList.isEmpty = r3 := by rw [← yr3a]; cases (ofL x.method).toList <;> rfl
  obtain ⟨r4, hr4⟩ : ∃ r4, r4 = tokenB x.method 16 := ⟨_, rfl⟩
  obtain ⟨r5, hr5⟩ : ∃ r5, r5 = textB x.value := ⟨_, rfl⟩
  obtain ⟨r6, hr6⟩ : ∃ r6, r6 = (x.field == []) := ⟨_, rfl⟩
  have yr6a : ((ofL x.field).toList == []) = r6 := by rw [hr6, ByteArray.toList_eq]; show (toL (ofL x.field) == []) = _; rw [toL_ofL]
  have yr6b : ((ofL x.field).toList != []) = !r6 := by rw [← yr6a]; rfl
  have yr6c : (ofL x.field).toList.isEmpty = r6 := by rw [← yr6a]; cases (ofL x.field).toList <;> rfl
  obtain ⟨r7, hr7⟩ : ∃ r7, r7 = (x.value == []) := ⟨_, rfl⟩
  have yr7a : ((ofL x.value).toList == []) = r7 := by rw [hr7, ByteArray.toList_eq]; show (toL (ofL x.value) == []) = _; rw [toL_ofL]
  have yr7b : ((ofL x.value).toList != []) = !r7 := by rw [← yr7a]; rfl
  have yr7c : (ofL x.value).toList.isEmpty = r7 := by rw [← yr7a]; cases (ofL x.value).toList <;> rfl
  obtain ⟨r8, hr8⟩ : ∃ r8, r8 = tokenB x.field 32 := ⟨_, rfl⟩
  obtain ⟨a1, ha1⟩ : ∃ a1, a1 = (x.action == 1) := ⟨_, rfl⟩
  have ya1b : (x.action != 1) = !a1 := by rw [ha1]; rfl
  have ya1a : (x.action == 1) = a1 := ha1.symm
  obtain ⟨fw, hfw⟩ : ∃ fw, fw = forwB x G := ⟨_, rfl⟩
  obtain ⟨r11, hr11⟩ : ∃ r11, r11 = (x.cluster == []) := ⟨_, rfl⟩
  have yr11a : ((ofL x.cluster).toList == []) = r11 := by rw [hr11, ByteArray.toList_eq]; show (toL (ofL x.cluster) == []) = _; rw [toL_ofL]
  have yr11b : ((ofL x.cluster).toList != []) = !r11 := by rw [← yr11a]; rfl
  have yr11c : (ofL x.cluster).toList.isEmpty = r11 := by rw [← yr11a]; cases (ofL x.cluster).toList <;> rfl
  obtain ⟨r12, hr12⟩ : ∃ r12, r12 = (x.rewrite == []) := ⟨_, rfl⟩
  have yr12a : ((ofL x.rewrite).toList == []) = r12 := by rw [hr12, ByteArray.toList_eq]; show (toL (ofL x.rewrite) == []) = _; rw [toL_ofL]
  have yr12b : ((ofL x.rewrite).toList != []) = !r12 := by rw [← yr12a]; rfl
  have yr12c : (ofL x.rewrite).toList.isEmpty = r12 := by rw [← yr12a]; cases (ofL x.rewrite).toList <;> rfl
  obtain ⟨r13, hr13⟩ : ∃ r13, r13 = (x.retries == 0) := ⟨_, rfl⟩
  have yr13b : (x.retries != 0) = !r13 := by rw [hr13]; rfl
  have yr13a : (x.retries == 0) = r13 := hr13.symm
  obtain ⟨r14, hr14⟩ : ∃ r14, r14 = (x.timeout == 0) := ⟨_, rfl⟩
  have yr14b : (x.timeout != 0) = !r14 := by rw [hr14]; rfl
  have yr14a : (x.timeout == 0) = r14 := hr14.symm
  obtain ⟨r15, hr15⟩ : ∃ r15, r15 = textB x.text := ⟨_, rfl⟩
  obtain ⟨a2, ha2⟩ : ∃ a2, a2 = (x.action == 2) := ⟨_, rfl⟩
  have ya2b : (x.action != 2) = !a2 := by rw [ha2]; rfl
  have ya2a : (x.action == 2) = a2 := ha2.symm
  obtain ⟨r16, hr16⟩ : ∃ r16, r16 = (x.text == []) := ⟨_, rfl⟩
  have yr16a : ((ofL x.text).toList == []) = r16 := by rw [hr16, ByteArray.toList_eq]; show (toL (ofL x.text) == []) = _; rw [toL_ofL]
  have yr16b : ((ofL x.text).toList != []) = !r16 := by rw [← yr16a]; rfl
  have yr16c : (ofL x.text).toList.isEmpty = r16 := by rw [← yr16a]; cases (ofL x.text).toList <;> rfl
  obtain ⟨r17, hr17⟩ : ∃ r17, r17 = (x.status == 301) := ⟨_, rfl⟩
  have yr17b : (x.status != 301) = !r17 := by rw [hr17]; rfl
  have yr17a : (x.status == 301) = r17 := hr17.symm
  obtain ⟨r18, hr18⟩ : ∃ r18, r18 = (x.status == 302) := ⟨_, rfl⟩
  have yr18b : (x.status != 302) = !r18 := by rw [hr18]; rfl
  have yr18a : (x.status == 302) = r18 := hr18.symm
  obtain ⟨r19, hr19⟩ : ∃ r19, r19 = (x.status == 307) := ⟨_, rfl⟩
  have yr19b : (x.status != 307) = !r19 := by rw [hr19]; rfl
  have yr19a : (x.status == 307) = r19 := hr19.symm
  obtain ⟨r20, hr20⟩ : ∃ r20, r20 = (x.status == 308) := ⟨_, rfl⟩
  have yr20b : (x.status != 308) = !r20 := by rw [hr20]; rfl
  have yr20a : (x.status == 308) = r20 := hr20.symm
  obtain ⟨r21, hr21⟩ : ∃ r21, r21 = decide (x.status < 300) := ⟨_, rfl⟩
  have yr21 : decide (x.status < 300) = r21 := hr21.symm
  obtain ⟨a3, ha3⟩ : ∃ a3, a3 = (x.action == 3) := ⟨_, rfl⟩
  have ya3b : (x.action != 3) = !a3 := by rw [ha3]; rfl
  have ya3a : (x.action == 3) = a3 := ha3.symm
  obtain ⟨r22, hr22⟩ : ∃ r22, r22 = inB x.status 200 599 := ⟨_, rfl⟩
  obtain ⟨r23, hr23⟩ : ∃ r23, r23 = (x.status == 204) := ⟨_, rfl⟩
  have yr23b : (x.status != 204) = !r23 := by rw [hr23]; rfl
  have yr23a : (x.status == 204) = r23 := hr23.symm
  obtain ⟨r24, hr24⟩ : ∃ r24, r24 = (x.status == 304) := ⟨_, rfl⟩
  have yr24b : (x.status != 304) = !r24 := by rw [hr24]; rfl
  have yr24a : (x.status == 304) = r24 := hr24.symm
  have HW : Hid (r0 = false) := Lib.hid (hr0.trans hw)
  rw [← hr0] at H0
  rw [← hr4] at H4
  rw [← hr5] at H5
  rw [← hr8] at H8
  rw [← hfw] at HF
  rw [← hr15] at H15
  rw [← hr22] at H22
  have HV : Hid (routB x G = ((r0 || (r1 && r2)) && (r3 || r4) && r5 && (!r6 || r7) && (r6 || r8) && cond a1 fw (r11 && r12 && r13 && r14 && !x.upgrade && r15 && cond a2 (!r16 && (r17 || r18 || r19 || r20)) (!(r2 && r21) && a3 && r22 && !r23 && !r24)))) := Lib.hid (by
    unfold routB
    rw [ite_int, ite_int, hr0, hr1, hr2, hr3, hr4, hr5, hr6, hr7, hr8, ha1, hfw, hr11, hr12, hr13, hr14, hr15, ha2, hr16, hr17, hr18, hr19, hr20, hr21, ha3, hr22, hr23, hr24]
    rfl)
  obtain ⟨up, hup⟩ : ∃ up, up = x.upgrade := ⟨_, rfl⟩
  rw [← hup] at HV HB HF ⊢
  clear hr0 hr1 hr2 hr3 hr4 hr5 hr6 hr7 hr8 ha1 hfw hr11 hr12 hr13 hr14 hr15 ha2 hr16 hr17 hr18 hr19 hr20 hr21 ha3 hr22 hr23 hr24 hC hC0 hx hup
  obtain ⟨g, hg⟩ : ∃ g, g = w.heap.size := ⟨_, rfl⟩
  rw [← hg] at HB ⊢
  have HGe := Lib.hid hg
  clear hg
  unfold RT at HB
  go_enter Try.func35, Try.ntmps35
  go_wp2_with fail
  rw [← HGe.out]
  generalize w.alloc (.cells #[.bool x.pre, .string (ofL x.path), .string (ofL x.method), .string (ofL x.field), .string (ofL x.value), .int .i64 x.action, .string (ofL x.cluster), .int .i64 x.status, .string (ofL x.text), .string (ofL x.rewrite), .int .i64 x.retries, .int .i64 x.timeout, .bool up] 39) = W1 at HB ⊢
  refine (H0.out _).mono ?_
  rintro e w2 ⟨rfl, hb2⟩
  have K2 := Lib.hid (HB.out.call hb2)
  clear HB hb2 H0
  have b0 : w2.cell? ⟨g, 0, none⟩ = some (.bool x.pre) := K2.out.box.cell 0
  have b1 : w2.cell? ⟨g, 1, none⟩ = some (.string (ofL x.path)) := K2.out.box.cell 1
  have b2 : w2.cell? ⟨g, 2, none⟩ = some (.string (ofL x.method)) := K2.out.box.cell 2
  have b3 : w2.cell? ⟨g, 3, none⟩ = some (.string (ofL x.field)) := K2.out.box.cell 3
  have b4 : w2.cell? ⟨g, 4, none⟩ = some (.string (ofL x.value)) := K2.out.box.cell 4
  have b5 : w2.cell? ⟨g, 5, none⟩ = some (.int .i64 x.action) := K2.out.box.cell 5
  have b6 : w2.cell? ⟨g, 6, none⟩ = some (.string (ofL x.cluster)) := K2.out.box.cell 6
  have b7 : w2.cell? ⟨g, 7, none⟩ = some (.int .i64 x.status) := K2.out.box.cell 7
  have b8 : w2.cell? ⟨g, 8, none⟩ = some (.string (ofL x.text)) := K2.out.box.cell 8
  have b9 : w2.cell? ⟨g, 9, none⟩ = some (.string (ofL x.rewrite)) := K2.out.box.cell 9
  have b10 : w2.cell? ⟨g, 10, none⟩ = some (.int .i64 x.retries) := K2.out.box.cell 10
  have b11 : w2.cell? ⟨g, 11, none⟩ = some (.int .i64 x.timeout) := K2.out.box.cell 11
  have b12 : w2.cell? ⟨g, 12, none⟩ = some (.bool up) := K2.out.box.cell 12
  have hr0w : r0 = false := HW.out
  subst hr0w
  cases r1 with
  | false =>
    go_wp2_with fail
    go_ret
    exact ⟨ret_bool (by rw [HV.out] <;> rfl), HGe.out ▸ K2.out.below⟩
  | true =>
    cases r2 with
    | false =>
      go_wp2_with fail
      go_ret
      exact ⟨ret_bool (by rw [HV.out] <;> rfl), HGe.out ▸ K2.out.below⟩
    | true =>
      cases r3 with
      | false =>
        go_wp2_with fail
        refine (H4.out _).mono ?_
        rintro e w3 ⟨rfl, rfl⟩
        cases r4 with
        | false =>
          go_wp2_with fail
          go_ret
          exact ⟨ret_bool (by rw [HV.out] <;> rfl), HGe.out ▸ K2.out.below⟩
        | true =>
          go_wp2_with fail
          refine (H5.out _).mono ?_
          rintro e w4 ⟨rfl, rfl⟩
          cases r5 with
          | false =>
            go_wp2_with fail
            go_ret
            exact ⟨ret_bool (by rw [HV.out] <;> rfl), HGe.out ▸ K2.out.below⟩
          | true =>
            cases r6 with
            | false =>
              go_wp2_with fail
              refine (H8.out _).mono ?_
              rintro e w5 ⟨rfl, rfl⟩
              cases r8 with
              | false =>
                go_wp2_with fail
                go_ret
                exact ⟨ret_bool (by rw [HV.out] <;> rfl), HGe.out ▸ K2.out.below⟩
              | true =>
                cases a1 with
                | false =>
                  cases r11 with
                  | false =>
                    go_wp2_with fail
                    go_ret
                    exact ⟨ret_bool (by rw [HV.out] <;> rfl), HGe.out ▸ K2.out.below⟩
                  | true =>
                    cases r12 with
                    | false =>
                      go_wp2_with fail
                      go_ret
                      exact ⟨ret_bool (by rw [HV.out] <;> rfl), HGe.out ▸ K2.out.below⟩
                    | true =>
                      cases r13 with
                      | false =>
                        go_wp2_with fail
                        go_ret
                        exact ⟨ret_bool (by rw [HV.out] <;> rfl), HGe.out ▸ K2.out.below⟩
                      | true =>
                        cases r14 with
                        | false =>
                          go_wp2_with fail
                          go_ret
                          exact ⟨ret_bool (by rw [HV.out] <;> rfl), HGe.out ▸ K2.out.below⟩
                        | true =>
                          cases up with
                          | false =>
                            go_wp2_with fail
                            refine (H15.out _).mono ?_
                            rintro e w8 ⟨rfl, rfl⟩
                            cases r15 with
                            | false =>
                              go_wp2_with fail
                              go_ret
                              exact ⟨ret_bool (by rw [HV.out] <;> rfl), HGe.out ▸ K2.out.below⟩
                            | true =>
                              cases a2 with
                              | false =>
                                cases r21 with
                                | false =>
                                  cases a3 with
                                  | false =>
                                    go_wp2_with fail
                                    go_ret
                                    exact ⟨ret_bool (by rw [HV.out] <;> rfl), HGe.out ▸ K2.out.below⟩
                                  | true =>
                                    go_wp2_with fail
                                    refine (H22.out _).mono ?_
                                    rintro e w9 ⟨rfl, rfl⟩
                                    cases r22 with
                                    | false =>
                                      go_wp2_with fail
                                      go_ret
                                      exact ⟨ret_bool (by rw [HV.out] <;> rfl), HGe.out ▸ K2.out.below⟩
                                    | true =>
                                      cases r23 with
                                      | false =>
                                        cases r24 with
                                        | false =>
                                          go_wp2_with fail
                                          go_ret
                                          exact ⟨ret_bool (by rw [HV.out] <;> rfl), HGe.out ▸ K2.out.below⟩
                                        | true =>
                                          go_wp2_with fail
                                          go_ret
                                          exact ⟨ret_bool (by rw [HV.out] <;> rfl), HGe.out ▸ K2.out.below⟩
                                      | true =>
                                        go_wp2_with fail
                                        go_ret
                                        exact ⟨ret_bool (by rw [HV.out] <;> rfl), HGe.out ▸ K2.out.below⟩
                                | true =>
                                  go_wp2_with fail
                                  go_ret
                                  exact ⟨ret_bool (by rw [HV.out] <;> rfl), HGe.out ▸ K2.out.below⟩
                              | true =>
                                cases r16 with
                                | false =>
                                  cases r17 with
                                  | false =>
                                    cases r18 with
                                    | false =>
                                      cases r19 with
                                      | false =>
                                        cases r20 with
                                        | false =>
                                          go_wp2_with fail
                                          go_ret
                                          exact ⟨ret_bool (by rw [HV.out] <;> rfl), HGe.out ▸ K2.out.below⟩
                                        | true =>
                                          go_wp2_with fail
                                          go_ret
                                          exact ⟨ret_bool (by rw [HV.out] <;> rfl), HGe.out ▸ K2.out.below⟩
                                      | true =>
                                        go_wp2_with fail
                                        go_ret
                                        exact ⟨ret_bool (by rw [HV.out] <;> rfl), HGe.out ▸ K2.out.below⟩
                                    | true =>
                                      go_wp2_with fail
                                      go_ret
                                      exact ⟨ret_bool (by rw [HV.out] <;> rfl), HGe.out ▸ K2.out.below⟩
                                  | true =>
                                    go_wp2_with fail
                                    go_ret
                                    exact ⟨ret_bool (by rw [HV.out] <;> rfl), HGe.out ▸ K2.out.below⟩
                                | true =>
                                  go_wp2_with fail
                                  go_ret
                                  exact ⟨ret_bool (by rw [HV.out] <;> rfl), HGe.out ▸ K2.out.below⟩
                          | true =>
                            go_wp2_with fail
                            go_ret
                            exact ⟨ret_bool (by rw [HV.out] <;> rfl), HGe.out ▸ K2.out.below⟩
                | true =>
                  go_wp2_with fail
                  refine (HF.out _ K2.out.cl).mono ?_
                  rintro e w8 ⟨rfl, hb8⟩
                  go_wp2_with fail
                  go_ret
                  exact ⟨ret_bool (by rw [HV.out] <;> rfl), HGe.out ▸ (K2.out.call hb8).below⟩
            | true =>
              cases r7 with
              | false =>
                go_wp2_with fail
                go_ret
                exact ⟨ret_bool (by rw [HV.out] <;> rfl), HGe.out ▸ K2.out.below⟩
              | true =>
                cases a1 with
                | false =>
                  cases r11 with
                  | false =>
                    go_wp2_with fail
                    go_ret
                    exact ⟨ret_bool (by rw [HV.out] <;> rfl), HGe.out ▸ K2.out.below⟩
                  | true =>
                    cases r12 with
                    | false =>
                      go_wp2_with fail
                      go_ret
                      exact ⟨ret_bool (by rw [HV.out] <;> rfl), HGe.out ▸ K2.out.below⟩
                    | true =>
                      cases r13 with
                      | false =>
                        go_wp2_with fail
                        go_ret
                        exact ⟨ret_bool (by rw [HV.out] <;> rfl), HGe.out ▸ K2.out.below⟩
                      | true =>
                        cases r14 with
                        | false =>
                          go_wp2_with fail
                          go_ret
                          exact ⟨ret_bool (by rw [HV.out] <;> rfl), HGe.out ▸ K2.out.below⟩
                        | true =>
                          cases up with
                          | false =>
                            go_wp2_with fail
                            refine (H15.out _).mono ?_
                            rintro e w8 ⟨rfl, rfl⟩
                            cases r15 with
                            | false =>
                              go_wp2_with fail
                              go_ret
                              exact ⟨ret_bool (by rw [HV.out] <;> rfl), HGe.out ▸ K2.out.below⟩
                            | true =>
                              cases a2 with
                              | false =>
                                cases r21 with
                                | false =>
                                  cases a3 with
                                  | false =>
                                    go_wp2_with fail
                                    go_ret
                                    exact ⟨ret_bool (by rw [HV.out] <;> rfl), HGe.out ▸ K2.out.below⟩
                                  | true =>
                                    go_wp2_with fail
                                    refine (H22.out _).mono ?_
                                    rintro e w9 ⟨rfl, rfl⟩
                                    cases r22 with
                                    | false =>
                                      go_wp2_with fail
                                      go_ret
                                      exact ⟨ret_bool (by rw [HV.out] <;> rfl), HGe.out ▸ K2.out.below⟩
                                    | true =>
                                      cases r23 with
                                      | false =>
                                        cases r24 with
                                        | false =>
                                          go_wp2_with fail
                                          go_ret
                                          exact ⟨ret_bool (by rw [HV.out] <;> rfl), HGe.out ▸ K2.out.below⟩
                                        | true =>
                                          go_wp2_with fail
                                          go_ret
                                          exact ⟨ret_bool (by rw [HV.out] <;> rfl), HGe.out ▸ K2.out.below⟩
                                      | true =>
                                        go_wp2_with fail
                                        go_ret
                                        exact ⟨ret_bool (by rw [HV.out] <;> rfl), HGe.out ▸ K2.out.below⟩
                                | true =>
                                  go_wp2_with fail
                                  go_ret
                                  exact ⟨ret_bool (by rw [HV.out] <;> rfl), HGe.out ▸ K2.out.below⟩
                              | true =>
                                cases r16 with
                                | false =>
                                  cases r17 with
                                  | false =>
                                    cases r18 with
                                    | false =>
                                      cases r19 with
                                      | false =>
                                        cases r20 with
                                        | false =>
                                          go_wp2_with fail
                                          go_ret
                                          exact ⟨ret_bool (by rw [HV.out] <;> rfl), HGe.out ▸ K2.out.below⟩
                                        | true =>
                                          go_wp2_with fail
                                          go_ret
                                          exact ⟨ret_bool (by rw [HV.out] <;> rfl), HGe.out ▸ K2.out.below⟩
                                      | true =>
                                        go_wp2_with fail
                                        go_ret
                                        exact ⟨ret_bool (by rw [HV.out] <;> rfl), HGe.out ▸ K2.out.below⟩
                                    | true =>
                                      go_wp2_with fail
                                      go_ret
                                      exact ⟨ret_bool (by rw [HV.out] <;> rfl), HGe.out ▸ K2.out.below⟩
                                  | true =>
                                    go_wp2_with fail
                                    go_ret
                                    exact ⟨ret_bool (by rw [HV.out] <;> rfl), HGe.out ▸ K2.out.below⟩
                                | true =>
                                  go_wp2_with fail
                                  go_ret
                                  exact ⟨ret_bool (by rw [HV.out] <;> rfl), HGe.out ▸ K2.out.below⟩
                          | true =>
                            go_wp2_with fail
                            go_ret
                            exact ⟨ret_bool (by rw [HV.out] <;> rfl), HGe.out ▸ K2.out.below⟩
                | true =>
                  go_wp2_with fail
                  refine (HF.out _ K2.out.cl).mono ?_
                  rintro e w8 ⟨rfl, hb8⟩
                  go_wp2_with fail
                  go_ret
                  exact ⟨ret_bool (by rw [HV.out] <;> rfl), HGe.out ▸ (K2.out.call hb8).below⟩
      | true =>
        go_wp2_with fail
        refine (H5.out _).mono ?_
        rintro e w4 ⟨rfl, rfl⟩
        cases r5 with
        | false =>
          go_wp2_with fail
          go_ret
          exact ⟨ret_bool (by rw [HV.out] <;> rfl), HGe.out ▸ K2.out.below⟩
        | true =>
          cases r6 with
          | false =>
            go_wp2_with fail
            refine (H8.out _).mono ?_
            rintro e w5 ⟨rfl, rfl⟩
            cases r8 with
            | false =>
              go_wp2_with fail
              go_ret
              exact ⟨ret_bool (by rw [HV.out] <;> rfl), HGe.out ▸ K2.out.below⟩
            | true =>
              cases a1 with
              | false =>
                cases r11 with
                | false =>
                  go_wp2_with fail
                  go_ret
                  exact ⟨ret_bool (by rw [HV.out] <;> rfl), HGe.out ▸ K2.out.below⟩
                | true =>
                  cases r12 with
                  | false =>
                    go_wp2_with fail
                    go_ret
                    exact ⟨ret_bool (by rw [HV.out] <;> rfl), HGe.out ▸ K2.out.below⟩
                  | true =>
                    cases r13 with
                    | false =>
                      go_wp2_with fail
                      go_ret
                      exact ⟨ret_bool (by rw [HV.out] <;> rfl), HGe.out ▸ K2.out.below⟩
                    | true =>
                      cases r14 with
                      | false =>
                        go_wp2_with fail
                        go_ret
                        exact ⟨ret_bool (by rw [HV.out] <;> rfl), HGe.out ▸ K2.out.below⟩
                      | true =>
                        cases up with
                        | false =>
                          go_wp2_with fail
                          refine (H15.out _).mono ?_
                          rintro e w8 ⟨rfl, rfl⟩
                          cases r15 with
                          | false =>
                            go_wp2_with fail
                            go_ret
                            exact ⟨ret_bool (by rw [HV.out] <;> rfl), HGe.out ▸ K2.out.below⟩
                          | true =>
                            cases a2 with
                            | false =>
                              cases r21 with
                              | false =>
                                cases a3 with
                                | false =>
                                  go_wp2_with fail
                                  go_ret
                                  exact ⟨ret_bool (by rw [HV.out] <;> rfl), HGe.out ▸ K2.out.below⟩
                                | true =>
                                  go_wp2_with fail
                                  refine (H22.out _).mono ?_
                                  rintro e w9 ⟨rfl, rfl⟩
                                  cases r22 with
                                  | false =>
                                    go_wp2_with fail
                                    go_ret
                                    exact ⟨ret_bool (by rw [HV.out] <;> rfl), HGe.out ▸ K2.out.below⟩
                                  | true =>
                                    cases r23 with
                                    | false =>
                                      cases r24 with
                                      | false =>
                                        go_wp2_with fail
                                        go_ret
                                        exact ⟨ret_bool (by rw [HV.out] <;> rfl), HGe.out ▸ K2.out.below⟩
                                      | true =>
                                        go_wp2_with fail
                                        go_ret
                                        exact ⟨ret_bool (by rw [HV.out] <;> rfl), HGe.out ▸ K2.out.below⟩
                                    | true =>
                                      go_wp2_with fail
                                      go_ret
                                      exact ⟨ret_bool (by rw [HV.out] <;> rfl), HGe.out ▸ K2.out.below⟩
                              | true =>
                                go_wp2_with fail
                                go_ret
                                exact ⟨ret_bool (by rw [HV.out] <;> rfl), HGe.out ▸ K2.out.below⟩
                            | true =>
                              cases r16 with
                              | false =>
                                cases r17 with
                                | false =>
                                  cases r18 with
                                  | false =>
                                    cases r19 with
                                    | false =>
                                      cases r20 with
                                      | false =>
                                        go_wp2_with fail
                                        go_ret
                                        exact ⟨ret_bool (by rw [HV.out] <;> rfl), HGe.out ▸ K2.out.below⟩
                                      | true =>
                                        go_wp2_with fail
                                        go_ret
                                        exact ⟨ret_bool (by rw [HV.out] <;> rfl), HGe.out ▸ K2.out.below⟩
                                    | true =>
                                      go_wp2_with fail
                                      go_ret
                                      exact ⟨ret_bool (by rw [HV.out] <;> rfl), HGe.out ▸ K2.out.below⟩
                                  | true =>
                                    go_wp2_with fail
                                    go_ret
                                    exact ⟨ret_bool (by rw [HV.out] <;> rfl), HGe.out ▸ K2.out.below⟩
                                | true =>
                                  go_wp2_with fail
                                  go_ret
                                  exact ⟨ret_bool (by rw [HV.out] <;> rfl), HGe.out ▸ K2.out.below⟩
                              | true =>
                                go_wp2_with fail
                                go_ret
                                exact ⟨ret_bool (by rw [HV.out] <;> rfl), HGe.out ▸ K2.out.below⟩
                        | true =>
                          go_wp2_with fail
                          go_ret
                          exact ⟨ret_bool (by rw [HV.out] <;> rfl), HGe.out ▸ K2.out.below⟩
              | true =>
                go_wp2_with fail
                refine (HF.out _ K2.out.cl).mono ?_
                rintro e w8 ⟨rfl, hb8⟩
                go_wp2_with fail
                go_ret
                exact ⟨ret_bool (by rw [HV.out] <;> rfl), HGe.out ▸ (K2.out.call hb8).below⟩
          | true =>
            cases r7 with
            | false =>
              go_wp2_with fail
              go_ret
              exact ⟨ret_bool (by rw [HV.out] <;> rfl), HGe.out ▸ K2.out.below⟩
            | true =>
              cases a1 with
              | false =>
                cases r11 with
                | false =>
                  go_wp2_with fail
                  go_ret
                  exact ⟨ret_bool (by rw [HV.out] <;> rfl), HGe.out ▸ K2.out.below⟩
                | true =>
                  cases r12 with
                  | false =>
                    go_wp2_with fail
                    go_ret
                    exact ⟨ret_bool (by rw [HV.out] <;> rfl), HGe.out ▸ K2.out.below⟩
                  | true =>
                    cases r13 with
                    | false =>
                      go_wp2_with fail
                      go_ret
                      exact ⟨ret_bool (by rw [HV.out] <;> rfl), HGe.out ▸ K2.out.below⟩
                    | true =>
                      cases r14 with
                      | false =>
                        go_wp2_with fail
                        go_ret
                        exact ⟨ret_bool (by rw [HV.out] <;> rfl), HGe.out ▸ K2.out.below⟩
                      | true =>
                        cases up with
                        | false =>
                          go_wp2_with fail
                          refine (H15.out _).mono ?_
                          rintro e w8 ⟨rfl, rfl⟩
                          cases r15 with
                          | false =>
                            go_wp2_with fail
                            go_ret
                            exact ⟨ret_bool (by rw [HV.out] <;> rfl), HGe.out ▸ K2.out.below⟩
                          | true =>
                            cases a2 with
                            | false =>
                              cases r21 with
                              | false =>
                                cases a3 with
                                | false =>
                                  go_wp2_with fail
                                  go_ret
                                  exact ⟨ret_bool (by rw [HV.out] <;> rfl), HGe.out ▸ K2.out.below⟩
                                | true =>
                                  go_wp2_with fail
                                  refine (H22.out _).mono ?_
                                  rintro e w9 ⟨rfl, rfl⟩
                                  cases r22 with
                                  | false =>
                                    go_wp2_with fail
                                    go_ret
                                    exact ⟨ret_bool (by rw [HV.out] <;> rfl), HGe.out ▸ K2.out.below⟩
                                  | true =>
                                    cases r23 with
                                    | false =>
                                      cases r24 with
                                      | false =>
                                        go_wp2_with fail
                                        go_ret
                                        exact ⟨ret_bool (by rw [HV.out] <;> rfl), HGe.out ▸ K2.out.below⟩
                                      | true =>
                                        go_wp2_with fail
                                        go_ret
                                        exact ⟨ret_bool (by rw [HV.out] <;> rfl), HGe.out ▸ K2.out.below⟩
                                    | true =>
                                      go_wp2_with fail
                                      go_ret
                                      exact ⟨ret_bool (by rw [HV.out] <;> rfl), HGe.out ▸ K2.out.below⟩
                              | true =>
                                go_wp2_with fail
                                go_ret
                                exact ⟨ret_bool (by rw [HV.out] <;> rfl), HGe.out ▸ K2.out.below⟩
                            | true =>
                              cases r16 with
                              | false =>
                                cases r17 with
                                | false =>
                                  cases r18 with
                                  | false =>
                                    cases r19 with
                                    | false =>
                                      cases r20 with
                                      | false =>
                                        go_wp2_with fail
                                        go_ret
                                        exact ⟨ret_bool (by rw [HV.out] <;> rfl), HGe.out ▸ K2.out.below⟩
                                      | true =>
                                        go_wp2_with fail
                                        go_ret
                                        exact ⟨ret_bool (by rw [HV.out] <;> rfl), HGe.out ▸ K2.out.below⟩
                                    | true =>
                                      go_wp2_with fail
                                      go_ret
                                      exact ⟨ret_bool (by rw [HV.out] <;> rfl), HGe.out ▸ K2.out.below⟩
                                  | true =>
                                    go_wp2_with fail
                                    go_ret
                                    exact ⟨ret_bool (by rw [HV.out] <;> rfl), HGe.out ▸ K2.out.below⟩
                                | true =>
                                  go_wp2_with fail
                                  go_ret
                                  exact ⟨ret_bool (by rw [HV.out] <;> rfl), HGe.out ▸ K2.out.below⟩
                              | true =>
                                go_wp2_with fail
                                go_ret
                                exact ⟨ret_bool (by rw [HV.out] <;> rfl), HGe.out ▸ K2.out.below⟩
                        | true =>
                          go_wp2_with fail
                          go_ret
                          exact ⟨ret_bool (by rw [HV.out] <;> rfl), HGe.out ▸ K2.out.below⟩
              | true =>
                go_wp2_with fail
                refine (HF.out _ K2.out.cl).mono ?_
                rintro e w8 ⟨rfl, hb8⟩
                go_wp2_with fail
                go_ret
                exact ⟨ret_bool (by rw [HV.out] <;> rfl), HGe.out ▸ (K2.out.call hb8).below⟩
end Go.Proofs.Ytcjobblhendkbaa.R14RouB

/- Layer 14, the document's own Route. -/
namespace Go.Proofs.Ytcjobblhendkbaa.R14Route
open Go.ChangeShapes Go.WideShapes Go.ChangeAt Go.RowKit Bytes LexPure ConfPure ConfMem Ret Mem Texts R14In R14Name R14Host R14Clus R14Rout
set_option maxRecDepth 100000
set_option linter.unusedVariables false
set_option linter.unusedSimpArgs false
theorem rroute_any (x : Rout) (hx : FitRout x) (G : List Clus) (v : Value) (hG : G.length ≤ 1048576) (w : World) (hC : Cluss w v G) :
    Calls Try.prog 35 #[.agg #[.bool x.pre, .string (ofL x.path), .string (ofL x.method), .string (ofL x.field), .string (ofL x.value), .int .i64 x.action, .string (ofL x.cluster), .int .i64 x.status, .string (ofL x.text), .string (ofL x.rewrite), .int .i64 x.retries, .int .i64 x.timeout, .bool x.upgrade], v] w fun e w' => e = .returned (.bool (routB x G)) ∧ Below w.heap.size w w' := by
  by_cases h : normalB x.path = true
  · exact R14RouA.rrouteA x hx G v hG h w hC
  · exact R14RouB.rrouteB x hx G v hG (by simpa using h) w hC
end Go.Proofs.Ytcjobblhendkbaa.R14Route

/- Layer 14, the document's own bounds. -/
namespace Go.Proofs.Ytcjobblhendkbaa.R14Bnd
open Go.ChangeShapes Go.WideShapes Go.ChangeAt Go.RowKit Bytes LexPure ConfPure ConfMem Ret Mem R14In
set_option maxRecDepth 100000
set_option linter.unusedSimpArgs false
set_option linter.unusedVariables false
abbrev CT : TypeId := 26
/-- the values of the three lists -/
structure Vals (c : Conf) (vf vc vv : Value) : Prop where
  lf : ∃ p cap, vf = .slice p c.filters.length cap
  lc : ∃ p cap, vc = .slice p c.clusters.length cap
  lv : ∃ p cap, vv = .slice p c.vhosts.length cap
theorem CF.vals {w : World} {vf vc vv : Value} {c : Conf} (h : CF w vf vc vv c) : Vals c vf vc vv := by
  obtain ⟨p, cap, h1, _⟩ := h.filters.parts
  obtain ⟨p2, cap2, h2, _⟩ := h.clusters.parts
  obtain ⟨p3, cap3, h3, _⟩ := h.vhosts.parts
  exact ⟨⟨p, cap, h1⟩, ⟨p2, cap2, h2⟩, ⟨p3, cap3, h3⟩⟩
set_option maxHeartbeats 3200000 in
theorem rbounds_any (c : Conf) (vf vc vv : Value) (hV : Vals c vf vc vv) (w : World) :
    Calls Try.prog 13 #[.agg (confV c vf vc vv)] w fun e w' => e = .returned (.bool (boundsB c)) ∧ Below w.heap.size w w' := by
  obtain ⟨⟨pf, cf, rfl⟩, ⟨pc, cc, rfl⟩, ⟨pv, cv, rfl⟩⟩ := hV
  have H0 := Lib.hid (fun w => rin_any c.conns 1 256 w)
  have H1 := Lib.hid (fun w => rin_any c.body 0 65536 w)
  have H2 := Lib.hid (fun w => rin_any c.idle 1 TICK w)
  have H3 := Lib.hid (fun w => rin_any c.grace 1 TICK w)
  have H4 := Lib.hid (fun w => rin_any c.budget 0 256 w)
  have H5 := Lib.hid (fun w => rin_any c.seed 0 1099511627776 w)
  have k1 : decide ((c.filters.length : Int) ≤ (32 : Int)) = decide (c.filters.length ≤ 32) := by by_cases h : c.filters.length ≤ 32 <;> simp [h] <;> omega
  have k2 : decide ((c.clusters.length : Int) ≤ (32 : Int)) = decide (c.clusters.length ≤ 32) := by by_cases h : c.clusters.length ≤ 32 <;> simp [h] <;> omega
  have k3 : decide ((c.vhosts.length : Int) ≤ (32 : Int)) = decide (c.vhosts.length ≤ 32) := by by_cases h : c.vhosts.length ≤ 32 <;> simp [h] <;> omega
  unfold boundsB
  obtain ⟨r0, hr0⟩ : ∃ r0, r0 = inB c.conns 1 256 := ⟨_, rfl⟩
  obtain ⟨r1, hr1⟩ : ∃ r1, r1 = inB c.body 0 65536 := ⟨_, rfl⟩
  obtain ⟨r2, hr2⟩ : ∃ r2, r2 = inB c.idle 1 TICK := ⟨_, rfl⟩
  obtain ⟨r3, hr3⟩ : ∃ r3, r3 = inB c.grace 1 TICK := ⟨_, rfl⟩
  obtain ⟨r4, hr4⟩ : ∃ r4, r4 = inB c.budget 0 256 := ⟨_, rfl⟩
  obtain ⟨r5, hr5⟩ : ∃ r5, r5 = inB c.seed 0 1099511627776 := ⟨_, rfl⟩
  obtain ⟨r6, hr6⟩ : ∃ r6, r6 = decide (c.filters.length ≤ 32) := ⟨_, rfl⟩
  obtain ⟨r7, hr7⟩ : ∃ r7, r7 = decide (c.clusters.length ≤ 32) := ⟨_, rfl⟩
  obtain ⟨r8, hr8⟩ : ∃ r8, r8 = decide (c.vhosts.length ≤ 32) := ⟨_, rfl⟩
  rw [← hr0] at H0 ⊢
  rw [← hr1] at H1 ⊢
  rw [← hr2] at H2 ⊢
  rw [← hr3] at H3 ⊢
  rw [← hr4] at H4 ⊢
  rw [← hr5] at H5 ⊢
  rw [← hr6] at k1 ⊢
  rw [← hr7] at k2 ⊢
  rw [← hr8] at k3 ⊢
  replace hr6 := hr6.symm
  replace hr7 := hr7.symm
  replace hr8 := hr8.symm
  unfold TICK at H2 H3
  have HB := Lib.hid ((Below.refl w.heap.size w).alloc (Nat.le_refl _) (.cells (confV c (.slice pf c.filters.length cf) (.slice pc c.clusters.length cc) (.slice pv c.vhosts.length cv)) CT))
  unfold confV
  unfold confV CT at HB
  clear hr0 hr1 hr2 hr3 hr4 hr5
  go_enter Try.func13, Try.ntmps13
  go_wp2_with fail
  refine (H0.out _).mono ?_
  rintro e w1 ⟨rfl, rfl⟩
  clear H0
  cases r0 with
  | false =>
    go_wp2_with fail
    go_ret
    exact ⟨rfl, HB.out⟩
  | true =>
    go_wp2_with fail
    refine (H1.out _).mono ?_
    rintro e w2 ⟨rfl, rfl⟩
    clear H1
    cases r1 with
    | false =>
      go_wp2_with fail
      go_ret
      exact ⟨rfl, HB.out⟩
    | true =>
      go_wp2_with fail
      refine (H2.out _).mono ?_
      rintro e w3 ⟨rfl, rfl⟩
      clear H2
      cases r2 with
      | false =>
        go_wp2_with fail
        go_ret
        exact ⟨rfl, HB.out⟩
      | true =>
        go_wp2_with fail
        refine (H3.out _).mono ?_
        rintro e w4 ⟨rfl, rfl⟩
        clear H3
        cases r3 with
        | false =>
          go_wp2_with fail
          go_ret
          exact ⟨rfl, HB.out⟩
        | true =>
          go_wp2_with fail
          refine (H4.out _).mono ?_
          rintro e w5 ⟨rfl, rfl⟩
          clear H4
          cases r4 with
          | false =>
            go_wp2_with fail
            go_ret
            exact ⟨rfl, HB.out⟩
          | true =>
            go_wp2_with fail
            refine (H5.out _).mono ?_
            rintro e w6 ⟨rfl, rfl⟩
            clear H5
            cases r5 with
            | false =>
              go_wp2_with fail
              go_ret
              exact ⟨rfl, HB.out⟩
            | true =>
              cases r6 <;> cases r7 <;> cases r8
              · go_wp2_with fail
                go_ret
                exact ⟨rfl, HB.out⟩
              · go_wp2_with fail
                go_ret
                exact ⟨rfl, HB.out⟩
              · go_wp2_with fail
                go_ret
                exact ⟨rfl, HB.out⟩
              · go_wp2_with fail
                go_ret
                exact ⟨rfl, HB.out⟩
              · go_wp2_with fail
                go_ret
                exact ⟨rfl, HB.out⟩
              · go_wp2_with fail
                go_ret
                exact ⟨rfl, HB.out⟩
              · go_wp2_with fail
                go_ret
                exact ⟨rfl, HB.out⟩
              · go_wp2_with fail
                go_ret
                exact ⟨rfl, HB.out⟩
end Go.Proofs.Ytcjobblhendkbaa.R14Bnd
