/- Texts of this seat, one behind another: R13HeadS, R13Local. -/

import Derived.Test.YtblpooddamkfdaaDoorG1
/- The document's layer 13: Head, a reason given. -/
namespace Go.Proofs.YtblpooddamkfdaaDoor.R13HeadS
open Go.ChangeShapes Go.WideShapes Go.ChangeAt Go.RowKit Bytes LexPure FieldsPure EmitPure Flds Mem Ret R13On R13Box R13HeadO
set_option maxRecDepth 100000
set_option linter.unusedVariables false
set_option linter.unusedSimpArgs false
set_option maxHeartbeats 6400000 in
theorem head_2_up (r : ReplyP) (vl : Value) (hr : ¬ r.reason = []) (hf : r.framing = 2) (hu : ¬ r.up = []) (hA : FitR r) (w : World) (hF : FL w vl r.fields) :
    Calls Tryd.prog 12 #[.agg (dcells r vl)] w fun e w' => e = .returned (.string (ofL (headE r))) ∧ Below w.heap.size w w' := by
  have hF0 := hF
  obtain ⟨pl, cl, rfl, _, _⟩ := hF0
  have hE : ∃ W2, W2 = w.alloc (.cells #[.int .i64 r.status, .string (ofL r.reason), .slice pl r.fields.length cl, .int .i64 r.framing, .int .i64 r.length, .bool r.keep, .string (ofL r.up)] RT) ∧ Bx w RT (dcells r (.slice pl r.fields.length cl)) W2 := ⟨_, rfl, Bx.start w RT _⟩
  obtain ⟨W2, hW2, hE⟩ := hE
  have HW2 := Lib.hid hW2
  have HE := Lib.hid hE
  have HON := Lib.hid (fun W (hb : Below w.heap.size w W) => R13On.on_any _ r.fields hA.fields hA.len false W (hF.below hb))
  have HJ2 := Lib.hid (fun W (hb : Below w.heap.size w W) => R13Join.joined_any _ r.fields hA.fields hA.len VIAN BARB (by decide) (by decide) W (hF.below hb))
  have HDS := Lib.hid (fun W => R13Dig.digits_any r.status hA.s0 hA.s1 W)
  have HDL := Lib.hid (fun W => R13Dig.digits_any r.length hA.l0 hA.l1 W)
  have zON := onE_len hA.fields hA.len false
  have zJ2 := join_len hA.fields hA.len VIAN BARB (by decide) (by decide)
  have zDS := decZ_len hA.s0 hA.s1
  have zDL := decZ_len hA.l0 hA.l1
  have zU := hA.up
  have zR0 := hA.reason
  have HR : Hid (headE r = [72, 84, 84, 80, 47, 49, 46, 49, 32] ++ decZ r.status ++ [32] ++ r.reason ++ [13, 10] ++ (onE false r.fields).flatMap lineE ++ lineE (VIAN, joinV r.fields VIAN BARB) ++ [67, 111, 110, 116, 101, 110, 116, 45, 76, 101, 110, 103, 116, 104, 58, 32] ++ decZ r.length ++ [13, 10] ++ [67, 111, 110, 110, 101, 99, 116, 105, 111, 110, 58, 32, 117, 112, 103, 114, 97, 100, 101, 13, 10, 85, 112, 103, 114, 97, 100, 101, 58, 32] ++ r.up ++ [13, 10, 13, 10]) := Lib.hid (by
    simp [headE, replyF, statusL, lineE, hr, hf, hu, CLN, TEN, CHV, CONN, CLOSEV, UPN, UPV])
  have eu : (ofL r.up).toList = r.up := by rw [ByteArray.toList_eq]; exact toL_ofL _
  have er : (ofL r.reason).toList = r.reason := by rw [ByteArray.toList_eq]; exact toL_ofL _
  have t2 : ¬ (ofL r.up).toList = [] := by rw [eu]; exact hu
  have t1 : (ofL r.up).toList.isEmpty = false := by
    rw [eu]
    cases hx : r.up with
    | nil => exact absurd hx hu
    | cons => rfl
  have q2 : ¬ (ofL r.reason).toList = [] := by rw [er]; exact hr
  have q1 : (ofL r.reason).toList.isEmpty = false := by
    rw [er]
    cases hx : r.reason with
    | nil => exact absurd hx hr
    | cons => rfl
  have HT := Lib.hid (And.intro t1 t2)
  have HFr := Lib.hid hf
  obtain ⟨c0, c1, _⟩ := reply_cells hE
  clear hE hW2 t1 t2 eu er hu hr hf
  have Z_U : Hid ((ofL (r.up)).size ≤ 1048576) := Lib.hid (by rw [ofL_size]; omega)
  have Z_ON : Hid ((ofL ((onE false r.fields).flatMap lineE)).size ≤ 2199027449856) := Lib.hid (by rw [ofL_size]; omega)
  have Z_J2 : Hid ((ofL (lineE (VIAN, joinV r.fields VIAN BARB))).size ≤ 1099516870658) := Lib.hid (by rw [ofL_size]; omega)
  have Z_DS : Hid ((ofL (decZ r.status)).size ≤ 20) := Lib.hid (by rw [ofL_size]; omega)
  have Z_RS : Hid ((ofL (r.reason)).size ≤ 1048576) := Lib.hid (by rw [ofL_size]; omega)
  have Z_DL : Hid ((ofL (decZ r.length)).size ≤ 20) := Lib.hid (by rw [ofL_size]; omega)
  clear zON zJ2 zDS zU zR0 zDL hF
  unfold dcells
  generalize decZ r.length = DL at *
  generalize decZ r.status = DS at *
  generalize (onE false r.fields).flatMap lineE = ON at *
  generalize lineE (VIAN, joinV r.fields VIAN BARB) = J2 at *
  generalize headE r = RES at *
  have sX10 : 9 + (ofL DS).size ≤ 9223372036854775807 := by have := Z_DS.out; have := Z_RS.out; omega
  have sX11 : 9 + (ofL DS).size + 1 ≤ 9223372036854775807 := by have := Z_DS.out; have := Z_RS.out; omega
  have sX12 : 9 + (ofL DS).size + 1 + (ofL r.reason).size ≤ 9223372036854775807 := by have := Z_DS.out; have := Z_RS.out; omega
  have sX13 : 9 + (ofL DS).size + 1 + (ofL r.reason).size + 2 ≤ 9223372036854775807 := by have := Z_DS.out; have := Z_RS.out; omega
  obtain ⟨X1, hX1⟩ : ∃ X1, X1 = [72, 84, 84, 80, 47, 49, 46, 49, 32] ++ DS ++ [32] ++ r.reason ++ [13, 10] := ⟨_, rfl⟩
  have eX1 : (⟨#[72, 84, 84, 80, 47, 49, 46, 49, 32]⟩ : ByteArray) ++ ofL DS ++ ⟨#[32]⟩ ++ ofL r.reason ++ ⟨#[13, 10]⟩ = ofL X1 := by rw [hX1, show (⟨#[72, 84, 84, 80, 47, 49, 46, 49, 32]⟩ : ByteArray) = ofL [72, 84, 84, 80, 47, 49, 46, 49, 32] from rfl, show (⟨#[32]⟩ : ByteArray) = ofL [32] from rfl, show (⟨#[13, 10]⟩ : ByteArray) = ofL [13, 10] from rfl, str_app, str_app, str_app, str_app]
  have Z_X1 : Hid ((ofL X1).size ≤ 1048608) := Lib.hid (by rw [← eX1]; simp only [ByteArray.size_append]; have := Z_DS.out; have := Z_RS.out; have : (⟨#[72, 84, 84, 80, 47, 49, 46, 49, 32]⟩ : ByteArray).size = 9 := rfl; have : (⟨#[32]⟩ : ByteArray).size = 1 := rfl; have : (⟨#[13, 10]⟩ : ByteArray).size = 2 := rfl; omega)
  have HX1 := Lib.hid hX1
  clear hX1
  have sX20 : (ofL X1).size + (ofL ON).size ≤ 9223372036854775807 := by have := Z_X1.out; have := Z_ON.out; omega
  obtain ⟨X2, hX2⟩ : ∃ X2, X2 = X1 ++ ON := ⟨_, rfl⟩
  have eX2 : ofL X1 ++ ofL ON = ofL X2 := by rw [hX2, str_app]
  have Z_X2 : Hid ((ofL X2).size ≤ 2199028498464) := Lib.hid (by rw [← eX2]; simp only [ByteArray.size_append]; have := Z_X1.out; have := Z_ON.out; omega)
  have HX2 := Lib.hid hX2
  clear hX2
  have sX30 : (ofL X2).size + (ofL J2).size ≤ 9223372036854775807 := by have := Z_X2.out; have := Z_J2.out; omega
  obtain ⟨X3, hX3⟩ : ∃ X3, X3 = X2 ++ J2 := ⟨_, rfl⟩
  have eX3 : ofL X2 ++ ofL J2 = ofL X3 := by rw [hX3, str_app]
  have Z_X3 : Hid ((ofL X3).size ≤ 3298545369122) := Lib.hid (by rw [← eX3]; simp only [ByteArray.size_append]; have := Z_X2.out; have := Z_J2.out; omega)
  have HX3 := Lib.hid hX3
  clear hX3
  have sX40 : (ofL X3).size + 16 ≤ 9223372036854775807 := by have := Z_X3.out; have := Z_DL.out; omega
  have sX41 : (ofL X3).size + 16 + (ofL DL).size ≤ 9223372036854775807 := by have := Z_X3.out; have := Z_DL.out; omega
  have sX42 : (ofL X3).size + 16 + (ofL DL).size + 2 ≤ 9223372036854775807 := by have := Z_X3.out; have := Z_DL.out; omega
  obtain ⟨X4, hX4⟩ : ∃ X4, X4 = X3 ++ [67, 111, 110, 116, 101, 110, 116, 45, 76, 101, 110, 103, 116, 104, 58, 32] ++ DL ++ [13, 10] := ⟨_, rfl⟩
  have eX4 : ofL X3 ++ ⟨#[67, 111, 110, 116, 101, 110, 116, 45, 76, 101, 110, 103, 116, 104, 58, 32]⟩ ++ ofL DL ++ ⟨#[13, 10]⟩ = ofL X4 := by rw [hX4, show (⟨#[67, 111, 110, 116, 101, 110, 116, 45, 76, 101, 110, 103, 116, 104, 58, 32]⟩ : ByteArray) = ofL [67, 111, 110, 116, 101, 110, 116, 45, 76, 101, 110, 103, 116, 104, 58, 32] from rfl, show (⟨#[13, 10]⟩ : ByteArray) = ofL [13, 10] from rfl, str_app, str_app, str_app]
  have Z_X4 : Hid ((ofL X4).size ≤ 3298545369160) := Lib.hid (by rw [← eX4]; simp only [ByteArray.size_append]; have := Z_X3.out; have := Z_DL.out; have : (⟨#[67, 111, 110, 116, 101, 110, 116, 45, 76, 101, 110, 103, 116, 104, 58, 32]⟩ : ByteArray).size = 16 := rfl; have : (⟨#[13, 10]⟩ : ByteArray).size = 2 := rfl; omega)
  have HX4 := Lib.hid hX4
  clear hX4
  have sX60 : (ofL X4).size + 30 ≤ 9223372036854775807 := by have := Z_X4.out; have := Z_U.out; omega
  have sX61 : (ofL X4).size + 30 + (ofL r.up).size ≤ 9223372036854775807 := by have := Z_X4.out; have := Z_U.out; omega
  have sX62 : (ofL X4).size + 30 + (ofL r.up).size + 4 ≤ 9223372036854775807 := by have := Z_X4.out; have := Z_U.out; omega
  obtain ⟨X6, hX6⟩ : ∃ X6, X6 = X4 ++ [67, 111, 110, 110, 101, 99, 116, 105, 111, 110, 58, 32, 117, 112, 103, 114, 97, 100, 101, 13, 10, 85, 112, 103, 114, 97, 100, 101, 58, 32] ++ r.up ++ [13, 10, 13, 10] := ⟨_, rfl⟩
  have eX6 : ofL X4 ++ ⟨#[67, 111, 110, 110, 101, 99, 116, 105, 111, 110, 58, 32, 117, 112, 103, 114, 97, 100, 101, 13, 10, 85, 112, 103, 114, 97, 100, 101, 58, 32]⟩ ++ ofL r.up ++ ⟨#[13, 10, 13, 10]⟩ = ofL X6 := by rw [hX6, show (⟨#[67, 111, 110, 110, 101, 99, 116, 105, 111, 110, 58, 32, 117, 112, 103, 114, 97, 100, 101, 13, 10, 85, 112, 103, 114, 97, 100, 101, 58, 32]⟩ : ByteArray) = ofL [67, 111, 110, 110, 101, 99, 116, 105, 111, 110, 58, 32, 117, 112, 103, 114, 97, 100, 101, 13, 10, 85, 112, 103, 114, 97, 100, 101, 58, 32] from rfl, show (⟨#[13, 10, 13, 10]⟩ : ByteArray) = ofL [13, 10, 13, 10] from rfl, str_app, str_app, str_app]
  have Z_X6 : Hid ((ofL X6).size ≤ 3298546417770) := Lib.hid (by rw [← eX6]; simp only [ByteArray.size_append]; have := Z_X4.out; have := Z_U.out; have : (⟨#[67, 111, 110, 110, 101, 99, 116, 105, 111, 110, 58, 32, 117, 112, 103, 114, 97, 100, 101, 13, 10, 85, 112, 103, 114, 97, 100, 101, 58, 32]⟩ : ByteArray).size = 30 := rfl; have : (⟨#[13, 10, 13, 10]⟩ : ByteArray).size = 4 := rfl; omega)
  have HX6 := Lib.hid hX6
  clear hX6
  have HFin : Hid (RES = X6) := Lib.hid (by rw [HR.out, HX6.out, HX4.out, HX3.out, HX2.out, HX1.out])
  clear HX3 HX2 HX1 HX4 HX6 HR
  go_enter Tryd.func12, Tryd.ntmps12
  iterate 12 go_step
  rw [← HW2.out]
  clear HW2
  go_wp2_with fail
  refine (HDS.out _).mono ?_
  rintro e w2 ⟨rfl, hb⟩
  replace HE := Lib.hid (HE.out.call hb)
  clear hb HDS c0 c1 q1 q2
  obtain ⟨_, _, k2, _, _, _, _⟩ := reply_cells HE.out
  go_wp2_with fail
  refine (HON.out _ HE.out.below).mono ?_
  rintro e w3 ⟨rfl, hb⟩
  replace HE := Lib.hid (HE.out.call hb)
  clear hb HON k2 sX10 sX11 sX12 sX13 eX1
  obtain ⟨_, _, k2, _, _, _, _⟩ := reply_cells HE.out
  go_wp2_with fail
  refine (HJ2.out _ HE.out.below).mono ?_
  rintro e w4 ⟨rfl, hb⟩
  replace HE := Lib.hid (HE.out.call hb)
  clear hb HJ2 k2 sX20 eX2
  have ht1 := HT.out.1
  have ht2 := HT.out.2
  obtain ⟨_, _, _, k3, k4, k5, k6⟩ := reply_cells HE.out
  rw [HFr.out] at k3
  go_wp2_with fail
  refine (HDL.out _).mono ?_
  rintro e w5 ⟨rfl, hb⟩
  replace HE := Lib.hid (HE.out.call hb)
  clear hb HDL k3 k4 k5 k6 sX30 eX3
  obtain ⟨_, _, _, k3, k4, k5, k6⟩ := reply_cells HE.out
  rw [HFr.out] at k3
  go_wp2_with fail
  go_ret
  exact ⟨ret_string (by rw [HFin.out]), HE.out.below⟩
set_option maxHeartbeats 6400000 in
theorem head_2_keep (r : ReplyP) (vl : Value) (hr : ¬ r.reason = []) (hf : r.framing = 2) (hu : r.up = []) (hk : r.keep = true) (hA : FitR r) (w : World) (hF : FL w vl r.fields) :
    Calls Tryd.prog 12 #[.agg (dcells r vl)] w fun e w' => e = .returned (.string (ofL (headE r))) ∧ Below w.heap.size w w' := by
  have hF0 := hF
  obtain ⟨pl, cl, rfl, _, _⟩ := hF0
  have hE : ∃ W2, W2 = w.alloc (.cells #[.int .i64 r.status, .string (ofL r.reason), .slice pl r.fields.length cl, .int .i64 r.framing, .int .i64 r.length, .bool r.keep, .string (ofL r.up)] RT) ∧ Bx w RT (dcells r (.slice pl r.fields.length cl)) W2 := ⟨_, rfl, Bx.start w RT _⟩
  obtain ⟨W2, hW2, hE⟩ := hE
  have HW2 := Lib.hid hW2
  have HE := Lib.hid hE
  have HON := Lib.hid (fun W (hb : Below w.heap.size w W) => R13On.on_any _ r.fields hA.fields hA.len false W (hF.below hb))
  have HJ2 := Lib.hid (fun W (hb : Below w.heap.size w W) => R13Join.joined_any _ r.fields hA.fields hA.len VIAN BARB (by decide) (by decide) W (hF.below hb))
  have HDS := Lib.hid (fun W => R13Dig.digits_any r.status hA.s0 hA.s1 W)
  have HDL := Lib.hid (fun W => R13Dig.digits_any r.length hA.l0 hA.l1 W)
  have zON := onE_len hA.fields hA.len false
  have zJ2 := join_len hA.fields hA.len VIAN BARB (by decide) (by decide)
  have zDS := decZ_len hA.s0 hA.s1
  have zDL := decZ_len hA.l0 hA.l1
  have zU := hA.up
  have zR0 := hA.reason
  have HR : Hid (headE r = [72, 84, 84, 80, 47, 49, 46, 49, 32] ++ decZ r.status ++ [32] ++ r.reason ++ [13, 10] ++ (onE false r.fields).flatMap lineE ++ lineE (VIAN, joinV r.fields VIAN BARB) ++ [67, 111, 110, 116, 101, 110, 116, 45, 76, 101, 110, 103, 116, 104, 58, 32] ++ decZ r.length ++ [13, 10] ++ [13, 10]) := Lib.hid (by
    simp [headE, replyF, statusL, lineE, hr, hf, hu, hk, CLN, TEN, CHV, CONN, CLOSEV, UPN, UPV])
  have eu : (ofL r.up).toList = r.up := by rw [ByteArray.toList_eq]; exact toL_ofL _
  have er : (ofL r.reason).toList = r.reason := by rw [ByteArray.toList_eq]; exact toL_ofL _
  have t2 : (ofL r.up).toList = [] := by rw [eu, hu]
  have t1 : (ofL r.up).toList.isEmpty = true := by rw [eu, hu]; rfl
  have q2 : ¬ (ofL r.reason).toList = [] := by rw [er]; exact hr
  have q1 : (ofL r.reason).toList.isEmpty = false := by
    rw [er]
    cases hx : r.reason with
    | nil => exact absurd hx hr
    | cons => rfl
  have HT := Lib.hid (And.intro t1 t2)
  have HFr := Lib.hid hf
  have HK := Lib.hid hk
  obtain ⟨c0, c1, _⟩ := reply_cells hE
  clear hE hW2 t1 t2 eu er hu hr hf hk
  have Z_U : Hid ((ofL (r.up)).size ≤ 1048576) := Lib.hid (by rw [ofL_size]; omega)
  have Z_ON : Hid ((ofL ((onE false r.fields).flatMap lineE)).size ≤ 2199027449856) := Lib.hid (by rw [ofL_size]; omega)
  have Z_J2 : Hid ((ofL (lineE (VIAN, joinV r.fields VIAN BARB))).size ≤ 1099516870658) := Lib.hid (by rw [ofL_size]; omega)
  have Z_DS : Hid ((ofL (decZ r.status)).size ≤ 20) := Lib.hid (by rw [ofL_size]; omega)
  have Z_RS : Hid ((ofL (r.reason)).size ≤ 1048576) := Lib.hid (by rw [ofL_size]; omega)
  have Z_DL : Hid ((ofL (decZ r.length)).size ≤ 20) := Lib.hid (by rw [ofL_size]; omega)
  clear zON zJ2 zDS zU zR0 zDL hF
  unfold dcells
  generalize decZ r.length = DL at *
  generalize decZ r.status = DS at *
  generalize (onE false r.fields).flatMap lineE = ON at *
  generalize lineE (VIAN, joinV r.fields VIAN BARB) = J2 at *
  generalize headE r = RES at *
  have sX10 : 9 + (ofL DS).size ≤ 9223372036854775807 := by have := Z_DS.out; have := Z_RS.out; omega
  have sX11 : 9 + (ofL DS).size + 1 ≤ 9223372036854775807 := by have := Z_DS.out; have := Z_RS.out; omega
  have sX12 : 9 + (ofL DS).size + 1 + (ofL r.reason).size ≤ 9223372036854775807 := by have := Z_DS.out; have := Z_RS.out; omega
  have sX13 : 9 + (ofL DS).size + 1 + (ofL r.reason).size + 2 ≤ 9223372036854775807 := by have := Z_DS.out; have := Z_RS.out; omega
  obtain ⟨X1, hX1⟩ : ∃ X1, X1 = [72, 84, 84, 80, 47, 49, 46, 49, 32] ++ DS ++ [32] ++ r.reason ++ [13, 10] := ⟨_, rfl⟩
  have eX1 : (⟨#[72, 84, 84, 80, 47, 49, 46, 49, 32]⟩ : ByteArray) ++ ofL DS ++ ⟨#[32]⟩ ++ ofL r.reason ++ ⟨#[13, 10]⟩ = ofL X1 := by rw [hX1, show (⟨#[72, 84, 84, 80, 47, 49, 46, 49, 32]⟩ : ByteArray) = ofL [72, 84, 84, 80, 47, 49, 46, 49, 32] from rfl, show (⟨#[32]⟩ : ByteArray) = ofL [32] from rfl, show (⟨#[13, 10]⟩ : ByteArray) = ofL [13, 10] from rfl, str_app, str_app, str_app, str_app]
  have Z_X1 : Hid ((ofL X1).size ≤ 1048608) := Lib.hid (by rw [← eX1]; simp only [ByteArray.size_append]; have := Z_DS.out; have := Z_RS.out; have : (⟨#[72, 84, 84, 80, 47, 49, 46, 49, 32]⟩ : ByteArray).size = 9 := rfl; have : (⟨#[32]⟩ : ByteArray).size = 1 := rfl; have : (⟨#[13, 10]⟩ : ByteArray).size = 2 := rfl; omega)
  have HX1 := Lib.hid hX1
  clear hX1
  have sX20 : (ofL X1).size + (ofL ON).size ≤ 9223372036854775807 := by have := Z_X1.out; have := Z_ON.out; omega
  obtain ⟨X2, hX2⟩ : ∃ X2, X2 = X1 ++ ON := ⟨_, rfl⟩
  have eX2 : ofL X1 ++ ofL ON = ofL X2 := by rw [hX2, str_app]
  have Z_X2 : Hid ((ofL X2).size ≤ 2199028498464) := Lib.hid (by rw [← eX2]; simp only [ByteArray.size_append]; have := Z_X1.out; have := Z_ON.out; omega)
  have HX2 := Lib.hid hX2
  clear hX2
  have sX30 : (ofL X2).size + (ofL J2).size ≤ 9223372036854775807 := by have := Z_X2.out; have := Z_J2.out; omega
  obtain ⟨X3, hX3⟩ : ∃ X3, X3 = X2 ++ J2 := ⟨_, rfl⟩
  have eX3 : ofL X2 ++ ofL J2 = ofL X3 := by rw [hX3, str_app]
  have Z_X3 : Hid ((ofL X3).size ≤ 3298545369122) := Lib.hid (by rw [← eX3]; simp only [ByteArray.size_append]; have := Z_X2.out; have := Z_J2.out; omega)
  have HX3 := Lib.hid hX3
  clear hX3
  have sX40 : (ofL X3).size + 16 ≤ 9223372036854775807 := by have := Z_X3.out; have := Z_DL.out; omega
  have sX41 : (ofL X3).size + 16 + (ofL DL).size ≤ 9223372036854775807 := by have := Z_X3.out; have := Z_DL.out; omega
  have sX42 : (ofL X3).size + 16 + (ofL DL).size + 2 ≤ 9223372036854775807 := by have := Z_X3.out; have := Z_DL.out; omega
  obtain ⟨X4, hX4⟩ : ∃ X4, X4 = X3 ++ [67, 111, 110, 116, 101, 110, 116, 45, 76, 101, 110, 103, 116, 104, 58, 32] ++ DL ++ [13, 10] := ⟨_, rfl⟩
  have eX4 : ofL X3 ++ ⟨#[67, 111, 110, 116, 101, 110, 116, 45, 76, 101, 110, 103, 116, 104, 58, 32]⟩ ++ ofL DL ++ ⟨#[13, 10]⟩ = ofL X4 := by rw [hX4, show (⟨#[67, 111, 110, 116, 101, 110, 116, 45, 76, 101, 110, 103, 116, 104, 58, 32]⟩ : ByteArray) = ofL [67, 111, 110, 116, 101, 110, 116, 45, 76, 101, 110, 103, 116, 104, 58, 32] from rfl, show (⟨#[13, 10]⟩ : ByteArray) = ofL [13, 10] from rfl, str_app, str_app, str_app]
  have Z_X4 : Hid ((ofL X4).size ≤ 3298545369160) := Lib.hid (by rw [← eX4]; simp only [ByteArray.size_append]; have := Z_X3.out; have := Z_DL.out; have : (⟨#[67, 111, 110, 116, 101, 110, 116, 45, 76, 101, 110, 103, 116, 104, 58, 32]⟩ : ByteArray).size = 16 := rfl; have : (⟨#[13, 10]⟩ : ByteArray).size = 2 := rfl; omega)
  have HX4 := Lib.hid hX4
  clear hX4
  have sX60 : (ofL X4).size + 2 ≤ 9223372036854775807 := by have := Z_X4.out; omega
  obtain ⟨X6, hX6⟩ : ∃ X6, X6 = X4 ++ [13, 10] := ⟨_, rfl⟩
  have eX6 : ofL X4 ++ ⟨#[13, 10]⟩ = ofL X6 := by rw [hX6, show (⟨#[13, 10]⟩ : ByteArray) = ofL [13, 10] from rfl, str_app]
  have Z_X6 : Hid ((ofL X6).size ≤ 3298545369162) := Lib.hid (by rw [← eX6]; simp only [ByteArray.size_append]; have := Z_X4.out; have : (⟨#[13, 10]⟩ : ByteArray).size = 2 := rfl; omega)
  have HX6 := Lib.hid hX6
  clear hX6
  have HFin : Hid (RES = X6) := Lib.hid (by rw [HR.out, HX6.out, HX4.out, HX3.out, HX2.out, HX1.out])
  clear HX3 HX2 HX1 HX4 HX6 HR
  go_enter Tryd.func12, Tryd.ntmps12
  iterate 12 go_step
  rw [← HW2.out]
  clear HW2
  go_wp2_with fail
  refine (HDS.out _).mono ?_
  rintro e w2 ⟨rfl, hb⟩
  replace HE := Lib.hid (HE.out.call hb)
  clear hb HDS c0 c1 q1 q2
  obtain ⟨_, _, k2, _, _, _, _⟩ := reply_cells HE.out
  go_wp2_with fail
  refine (HON.out _ HE.out.below).mono ?_
  rintro e w3 ⟨rfl, hb⟩
  replace HE := Lib.hid (HE.out.call hb)
  clear hb HON k2 sX10 sX11 sX12 sX13 eX1
  obtain ⟨_, _, k2, _, _, _, _⟩ := reply_cells HE.out
  go_wp2_with fail
  refine (HJ2.out _ HE.out.below).mono ?_
  rintro e w4 ⟨rfl, hb⟩
  replace HE := Lib.hid (HE.out.call hb)
  clear hb HJ2 k2 sX20 eX2
  have ht1 := HT.out.1
  have ht2 := HT.out.2
  obtain ⟨_, _, _, k3, k4, k5, k6⟩ := reply_cells HE.out
  rw [HFr.out] at k3
  rw [HK.out] at k5
  go_wp2_with fail
  refine (HDL.out _).mono ?_
  rintro e w5 ⟨rfl, hb⟩
  replace HE := Lib.hid (HE.out.call hb)
  clear hb HDL k3 k4 k5 k6 sX30 eX3
  obtain ⟨_, _, _, k3, k4, k5, k6⟩ := reply_cells HE.out
  rw [HFr.out] at k3
  rw [HK.out] at k5
  go_wp2_with fail
  go_ret
  exact ⟨ret_string (by rw [HFin.out]), HE.out.below⟩
set_option maxHeartbeats 6400000 in
theorem head_2_close (r : ReplyP) (vl : Value) (hr : ¬ r.reason = []) (hf : r.framing = 2) (hu : r.up = []) (hk : r.keep = false) (hA : FitR r) (w : World) (hF : FL w vl r.fields) :
    Calls Tryd.prog 12 #[.agg (dcells r vl)] w fun e w' => e = .returned (.string (ofL (headE r))) ∧ Below w.heap.size w w' := by
  have hF0 := hF
  obtain ⟨pl, cl, rfl, _, _⟩ := hF0
  have hE : ∃ W2, W2 = w.alloc (.cells #[.int .i64 r.status, .string (ofL r.reason), .slice pl r.fields.length cl, .int .i64 r.framing, .int .i64 r.length, .bool r.keep, .string (ofL r.up)] RT) ∧ Bx w RT (dcells r (.slice pl r.fields.length cl)) W2 := ⟨_, rfl, Bx.start w RT _⟩
  obtain ⟨W2, hW2, hE⟩ := hE
  have HW2 := Lib.hid hW2
  have HE := Lib.hid hE
  have HON := Lib.hid (fun W (hb : Below w.heap.size w W) => R13On.on_any _ r.fields hA.fields hA.len false W (hF.below hb))
  have HJ2 := Lib.hid (fun W (hb : Below w.heap.size w W) => R13Join.joined_any _ r.fields hA.fields hA.len VIAN BARB (by decide) (by decide) W (hF.below hb))
  have HDS := Lib.hid (fun W => R13Dig.digits_any r.status hA.s0 hA.s1 W)
  have HDL := Lib.hid (fun W => R13Dig.digits_any r.length hA.l0 hA.l1 W)
  have zON := onE_len hA.fields hA.len false
  have zJ2 := join_len hA.fields hA.len VIAN BARB (by decide) (by decide)
  have zDS := decZ_len hA.s0 hA.s1
  have zDL := decZ_len hA.l0 hA.l1
  have zU := hA.up
  have zR0 := hA.reason
  have HR : Hid (headE r = [72, 84, 84, 80, 47, 49, 46, 49, 32] ++ decZ r.status ++ [32] ++ r.reason ++ [13, 10] ++ (onE false r.fields).flatMap lineE ++ lineE (VIAN, joinV r.fields VIAN BARB) ++ [67, 111, 110, 116, 101, 110, 116, 45, 76, 101, 110, 103, 116, 104, 58, 32] ++ decZ r.length ++ [13, 10] ++ [67, 111, 110, 110, 101, 99, 116, 105, 111, 110, 58, 32, 99, 108, 111, 115, 101, 13, 10] ++ [13, 10]) := Lib.hid (by
    simp [headE, replyF, statusL, lineE, hr, hf, hu, hk, CLN, TEN, CHV, CONN, CLOSEV, UPN, UPV])
  have eu : (ofL r.up).toList = r.up := by rw [ByteArray.toList_eq]; exact toL_ofL _
  have er : (ofL r.reason).toList = r.reason := by rw [ByteArray.toList_eq]; exact toL_ofL _
  have t2 : (ofL r.up).toList = [] := by rw [eu, hu]
  have t1 : (ofL r.up).toList.isEmpty = true := by rw [eu, hu]; rfl
  have q2 : ¬ (ofL r.reason).toList = [] := by rw [er]; exact hr
  have q1 : (ofL r.reason).toList.isEmpty = false := by
    rw [er]
    cases hx : r.reason with
    | nil => exact absurd hx hr
    | cons => rfl
  have HT := Lib.hid (And.intro t1 t2)
  have HFr := Lib.hid hf
  have HK := Lib.hid hk
  obtain ⟨c0, c1, _⟩ := reply_cells hE
  clear hE hW2 t1 t2 eu er hu hr hf hk
  have Z_U : Hid ((ofL (r.up)).size ≤ 1048576) := Lib.hid (by rw [ofL_size]; omega)
  have Z_ON : Hid ((ofL ((onE false r.fields).flatMap lineE)).size ≤ 2199027449856) := Lib.hid (by rw [ofL_size]; omega)
  have Z_J2 : Hid ((ofL (lineE (VIAN, joinV r.fields VIAN BARB))).size ≤ 1099516870658) := Lib.hid (by rw [ofL_size]; omega)
  have Z_DS : Hid ((ofL (decZ r.status)).size ≤ 20) := Lib.hid (by rw [ofL_size]; omega)
  have Z_RS : Hid ((ofL (r.reason)).size ≤ 1048576) := Lib.hid (by rw [ofL_size]; omega)
  have Z_DL : Hid ((ofL (decZ r.length)).size ≤ 20) := Lib.hid (by rw [ofL_size]; omega)
  clear zON zJ2 zDS zU zR0 zDL hF
  unfold dcells
  generalize decZ r.length = DL at *
  generalize decZ r.status = DS at *
  generalize (onE false r.fields).flatMap lineE = ON at *
  generalize lineE (VIAN, joinV r.fields VIAN BARB) = J2 at *
  generalize headE r = RES at *
  have sX10 : 9 + (ofL DS).size ≤ 9223372036854775807 := by have := Z_DS.out; have := Z_RS.out; omega
  have sX11 : 9 + (ofL DS).size + 1 ≤ 9223372036854775807 := by have := Z_DS.out; have := Z_RS.out; omega
  have sX12 : 9 + (ofL DS).size + 1 + (ofL r.reason).size ≤ 9223372036854775807 := by have := Z_DS.out; have := Z_RS.out; omega
  have sX13 : 9 + (ofL DS).size + 1 + (ofL r.reason).size + 2 ≤ 9223372036854775807 := by have := Z_DS.out; have := Z_RS.out; omega
  obtain ⟨X1, hX1⟩ : ∃ X1, X1 = [72, 84, 84, 80, 47, 49, 46, 49, 32] ++ DS ++ [32] ++ r.reason ++ [13, 10] := ⟨_, rfl⟩
  have eX1 : (⟨#[72, 84, 84, 80, 47, 49, 46, 49, 32]⟩ : ByteArray) ++ ofL DS ++ ⟨#[32]⟩ ++ ofL r.reason ++ ⟨#[13, 10]⟩ = ofL X1 := by rw [hX1, show (⟨#[72, 84, 84, 80, 47, 49, 46, 49, 32]⟩ : ByteArray) = ofL [72, 84, 84, 80, 47, 49, 46, 49, 32] from rfl, show (⟨#[32]⟩ : ByteArray) = ofL [32] from rfl, show (⟨#[13, 10]⟩ : ByteArray) = ofL [13, 10] from rfl, str_app, str_app, str_app, str_app]
  have Z_X1 : Hid ((ofL X1).size ≤ 1048608) := Lib.hid (by rw [← eX1]; simp only [ByteArray.size_append]; have := Z_DS.out; have := Z_RS.out; have : (⟨#[72, 84, 84, 80, 47, 49, 46, 49, 32]⟩ : ByteArray).size = 9 := rfl; have : (⟨#[32]⟩ : ByteArray).size = 1 := rfl; have : (⟨#[13, 10]⟩ : ByteArray).size = 2 := rfl; omega)
  have HX1 := Lib.hid hX1
  clear hX1
  have sX20 : (ofL X1).size + (ofL ON).size ≤ 9223372036854775807 := by have := Z_X1.out; have := Z_ON.out; omega
  obtain ⟨X2, hX2⟩ : ∃ X2, X2 = X1 ++ ON := ⟨_, rfl⟩
  have eX2 : ofL X1 ++ ofL ON = ofL X2 := by rw [hX2, str_app]
  have Z_X2 : Hid ((ofL X2).size ≤ 2199028498464) := Lib.hid (by rw [← eX2]; simp only [ByteArray.size_append]; have := Z_X1.out; have := Z_ON.out; omega)
  have HX2 := Lib.hid hX2
  clear hX2
  have sX30 : (ofL X2).size + (ofL J2).size ≤ 9223372036854775807 := by have := Z_X2.out; have := Z_J2.out; omega
  obtain ⟨X3, hX3⟩ : ∃ X3, X3 = X2 ++ J2 := ⟨_, rfl⟩
  have eX3 : ofL X2 ++ ofL J2 = ofL X3 := by rw [hX3, str_app]
  have Z_X3 : Hid ((ofL X3).size ≤ 3298545369122) := Lib.hid (by rw [← eX3]; simp only [ByteArray.size_append]; have := Z_X2.out; have := Z_J2.out; omega)
  have HX3 := Lib.hid hX3
  clear hX3
  have sX40 : (ofL X3).size + 16 ≤ 9223372036854775807 := by have := Z_X3.out; have := Z_DL.out; omega
  have sX41 : (ofL X3).size + 16 + (ofL DL).size ≤ 9223372036854775807 := by have := Z_X3.out; have := Z_DL.out; omega
  have sX42 : (ofL X3).size + 16 + (ofL DL).size + 2 ≤ 9223372036854775807 := by have := Z_X3.out; have := Z_DL.out; omega
  obtain ⟨X4, hX4⟩ : ∃ X4, X4 = X3 ++ [67, 111, 110, 116, 101, 110, 116, 45, 76, 101, 110, 103, 116, 104, 58, 32] ++ DL ++ [13, 10] := ⟨_, rfl⟩
  have eX4 : ofL X3 ++ ⟨#[67, 111, 110, 116, 101, 110, 116, 45, 76, 101, 110, 103, 116, 104, 58, 32]⟩ ++ ofL DL ++ ⟨#[13, 10]⟩ = ofL X4 := by rw [hX4, show (⟨#[67, 111, 110, 116, 101, 110, 116, 45, 76, 101, 110, 103, 116, 104, 58, 32]⟩ : ByteArray) = ofL [67, 111, 110, 116, 101, 110, 116, 45, 76, 101, 110, 103, 116, 104, 58, 32] from rfl, show (⟨#[13, 10]⟩ : ByteArray) = ofL [13, 10] from rfl, str_app, str_app, str_app]
  have Z_X4 : Hid ((ofL X4).size ≤ 3298545369160) := Lib.hid (by rw [← eX4]; simp only [ByteArray.size_append]; have := Z_X3.out; have := Z_DL.out; have : (⟨#[67, 111, 110, 116, 101, 110, 116, 45, 76, 101, 110, 103, 116, 104, 58, 32]⟩ : ByteArray).size = 16 := rfl; have : (⟨#[13, 10]⟩ : ByteArray).size = 2 := rfl; omega)
  have HX4 := Lib.hid hX4
  clear hX4
  have sX50 : (ofL X4).size + 19 ≤ 9223372036854775807 := by have := Z_X4.out; omega
  obtain ⟨X5, hX5⟩ : ∃ X5, X5 = X4 ++ [67, 111, 110, 110, 101, 99, 116, 105, 111, 110, 58, 32, 99, 108, 111, 115, 101, 13, 10] := ⟨_, rfl⟩
  have eX5 : ofL X4 ++ ⟨#[67, 111, 110, 110, 101, 99, 116, 105, 111, 110, 58, 32, 99, 108, 111, 115, 101, 13, 10]⟩ = ofL X5 := by rw [hX5, show (⟨#[67, 111, 110, 110, 101, 99, 116, 105, 111, 110, 58, 32, 99, 108, 111, 115, 101, 13, 10]⟩ : ByteArray) = ofL [67, 111, 110, 110, 101, 99, 116, 105, 111, 110, 58, 32, 99, 108, 111, 115, 101, 13, 10] from rfl, str_app]
  have Z_X5 : Hid ((ofL X5).size ≤ 3298545369179) := Lib.hid (by rw [← eX5]; simp only [ByteArray.size_append]; have := Z_X4.out; have : (⟨#[67, 111, 110, 110, 101, 99, 116, 105, 111, 110, 58, 32, 99, 108, 111, 115, 101, 13, 10]⟩ : ByteArray).size = 19 := rfl; omega)
  have HX5 := Lib.hid hX5
  clear hX5
  have sX60 : (ofL X5).size + 2 ≤ 9223372036854775807 := by have := Z_X5.out; omega
  obtain ⟨X6, hX6⟩ : ∃ X6, X6 = X5 ++ [13, 10] := ⟨_, rfl⟩
  have eX6 : ofL X5 ++ ⟨#[13, 10]⟩ = ofL X6 := by rw [hX6, show (⟨#[13, 10]⟩ : ByteArray) = ofL [13, 10] from rfl, str_app]
  have Z_X6 : Hid ((ofL X6).size ≤ 3298545369181) := Lib.hid (by rw [← eX6]; simp only [ByteArray.size_append]; have := Z_X5.out; have : (⟨#[13, 10]⟩ : ByteArray).size = 2 := rfl; omega)
  have HX6 := Lib.hid hX6
  clear hX6
  have HFin : Hid (RES = X6) := Lib.hid (by rw [HR.out, HX6.out, HX5.out, HX4.out, HX3.out, HX2.out, HX1.out])
  clear HX3 HX2 HX1 HX4 HX5 HX6 HR
  go_enter Tryd.func12, Tryd.ntmps12
  iterate 12 go_step
  rw [← HW2.out]
  clear HW2
  go_wp2_with fail
  refine (HDS.out _).mono ?_
  rintro e w2 ⟨rfl, hb⟩
  replace HE := Lib.hid (HE.out.call hb)
  clear hb HDS c0 c1 q1 q2
  obtain ⟨_, _, k2, _, _, _, _⟩ := reply_cells HE.out
  go_wp2_with fail
  refine (HON.out _ HE.out.below).mono ?_
  rintro e w3 ⟨rfl, hb⟩
  replace HE := Lib.hid (HE.out.call hb)
  clear hb HON k2 sX10 sX11 sX12 sX13 eX1
  obtain ⟨_, _, k2, _, _, _, _⟩ := reply_cells HE.out
  go_wp2_with fail
  refine (HJ2.out _ HE.out.below).mono ?_
  rintro e w4 ⟨rfl, hb⟩
  replace HE := Lib.hid (HE.out.call hb)
  clear hb HJ2 k2 sX20 eX2
  have ht1 := HT.out.1
  have ht2 := HT.out.2
  obtain ⟨_, _, _, k3, k4, k5, k6⟩ := reply_cells HE.out
  rw [HFr.out] at k3
  rw [HK.out] at k5
  go_wp2_with fail
  refine (HDL.out _).mono ?_
  rintro e w5 ⟨rfl, hb⟩
  replace HE := Lib.hid (HE.out.call hb)
  clear hb HDL k3 k4 k5 k6 sX30 eX3
  obtain ⟨_, _, _, k3, k4, k5, k6⟩ := reply_cells HE.out
  rw [HFr.out] at k3
  rw [HK.out] at k5
  go_wp2_with fail
  go_ret
  exact ⟨ret_string (by rw [HFin.out]), HE.out.below⟩
set_option maxHeartbeats 6400000 in
theorem head_3_up (r : ReplyP) (vl : Value) (hr : ¬ r.reason = []) (hf : r.framing = 3) (hu : ¬ r.up = []) (hA : FitR r) (w : World) (hF : FL w vl r.fields) :
    Calls Tryd.prog 12 #[.agg (dcells r vl)] w fun e w' => e = .returned (.string (ofL (headE r))) ∧ Below w.heap.size w w' := by
  have hF0 := hF
  obtain ⟨pl, cl, rfl, _, _⟩ := hF0
  have hE : ∃ W2, W2 = w.alloc (.cells #[.int .i64 r.status, .string (ofL r.reason), .slice pl r.fields.length cl, .int .i64 r.framing, .int .i64 r.length, .bool r.keep, .string (ofL r.up)] RT) ∧ Bx w RT (dcells r (.slice pl r.fields.length cl)) W2 := ⟨_, rfl, Bx.start w RT _⟩
  obtain ⟨W2, hW2, hE⟩ := hE
  have HW2 := Lib.hid hW2
  have HE := Lib.hid hE
  have HON := Lib.hid (fun W (hb : Below w.heap.size w W) => R13On.on_any _ r.fields hA.fields hA.len false W (hF.below hb))
  have HJ2 := Lib.hid (fun W (hb : Below w.heap.size w W) => R13Join.joined_any _ r.fields hA.fields hA.len VIAN BARB (by decide) (by decide) W (hF.below hb))
  have HDS := Lib.hid (fun W => R13Dig.digits_any r.status hA.s0 hA.s1 W)
  have zON := onE_len hA.fields hA.len false
  have zJ2 := join_len hA.fields hA.len VIAN BARB (by decide) (by decide)
  have zDS := decZ_len hA.s0 hA.s1
  have zU := hA.up
  have zR0 := hA.reason
  have HR : Hid (headE r = [72, 84, 84, 80, 47, 49, 46, 49, 32] ++ decZ r.status ++ [32] ++ r.reason ++ [13, 10] ++ (onE false r.fields).flatMap lineE ++ lineE (VIAN, joinV r.fields VIAN BARB) ++ [84, 114, 97, 110, 115, 102, 101, 114, 45, 69, 110, 99, 111, 100, 105, 110, 103, 58, 32, 99, 104, 117, 110, 107, 101, 100, 13, 10] ++ [67, 111, 110, 110, 101, 99, 116, 105, 111, 110, 58, 32, 117, 112, 103, 114, 97, 100, 101, 13, 10, 85, 112, 103, 114, 97, 100, 101, 58, 32] ++ r.up ++ [13, 10, 13, 10]) := Lib.hid (by
    simp [headE, replyF, statusL, lineE, hr, hf, hu, CLN, TEN, CHV, CONN, CLOSEV, UPN, UPV])
  have eu : (ofL r.up).toList = r.up := by rw [ByteArray.toList_eq]; exact toL_ofL _
  have er : (ofL r.reason).toList = r.reason := by rw [ByteArray.toList_eq]; exact toL_ofL _
  have t2 : ¬ (ofL r.up).toList = [] := by rw [eu]; exact hu
  have t1 : (ofL r.up).toList.isEmpty = false := by
    rw [eu]
    cases hx : r.up with
    | nil => exact absurd hx hu
    | cons => rfl
  have q2 : ¬ (ofL r.reason).toList = [] := by rw [er]; exact hr
  have q1 : (ofL r.reason).toList.isEmpty = false := by
    rw [er]
    cases hx : r.reason with
    | nil => exact absurd hx hr
    | cons => rfl
  have HT := Lib.hid (And.intro t1 t2)
  have HFr := Lib.hid hf
  obtain ⟨c0, c1, _⟩ := reply_cells hE
  clear hE hW2 t1 t2 eu er hu hr hf
  have Z_U : Hid ((ofL (r.up)).size ≤ 1048576) := Lib.hid (by rw [ofL_size]; omega)
  have Z_ON : Hid ((ofL ((onE false r.fields).flatMap lineE)).size ≤ 2199027449856) := Lib.hid (by rw [ofL_size]; omega)
  have Z_J2 : Hid ((ofL (lineE (VIAN, joinV r.fields VIAN BARB))).size ≤ 1099516870658) := Lib.hid (by rw [ofL_size]; omega)
  have Z_DS : Hid ((ofL (decZ r.status)).size ≤ 20) := Lib.hid (by rw [ofL_size]; omega)
  have Z_RS : Hid ((ofL (r.reason)).size ≤ 1048576) := Lib.hid (by rw [ofL_size]; omega)
  clear zON zJ2 zDS zU zR0 hF
  unfold dcells
  generalize decZ r.status = DS at *
  generalize (onE false r.fields).flatMap lineE = ON at *
  generalize lineE (VIAN, joinV r.fields VIAN BARB) = J2 at *
  generalize headE r = RES at *
  have sX10 : 9 + (ofL DS).size ≤ 9223372036854775807 := by have := Z_DS.out; have := Z_RS.out; omega
  have sX11 : 9 + (ofL DS).size + 1 ≤ 9223372036854775807 := by have := Z_DS.out; have := Z_RS.out; omega
  have sX12 : 9 + (ofL DS).size + 1 + (ofL r.reason).size ≤ 9223372036854775807 := by have := Z_DS.out; have := Z_RS.out; omega
  have sX13 : 9 + (ofL DS).size + 1 + (ofL r.reason).size + 2 ≤ 9223372036854775807 := by have := Z_DS.out; have := Z_RS.out; omega
  obtain ⟨X1, hX1⟩ : ∃ X1, X1 = [72, 84, 84, 80, 47, 49, 46, 49, 32] ++ DS ++ [32] ++ r.reason ++ [13, 10] := ⟨_, rfl⟩
  have eX1 : (⟨#[72, 84, 84, 80, 47, 49, 46, 49, 32]⟩ : ByteArray) ++ ofL DS ++ ⟨#[32]⟩ ++ ofL r.reason ++ ⟨#[13, 10]⟩ = ofL X1 := by rw [hX1, show (⟨#[72, 84, 84, 80, 47, 49, 46, 49, 32]⟩ : ByteArray) = ofL [72, 84, 84, 80, 47, 49, 46, 49, 32] from rfl, show (⟨#[32]⟩ : ByteArray) = ofL [32] from rfl, show (⟨#[13, 10]⟩ : ByteArray) = ofL [13, 10] from rfl, str_app, str_app, str_app, str_app]
  have Z_X1 : Hid ((ofL X1).size ≤ 1048608) := Lib.hid (by rw [← eX1]; simp only [ByteArray.size_append]; have := Z_DS.out; have := Z_RS.out; have : (⟨#[72, 84, 84, 80, 47, 49, 46, 49, 32]⟩ : ByteArray).size = 9 := rfl; have : (⟨#[32]⟩ : ByteArray).size = 1 := rfl; have : (⟨#[13, 10]⟩ : ByteArray).size = 2 := rfl; omega)
  have HX1 := Lib.hid hX1
  clear hX1
  have sX20 : (ofL X1).size + (ofL ON).size ≤ 9223372036854775807 := by have := Z_X1.out; have := Z_ON.out; omega
  obtain ⟨X2, hX2⟩ : ∃ X2, X2 = X1 ++ ON := ⟨_, rfl⟩
  have eX2 : ofL X1 ++ ofL ON = ofL X2 := by rw [hX2, str_app]
  have Z_X2 : Hid ((ofL X2).size ≤ 2199028498464) := Lib.hid (by rw [← eX2]; simp only [ByteArray.size_append]; have := Z_X1.out; have := Z_ON.out; omega)
  have HX2 := Lib.hid hX2
  clear hX2
  have sX30 : (ofL X2).size + (ofL J2).size ≤ 9223372036854775807 := by have := Z_X2.out; have := Z_J2.out; omega
  obtain ⟨X3, hX3⟩ : ∃ X3, X3 = X2 ++ J2 := ⟨_, rfl⟩
  have eX3 : ofL X2 ++ ofL J2 = ofL X3 := by rw [hX3, str_app]
  have Z_X3 : Hid ((ofL X3).size ≤ 3298545369122) := Lib.hid (by rw [← eX3]; simp only [ByteArray.size_append]; have := Z_X2.out; have := Z_J2.out; omega)
  have HX3 := Lib.hid hX3
  clear hX3
  have sX40 : (ofL X3).size + 28 ≤ 9223372036854775807 := by have := Z_X3.out; omega
  obtain ⟨X4, hX4⟩ : ∃ X4, X4 = X3 ++ [84, 114, 97, 110, 115, 102, 101, 114, 45, 69, 110, 99, 111, 100, 105, 110, 103, 58, 32, 99, 104, 117, 110, 107, 101, 100, 13, 10] := ⟨_, rfl⟩
  have eX4 : ofL X3 ++ ⟨#[84, 114, 97, 110, 115, 102, 101, 114, 45, 69, 110, 99, 111, 100, 105, 110, 103, 58, 32, 99, 104, 117, 110, 107, 101, 100, 13, 10]⟩ = ofL X4 := by rw [hX4, show (⟨#[84, 114, 97, 110, 115, 102, 101, 114, 45, 69, 110, 99, 111, 100, 105, 110, 103, 58, 32, 99, 104, 117, 110, 107, 101, 100, 13, 10]⟩ : ByteArray) = ofL [84, 114, 97, 110, 115, 102, 101, 114, 45, 69, 110, 99, 111, 100, 105, 110, 103, 58, 32, 99, 104, 117, 110, 107, 101, 100, 13, 10] from rfl, str_app]
  have Z_X4 : Hid ((ofL X4).size ≤ 3298545369150) := Lib.hid (by rw [← eX4]; simp only [ByteArray.size_append]; have := Z_X3.out; have : (⟨#[84, 114, 97, 110, 115, 102, 101, 114, 45, 69, 110, 99, 111, 100, 105, 110, 103, 58, 32, 99, 104, 117, 110, 107, 101, 100, 13, 10]⟩ : ByteArray).size = 28 := rfl; omega)
  have HX4 := Lib.hid hX4
  clear hX4
  have sX60 : (ofL X4).size + 30 ≤ 9223372036854775807 := by have := Z_X4.out; have := Z_U.out; omega
  have sX61 : (ofL X4).size + 30 + (ofL r.up).size ≤ 9223372036854775807 := by have := Z_X4.out; have := Z_U.out; omega
  have sX62 : (ofL X4).size + 30 + (ofL r.up).size + 4 ≤ 9223372036854775807 := by have := Z_X4.out; have := Z_U.out; omega
  obtain ⟨X6, hX6⟩ : ∃ X6, X6 = X4 ++ [67, 111, 110, 110, 101, 99, 116, 105, 111, 110, 58, 32, 117, 112, 103, 114, 97, 100, 101, 13, 10, 85, 112, 103, 114, 97, 100, 101, 58, 32] ++ r.up ++ [13, 10, 13, 10] := ⟨_, rfl⟩
  have eX6 : ofL X4 ++ ⟨#[67, 111, 110, 110, 101, 99, 116, 105, 111, 110, 58, 32, 117, 112, 103, 114, 97, 100, 101, 13, 10, 85, 112, 103, 114, 97, 100, 101, 58, 32]⟩ ++ ofL r.up ++ ⟨#[13, 10, 13, 10]⟩ = ofL X6 := by rw [hX6, show (⟨#[67, 111, 110, 110, 101, 99, 116, 105, 111, 110, 58, 32, 117, 112, 103, 114, 97, 100, 101, 13, 10, 85, 112, 103, 114, 97, 100, 101, 58, 32]⟩ : ByteArray) = ofL [67, 111, 110, 110, 101, 99, 116, 105, 111, 110, 58, 32, 117, 112, 103, 114, 97, 100, 101, 13, 10, 85, 112, 103, 114, 97, 100, 101, 58, 32] from rfl, show (⟨#[13, 10, 13, 10]⟩ : ByteArray) = ofL [13, 10, 13, 10] from rfl, str_app, str_app, str_app]
  have Z_X6 : Hid ((ofL X6).size ≤ 3298546417760) := Lib.hid (by rw [← eX6]; simp only [ByteArray.size_append]; have := Z_X4.out; have := Z_U.out; have : (⟨#[67, 111, 110, 110, 101, 99, 116, 105, 111, 110, 58, 32, 117, 112, 103, 114, 97, 100, 101, 13, 10, 85, 112, 103, 114, 97, 100, 101, 58, 32]⟩ : ByteArray).size = 30 := rfl; have : (⟨#[13, 10, 13, 10]⟩ : ByteArray).size = 4 := rfl; omega)
  have HX6 := Lib.hid hX6
  clear hX6
  have HFin : Hid (RES = X6) := Lib.hid (by rw [HR.out, HX6.out, HX4.out, HX3.out, HX2.out, HX1.out])
  clear HX3 HX2 HX1 HX4 HX6 HR
  go_enter Tryd.func12, Tryd.ntmps12
  iterate 12 go_step
  rw [← HW2.out]
  clear HW2
  go_wp2_with fail
  refine (HDS.out _).mono ?_
  rintro e w2 ⟨rfl, hb⟩
  replace HE := Lib.hid (HE.out.call hb)
  clear hb HDS c0 c1 q1 q2
  obtain ⟨_, _, k2, _, _, _, _⟩ := reply_cells HE.out
  go_wp2_with fail
  refine (HON.out _ HE.out.below).mono ?_
  rintro e w3 ⟨rfl, hb⟩
  replace HE := Lib.hid (HE.out.call hb)
  clear hb HON k2 sX10 sX11 sX12 sX13 eX1
  obtain ⟨_, _, k2, _, _, _, _⟩ := reply_cells HE.out
  go_wp2_with fail
  refine (HJ2.out _ HE.out.below).mono ?_
  rintro e w4 ⟨rfl, hb⟩
  replace HE := Lib.hid (HE.out.call hb)
  clear hb HJ2 k2 sX20 eX2
  have ht1 := HT.out.1
  have ht2 := HT.out.2
  obtain ⟨_, _, _, k3, k4, k5, k6⟩ := reply_cells HE.out
  rw [HFr.out] at k3
  go_wp2_with fail
  go_ret
  exact ⟨ret_string (by rw [HFin.out]), HE.out.below⟩
set_option maxHeartbeats 6400000 in
theorem head_3_keep (r : ReplyP) (vl : Value) (hr : ¬ r.reason = []) (hf : r.framing = 3) (hu : r.up = []) (hk : r.keep = true) (hA : FitR r) (w : World) (hF : FL w vl r.fields) :
    Calls Tryd.prog 12 #[.agg (dcells r vl)] w fun e w' => e = .returned (.string (ofL (headE r))) ∧ Below w.heap.size w w' := by
  have hF0 := hF
  obtain ⟨pl, cl, rfl, _, _⟩ := hF0
  have hE : ∃ W2, W2 = w.alloc (.cells #[.int .i64 r.status, .string (ofL r.reason), .slice pl r.fields.length cl, .int .i64 r.framing, .int .i64 r.length, .bool r.keep, .string (ofL r.up)] RT) ∧ Bx w RT (dcells r (.slice pl r.fields.length cl)) W2 := ⟨_, rfl, Bx.start w RT _⟩
  obtain ⟨W2, hW2, hE⟩ := hE
  have HW2 := Lib.hid hW2
  have HE := Lib.hid hE
  have HON := Lib.hid (fun W (hb : Below w.heap.size w W) => R13On.on_any _ r.fields hA.fields hA.len false W (hF.below hb))
  have HJ2 := Lib.hid (fun W (hb : Below w.heap.size w W) => R13Join.joined_any _ r.fields hA.fields hA.len VIAN BARB (by decide) (by decide) W (hF.below hb))
  have HDS := Lib.hid (fun W => R13Dig.digits_any r.status hA.s0 hA.s1 W)
  have zON := onE_len hA.fields hA.len false
  have zJ2 := join_len hA.fields hA.len VIAN BARB (by decide) (by decide)
  have zDS := decZ_len hA.s0 hA.s1
  have zU := hA.up
  have zR0 := hA.reason
  have HR : Hid (headE r = [72, 84, 84, 80, 47, 49, 46, 49, 32] ++ decZ r.status ++ [32] ++ r.reason ++ [13, 10] ++ (onE false r.fields).flatMap lineE ++ lineE (VIAN, joinV r.fields VIAN BARB) ++ [84, 114, 97, 110, 115, 102, 101, 114, 45, 69, 110, 99, 111, 100, 105, 110, 103, 58, 32, 99, 104, 117, 110, 107, 101, 100, 13, 10] ++ [13, 10]) := Lib.hid (by
    simp [headE, replyF, statusL, lineE, hr, hf, hu, hk, CLN, TEN, CHV, CONN, CLOSEV, UPN, UPV])
  have eu : (ofL r.up).toList = r.up := by rw [ByteArray.toList_eq]; exact toL_ofL _
  have er : (ofL r.reason).toList = r.reason := by rw [ByteArray.toList_eq]; exact toL_ofL _
  have t2 : (ofL r.up).toList = [] := by rw [eu, hu]
  have t1 : (ofL r.up).toList.isEmpty = true := by rw [eu, hu]; rfl
  have q2 : ¬ (ofL r.reason).toList = [] := by rw [er]; exact hr
  have q1 : (ofL r.reason).toList.isEmpty = false := by
    rw [er]
    cases hx : r.reason with
    | nil => exact absurd hx hr
    | cons => rfl
  have HT := Lib.hid (And.intro t1 t2)
  have HFr := Lib.hid hf
  have HK := Lib.hid hk
  obtain ⟨c0, c1, _⟩ := reply_cells hE
  clear hE hW2 t1 t2 eu er hu hr hf hk
  have Z_U : Hid ((ofL (r.up)).size ≤ 1048576) := Lib.hid (by rw [ofL_size]; omega)
  have Z_ON : Hid ((ofL ((onE false r.fields).flatMap lineE)).size ≤ 2199027449856) := Lib.hid (by rw [ofL_size]; omega)
  have Z_J2 : Hid ((ofL (lineE (VIAN, joinV r.fields VIAN BARB))).size ≤ 1099516870658) := Lib.hid (by rw [ofL_size]; omega)
  have Z_DS : Hid ((ofL (decZ r.status)).size ≤ 20) := Lib.hid (by rw [ofL_size]; omega)
  have Z_RS : Hid ((ofL (r.reason)).size ≤ 1048576) := Lib.hid (by rw [ofL_size]; omega)
  clear zON zJ2 zDS zU zR0 hF
  unfold dcells
  generalize decZ r.status = DS at *
  generalize (onE false r.fields).flatMap lineE = ON at *
  generalize lineE (VIAN, joinV r.fields VIAN BARB) = J2 at *
  generalize headE r = RES at *
  have sX10 : 9 + (ofL DS).size ≤ 9223372036854775807 := by have := Z_DS.out; have := Z_RS.out; omega
  have sX11 : 9 + (ofL DS).size + 1 ≤ 9223372036854775807 := by have := Z_DS.out; have := Z_RS.out; omega
  have sX12 : 9 + (ofL DS).size + 1 + (ofL r.reason).size ≤ 9223372036854775807 := by have := Z_DS.out; have := Z_RS.out; omega
  have sX13 : 9 + (ofL DS).size + 1 + (ofL r.reason).size + 2 ≤ 9223372036854775807 := by have := Z_DS.out; have := Z_RS.out; omega
  obtain ⟨X1, hX1⟩ : ∃ X1, X1 = [72, 84, 84, 80, 47, 49, 46, 49, 32] ++ DS ++ [32] ++ r.reason ++ [13, 10] := ⟨_, rfl⟩
  have eX1 : (⟨#[72, 84, 84, 80, 47, 49, 46, 49, 32]⟩ : ByteArray) ++ ofL DS ++ ⟨#[32]⟩ ++ ofL r.reason ++ ⟨#[13, 10]⟩ = ofL X1 := by rw [hX1, show (⟨#[72, 84, 84, 80, 47, 49, 46, 49, 32]⟩ : ByteArray) = ofL [72, 84, 84, 80, 47, 49, 46, 49, 32] from rfl, show (⟨#[32]⟩ : ByteArray) = ofL [32] from rfl, show (⟨#[13, 10]⟩ : ByteArray) = ofL [13, 10] from rfl, str_app, str_app, str_app, str_app]
  have Z_X1 : Hid ((ofL X1).size ≤ 1048608) := Lib.hid (by rw [← eX1]; simp only [ByteArray.size_append]; have := Z_DS.out; have := Z_RS.out; have : (⟨#[72, 84, 84, 80, 47, 49, 46, 49, 32]⟩ : ByteArray).size = 9 := rfl; have : (⟨#[32]⟩ : ByteArray).size = 1 := rfl; have : (⟨#[13, 10]⟩ : ByteArray).size = 2 := rfl; omega)
  have HX1 := Lib.hid hX1
  clear hX1
  have sX20 : (ofL X1).size + (ofL ON).size ≤ 9223372036854775807 := by have := Z_X1.out; have := Z_ON.out; omega
  obtain ⟨X2, hX2⟩ : ∃ X2, X2 = X1 ++ ON := ⟨_, rfl⟩
  have eX2 : ofL X1 ++ ofL ON = ofL X2 := by rw [hX2, str_app]
  have Z_X2 : Hid ((ofL X2).size ≤ 2199028498464) := Lib.hid (by rw [← eX2]; simp only [ByteArray.size_append]; have := Z_X1.out; have := Z_ON.out; omega)
  have HX2 := Lib.hid hX2
  clear hX2
  have sX30 : (ofL X2).size + (ofL J2).size ≤ 9223372036854775807 := by have := Z_X2.out; have := Z_J2.out; omega
  obtain ⟨X3, hX3⟩ : ∃ X3, X3 = X2 ++ J2 := ⟨_, rfl⟩
  have eX3 : ofL X2 ++ ofL J2 = ofL X3 := by rw [hX3, str_app]
  have Z_X3 : Hid ((ofL X3).size ≤ 3298545369122) := Lib.hid (by rw [← eX3]; simp only [ByteArray.size_append]; have := Z_X2.out; have := Z_J2.out; omega)
  have HX3 := Lib.hid hX3
  clear hX3
  have sX40 : (ofL X3).size + 28 ≤ 9223372036854775807 := by have := Z_X3.out; omega
  obtain ⟨X4, hX4⟩ : ∃ X4, X4 = X3 ++ [84, 114, 97, 110, 115, 102, 101, 114, 45, 69, 110, 99, 111, 100, 105, 110, 103, 58, 32, 99, 104, 117, 110, 107, 101, 100, 13, 10] := ⟨_, rfl⟩
  have eX4 : ofL X3 ++ ⟨#[84, 114, 97, 110, 115, 102, 101, 114, 45, 69, 110, 99, 111, 100, 105, 110, 103, 58, 32, 99, 104, 117, 110, 107, 101, 100, 13, 10]⟩ = ofL X4 := by rw [hX4, show (⟨#[84, 114, 97, 110, 115, 102, 101, 114, 45, 69, 110, 99, 111, 100, 105, 110, 103, 58, 32, 99, 104, 117, 110, 107, 101, 100, 13, 10]⟩ : ByteArray) = ofL [84, 114, 97, 110, 115, 102, 101, 114, 45, 69, 110, 99, 111, 100, 105, 110, 103, 58, 32, 99, 104, 117, 110, 107, 101, 100, 13, 10] from rfl, str_app]
  have Z_X4 : Hid ((ofL X4).size ≤ 3298545369150) := Lib.hid (by rw [← eX4]; simp only [ByteArray.size_append]; have := Z_X3.out; have : (⟨#[84, 114, 97, 110, 115, 102, 101, 114, 45, 69, 110, 99, 111, 100, 105, 110, 103, 58, 32, 99, 104, 117, 110, 107, 101, 100, 13, 10]⟩ : ByteArray).size = 28 := rfl; omega)
  have HX4 := Lib.hid hX4
  clear hX4
  have sX60 : (ofL X4).size + 2 ≤ 9223372036854775807 := by have := Z_X4.out; omega
  obtain ⟨X6, hX6⟩ : ∃ X6, X6 = X4 ++ [13, 10] := ⟨_, rfl⟩
  have eX6 : ofL X4 ++ ⟨#[13, 10]⟩ = ofL X6 := by rw [hX6, show (⟨#[13, 10]⟩ : ByteArray) = ofL [13, 10] from rfl, str_app]
  have Z_X6 : Hid ((ofL X6).size ≤ 3298545369152) := Lib.hid (by rw [← eX6]; simp only [ByteArray.size_append]; have := Z_X4.out; have : (⟨#[13, 10]⟩ : ByteArray).size = 2 := rfl; omega)
  have HX6 := Lib.hid hX6
  clear hX6
  have HFin : Hid (RES = X6) := Lib.hid (by rw [HR.out, HX6.out, HX4.out, HX3.out, HX2.out, HX1.out])
  clear HX3 HX2 HX1 HX4 HX6 HR
  go_enter Tryd.func12, Tryd.ntmps12
  iterate 12 go_step
  rw [← HW2.out]
  clear HW2
  go_wp2_with fail
  refine (HDS.out _).mono ?_
  rintro e w2 ⟨rfl, hb⟩
  replace HE := Lib.hid (HE.out.call hb)
  clear hb HDS c0 c1 q1 q2
  obtain ⟨_, _, k2, _, _, _, _⟩ := reply_cells HE.out
  go_wp2_with fail
  refine (HON.out _ HE.out.below).mono ?_
  rintro e w3 ⟨rfl, hb⟩
  replace HE := Lib.hid (HE.out.call hb)
  clear hb HON k2 sX10 sX11 sX12 sX13 eX1
  obtain ⟨_, _, k2, _, _, _, _⟩ := reply_cells HE.out
  go_wp2_with fail
  refine (HJ2.out _ HE.out.below).mono ?_
  rintro e w4 ⟨rfl, hb⟩
  replace HE := Lib.hid (HE.out.call hb)
  clear hb HJ2 k2 sX20 eX2
  have ht1 := HT.out.1
  have ht2 := HT.out.2
  obtain ⟨_, _, _, k3, k4, k5, k6⟩ := reply_cells HE.out
  rw [HFr.out] at k3
  rw [HK.out] at k5
  go_wp2_with fail
  go_ret
  exact ⟨ret_string (by rw [HFin.out]), HE.out.below⟩
set_option maxHeartbeats 6400000 in
theorem head_3_close (r : ReplyP) (vl : Value) (hr : ¬ r.reason = []) (hf : r.framing = 3) (hu : r.up = []) (hk : r.keep = false) (hA : FitR r) (w : World) (hF : FL w vl r.fields) :
    Calls Tryd.prog 12 #[.agg (dcells r vl)] w fun e w' => e = .returned (.string (ofL (headE r))) ∧ Below w.heap.size w w' := by
  have hF0 := hF
  obtain ⟨pl, cl, rfl, _, _⟩ := hF0
  have hE : ∃ W2, W2 = w.alloc (.cells #[.int .i64 r.status, .string (ofL r.reason), .slice pl r.fields.length cl, .int .i64 r.framing, .int .i64 r.length, .bool r.keep, .string (ofL r.up)] RT) ∧ Bx w RT (dcells r (.slice pl r.fields.length cl)) W2 := ⟨_, rfl, Bx.start w RT _⟩
  obtain ⟨W2, hW2, hE⟩ := hE
  have HW2 := Lib.hid hW2
  have HE := Lib.hid hE
  have HON := Lib.hid (fun W (hb : Below w.heap.size w W) => R13On.on_any _ r.fields hA.fields hA.len false W (hF.below hb))
  have HJ2 := Lib.hid (fun W (hb : Below w.heap.size w W) => R13Join.joined_any _ r.fields hA.fields hA.len VIAN BARB (by decide) (by decide) W (hF.below hb))
  have HDS := Lib.hid (fun W => R13Dig.digits_any r.status hA.s0 hA.s1 W)
  have zON := onE_len hA.fields hA.len false
  have zJ2 := join_len hA.fields hA.len VIAN BARB (by decide) (by decide)
  have zDS := decZ_len hA.s0 hA.s1
  have zU := hA.up
  have zR0 := hA.reason
  have HR : Hid (headE r = [72, 84, 84, 80, 47, 49, 46, 49, 32] ++ decZ r.status ++ [32] ++ r.reason ++ [13, 10] ++ (onE false r.fields).flatMap lineE ++ lineE (VIAN, joinV r.fields VIAN BARB) ++ [84, 114, 97, 110, 115, 102, 101, 114, 45, 69, 110, 99, 111, 100, 105, 110, 103, 58, 32, 99, 104, 117, 110, 107, 101, 100, 13, 10] ++ [67, 111, 110, 110, 101, 99, 116, 105, 111, 110, 58, 32, 99, 108, 111, 115, 101, 13, 10] ++ [13, 10]) := Lib.hid (by
    simp [headE, replyF, statusL, lineE, hr, hf, hu, hk, CLN, TEN, CHV, CONN, CLOSEV, UPN, UPV])
  have eu : (ofL r.up).toList = r.up := by rw [ByteArray.toList_eq]; exact toL_ofL _
  have er : (ofL r.reason).toList = r.reason := by rw [ByteArray.toList_eq]; exact toL_ofL _
  have t2 : (ofL r.up).toList = [] := by rw [eu, hu]
  have t1 : (ofL r.up).toList.isEmpty = true := by rw [eu, hu]; rfl
  have q2 : ¬ (ofL r.reason).toList = [] := by rw [er]; exact hr
  have q1 : (ofL r.reason).toList.isEmpty = false := by
    rw [er]
    cases hx : r.reason with
    | nil => exact absurd hx hr
    | cons => rfl
  have HT := Lib.hid (And.intro t1 t2)
  have HFr := Lib.hid hf
  have HK := Lib.hid hk
  obtain ⟨c0, c1, _⟩ := reply_cells hE
  clear hE hW2 t1 t2 eu er hu hr hf hk
  have Z_U : Hid ((ofL (r.up)).size ≤ 1048576) := Lib.hid (by rw [ofL_size]; omega)
  have Z_ON : Hid ((ofL ((onE false r.fields).flatMap lineE)).size ≤ 2199027449856) := Lib.hid (by rw [ofL_size]; omega)
  have Z_J2 : Hid ((ofL (lineE (VIAN, joinV r.fields VIAN BARB))).size ≤ 1099516870658) := Lib.hid (by rw [ofL_size]; omega)
  have Z_DS : Hid ((ofL (decZ r.status)).size ≤ 20) := Lib.hid (by rw [ofL_size]; omega)
  have Z_RS : Hid ((ofL (r.reason)).size ≤ 1048576) := Lib.hid (by rw [ofL_size]; omega)
  clear zON zJ2 zDS zU zR0 hF
  unfold dcells
  generalize decZ r.status = DS at *
  generalize (onE false r.fields).flatMap lineE = ON at *
  generalize lineE (VIAN, joinV r.fields VIAN BARB) = J2 at *
  generalize headE r = RES at *
  have sX10 : 9 + (ofL DS).size ≤ 9223372036854775807 := by have := Z_DS.out; have := Z_RS.out; omega
  have sX11 : 9 + (ofL DS).size + 1 ≤ 9223372036854775807 := by have := Z_DS.out; have := Z_RS.out; omega
  have sX12 : 9 + (ofL DS).size + 1 + (ofL r.reason).size ≤ 9223372036854775807 := by have := Z_DS.out; have := Z_RS.out; omega
  have sX13 : 9 + (ofL DS).size + 1 + (ofL r.reason).size + 2 ≤ 9223372036854775807 := by have := Z_DS.out; have := Z_RS.out; omega
  obtain ⟨X1, hX1⟩ : ∃ X1, X1 = [72, 84, 84, 80, 47, 49, 46, 49, 32] ++ DS ++ [32] ++ r.reason ++ [13, 10] := ⟨_, rfl⟩
  have eX1 : (⟨#[72, 84, 84, 80, 47, 49, 46, 49, 32]⟩ : ByteArray) ++ ofL DS ++ ⟨#[32]⟩ ++ ofL r.reason ++ ⟨#[13, 10]⟩ = ofL X1 := by rw [hX1, show (⟨#[72, 84, 84, 80, 47, 49, 46, 49, 32]⟩ : ByteArray) = ofL [72, 84, 84, 80, 47, 49, 46, 49, 32] from rfl, show (⟨#[32]⟩ : ByteArray) = ofL [32] from rfl, show (⟨#[13, 10]⟩ : ByteArray) = ofL [13, 10] from rfl, str_app, str_app, str_app, str_app]
  have Z_X1 : Hid ((ofL X1).size ≤ 1048608) := Lib.hid (by rw [← eX1]; simp only [ByteArray.size_append]; have := Z_DS.out; have := Z_RS.out; have : (⟨#[72, 84, 84, 80, 47, 49, 46, 49, 32]⟩ : ByteArray).size = 9 := rfl; have : (⟨#[32]⟩ : ByteArray).size = 1 := rfl; have : (⟨#[13, 10]⟩ : ByteArray).size = 2 := rfl; omega)
  have HX1 := Lib.hid hX1
  clear hX1
  have sX20 : (ofL X1).size + (ofL ON).size ≤ 9223372036854775807 := by have := Z_X1.out; have := Z_ON.out; omega
  obtain ⟨X2, hX2⟩ : ∃ X2, X2 = X1 ++ ON := ⟨_, rfl⟩
  have eX2 : ofL X1 ++ ofL ON = ofL X2 := by rw [hX2, str_app]
  have Z_X2 : Hid ((ofL X2).size ≤ 2199028498464) := Lib.hid (by rw [← eX2]; simp only [ByteArray.size_append]; have := Z_X1.out; have := Z_ON.out; omega)
  have HX2 := Lib.hid hX2
  clear hX2
  have sX30 : (ofL X2).size + (ofL J2).size ≤ 9223372036854775807 := by have := Z_X2.out; have := Z_J2.out; omega
  obtain ⟨X3, hX3⟩ : ∃ X3, X3 = X2 ++ J2 := ⟨_, rfl⟩
  have eX3 : ofL X2 ++ ofL J2 = ofL X3 := by rw [hX3, str_app]
  have Z_X3 : Hid ((ofL X3).size ≤ 3298545369122) := Lib.hid (by rw [← eX3]; simp only [ByteArray.size_append]; have := Z_X2.out; have := Z_J2.out; omega)
  have HX3 := Lib.hid hX3
  clear hX3
  have sX40 : (ofL X3).size + 28 ≤ 9223372036854775807 := by have := Z_X3.out; omega
  obtain ⟨X4, hX4⟩ : ∃ X4, X4 = X3 ++ [84, 114, 97, 110, 115, 102, 101, 114, 45, 69, 110, 99, 111, 100, 105, 110, 103, 58, 32, 99, 104, 117, 110, 107, 101, 100, 13, 10] := ⟨_, rfl⟩
  have eX4 : ofL X3 ++ ⟨#[84, 114, 97, 110, 115, 102, 101, 114, 45, 69, 110, 99, 111, 100, 105, 110, 103, 58, 32, 99, 104, 117, 110, 107, 101, 100, 13, 10]⟩ = ofL X4 := by rw [hX4, show (⟨#[84, 114, 97, 110, 115, 102, 101, 114, 45, 69, 110, 99, 111, 100, 105, 110, 103, 58, 32, 99, 104, 117, 110, 107, 101, 100, 13, 10]⟩ : ByteArray) = ofL [84, 114, 97, 110, 115, 102, 101, 114, 45, 69, 110, 99, 111, 100, 105, 110, 103, 58, 32, 99, 104, 117, 110, 107, 101, 100, 13, 10] from rfl, str_app]
  have Z_X4 : Hid ((ofL X4).size ≤ 3298545369150) := Lib.hid (by rw [← eX4]; simp only [ByteArray.size_append]; have := Z_X3.out; have : (⟨#[84, 114, 97, 110, 115, 102, 101, 114, 45, 69, 110, 99, 111, 100, 105, 110, 103, 58, 32, 99, 104, 117, 110, 107, 101, 100, 13, 10]⟩ : ByteArray).size = 28 := rfl; omega)
  have HX4 := Lib.hid hX4
  clear hX4
  have sX50 : (ofL X4).size + 19 ≤ 9223372036854775807 := by have := Z_X4.out; omega
  obtain ⟨X5, hX5⟩ : ∃ X5, X5 = X4 ++ [67, 111, 110, 110, 101, 99, 116, 105, 111, 110, 58, 32, 99, 108, 111, 115, 101, 13, 10] := ⟨_, rfl⟩
  have eX5 : ofL X4 ++ ⟨#[67, 111, 110, 110, 101, 99, 116, 105, 111, 110, 58, 32, 99, 108, 111, 115, 101, 13, 10]⟩ = ofL X5 := by rw [hX5, show (⟨#[67, 111, 110, 110, 101, 99, 116, 105, 111, 110, 58, 32, 99, 108, 111, 115, 101, 13, 10]⟩ : ByteArray) = ofL [67, 111, 110, 110, 101, 99, 116, 105, 111, 110, 58, 32, 99, 108, 111, 115, 101, 13, 10] from rfl, str_app]
  have Z_X5 : Hid ((ofL X5).size ≤ 3298545369169) := Lib.hid (by rw [← eX5]; simp only [ByteArray.size_append]; have := Z_X4.out; have : (⟨#[67, 111, 110, 110, 101, 99, 116, 105, 111, 110, 58, 32, 99, 108, 111, 115, 101, 13, 10]⟩ : ByteArray).size = 19 := rfl; omega)
  have HX5 := Lib.hid hX5
  clear hX5
  have sX60 : (ofL X5).size + 2 ≤ 9223372036854775807 := by have := Z_X5.out; omega
  obtain ⟨X6, hX6⟩ : ∃ X6, X6 = X5 ++ [13, 10] := ⟨_, rfl⟩
  have eX6 : ofL X5 ++ ⟨#[13, 10]⟩ = ofL X6 := by rw [hX6, show (⟨#[13, 10]⟩ : ByteArray) = ofL [13, 10] from rfl, str_app]
  have Z_X6 : Hid ((ofL X6).size ≤ 3298545369171) := Lib.hid (by rw [← eX6]; simp only [ByteArray.size_append]; have := Z_X5.out; have : (⟨#[13, 10]⟩ : ByteArray).size = 2 := rfl; omega)
  have HX6 := Lib.hid hX6
  clear hX6
  have HFin : Hid (RES = X6) := Lib.hid (by rw [HR.out, HX6.out, HX5.out, HX4.out, HX3.out, HX2.out, HX1.out])
  clear HX3 HX2 HX1 HX4 HX5 HX6 HR
  go_enter Tryd.func12, Tryd.ntmps12
  iterate 12 go_step
  rw [← HW2.out]
  clear HW2
  go_wp2_with fail
  refine (HDS.out _).mono ?_
  rintro e w2 ⟨rfl, hb⟩
  replace HE := Lib.hid (HE.out.call hb)
  clear hb HDS c0 c1 q1 q2
  obtain ⟨_, _, k2, _, _, _, _⟩ := reply_cells HE.out
  go_wp2_with fail
  refine (HON.out _ HE.out.below).mono ?_
  rintro e w3 ⟨rfl, hb⟩
  replace HE := Lib.hid (HE.out.call hb)
  clear hb HON k2 sX10 sX11 sX12 sX13 eX1
  obtain ⟨_, _, k2, _, _, _, _⟩ := reply_cells HE.out
  go_wp2_with fail
  refine (HJ2.out _ HE.out.below).mono ?_
  rintro e w4 ⟨rfl, hb⟩
  replace HE := Lib.hid (HE.out.call hb)
  clear hb HJ2 k2 sX20 eX2
  have ht1 := HT.out.1
  have ht2 := HT.out.2
  obtain ⟨_, _, _, k3, k4, k5, k6⟩ := reply_cells HE.out
  rw [HFr.out] at k3
  rw [HK.out] at k5
  go_wp2_with fail
  go_ret
  exact ⟨ret_string (by rw [HFin.out]), HE.out.below⟩
set_option maxHeartbeats 6400000 in
theorem head_0_up (r : ReplyP) (vl : Value) (hr : ¬ r.reason = []) (hf : ¬ r.framing = 2 ∧ ¬ r.framing = 3) (hu : ¬ r.up = []) (hA : FitR r) (w : World) (hF : FL w vl r.fields) :
    Calls Tryd.prog 12 #[.agg (dcells r vl)] w fun e w' => e = .returned (.string (ofL (headE r))) ∧ Below w.heap.size w w' := by
  have hF0 := hF
  obtain ⟨pl, cl, rfl, _, _⟩ := hF0
  have hE : ∃ W2, W2 = w.alloc (.cells #[.int .i64 r.status, .string (ofL r.reason), .slice pl r.fields.length cl, .int .i64 r.framing, .int .i64 r.length, .bool r.keep, .string (ofL r.up)] RT) ∧ Bx w RT (dcells r (.slice pl r.fields.length cl)) W2 := ⟨_, rfl, Bx.start w RT _⟩
  obtain ⟨W2, hW2, hE⟩ := hE
  have HW2 := Lib.hid hW2
  have HE := Lib.hid hE
  have HON := Lib.hid (fun W (hb : Below w.heap.size w W) => R13On.on_any _ r.fields hA.fields hA.len false W (hF.below hb))
  have HJ2 := Lib.hid (fun W (hb : Below w.heap.size w W) => R13Join.joined_any _ r.fields hA.fields hA.len VIAN BARB (by decide) (by decide) W (hF.below hb))
  have HDS := Lib.hid (fun W => R13Dig.digits_any r.status hA.s0 hA.s1 W)
  have zON := onE_len hA.fields hA.len false
  have zJ2 := join_len hA.fields hA.len VIAN BARB (by decide) (by decide)
  have zDS := decZ_len hA.s0 hA.s1
  have zU := hA.up
  have zR0 := hA.reason
  have HR : Hid (headE r = [72, 84, 84, 80, 47, 49, 46, 49, 32] ++ decZ r.status ++ [32] ++ r.reason ++ [13, 10] ++ (onE false r.fields).flatMap lineE ++ lineE (VIAN, joinV r.fields VIAN BARB) ++ [67, 111, 110, 110, 101, 99, 116, 105, 111, 110, 58, 32, 117, 112, 103, 114, 97, 100, 101, 13, 10, 85, 112, 103, 114, 97, 100, 101, 58, 32] ++ r.up ++ [13, 10, 13, 10]) := Lib.hid (by
    simp [headE, replyF, statusL, lineE, hr, hf.1, hf.2, hu, CLN, TEN, CHV, CONN, CLOSEV, UPN, UPV])
  have eu : (ofL r.up).toList = r.up := by rw [ByteArray.toList_eq]; exact toL_ofL _
  have er : (ofL r.reason).toList = r.reason := by rw [ByteArray.toList_eq]; exact toL_ofL _
  have t2 : ¬ (ofL r.up).toList = [] := by rw [eu]; exact hu
  have t1 : (ofL r.up).toList.isEmpty = false := by
    rw [eu]
    cases hx : r.up with
    | nil => exact absurd hx hu
    | cons => rfl
  have q2 : ¬ (ofL r.reason).toList = [] := by rw [er]; exact hr
  have q1 : (ofL r.reason).toList.isEmpty = false := by
    rw [er]
    cases hx : r.reason with
    | nil => exact absurd hx hr
    | cons => rfl
  have HT := Lib.hid (And.intro t1 t2)
  have HFr := Lib.hid hf
  obtain ⟨c0, c1, _⟩ := reply_cells hE
  clear hE hW2 t1 t2 eu er hu hr hf
  have Z_U : Hid ((ofL (r.up)).size ≤ 1048576) := Lib.hid (by rw [ofL_size]; omega)
  have Z_ON : Hid ((ofL ((onE false r.fields).flatMap lineE)).size ≤ 2199027449856) := Lib.hid (by rw [ofL_size]; omega)
  have Z_J2 : Hid ((ofL (lineE (VIAN, joinV r.fields VIAN BARB))).size ≤ 1099516870658) := Lib.hid (by rw [ofL_size]; omega)
  have Z_DS : Hid ((ofL (decZ r.status)).size ≤ 20) := Lib.hid (by rw [ofL_size]; omega)
  have Z_RS : Hid ((ofL (r.reason)).size ≤ 1048576) := Lib.hid (by rw [ofL_size]; omega)
  clear zON zJ2 zDS zU zR0 hF
  unfold dcells
  generalize decZ r.status = DS at *
  generalize (onE false r.fields).flatMap lineE = ON at *
  generalize lineE (VIAN, joinV r.fields VIAN BARB) = J2 at *
  generalize headE r = RES at *
  have sX10 : 9 + (ofL DS).size ≤ 9223372036854775807 := by have := Z_DS.out; have := Z_RS.out; omega
  have sX11 : 9 + (ofL DS).size + 1 ≤ 9223372036854775807 := by have := Z_DS.out; have := Z_RS.out; omega
  have sX12 : 9 + (ofL DS).size + 1 + (ofL r.reason).size ≤ 9223372036854775807 := by have := Z_DS.out; have := Z_RS.out; omega
  have sX13 : 9 + (ofL DS).size + 1 + (ofL r.reason).size + 2 ≤ 9223372036854775807 := by have := Z_DS.out; have := Z_RS.out; omega
  obtain ⟨X1, hX1⟩ : ∃ X1, X1 = [72, 84, 84, 80, 47, 49, 46, 49, 32] ++ DS ++ [32] ++ r.reason ++ [13, 10] := ⟨_, rfl⟩
  have eX1 : (⟨#[72, 84, 84, 80, 47, 49, 46, 49, 32]⟩ : ByteArray) ++ ofL DS ++ ⟨#[32]⟩ ++ ofL r.reason ++ ⟨#[13, 10]⟩ = ofL X1 := by rw [hX1, show (⟨#[72, 84, 84, 80, 47, 49, 46, 49, 32]⟩ : ByteArray) = ofL [72, 84, 84, 80, 47, 49, 46, 49, 32] from rfl, show (⟨#[32]⟩ : ByteArray) = ofL [32] from rfl, show (⟨#[13, 10]⟩ : ByteArray) = ofL [13, 10] from rfl, str_app, str_app, str_app, str_app]
  have Z_X1 : Hid ((ofL X1).size ≤ 1048608) := Lib.hid (by rw [← eX1]; simp only [ByteArray.size_append]; have := Z_DS.out; have := Z_RS.out; have : (⟨#[72, 84, 84, 80, 47, 49, 46, 49, 32]⟩ : ByteArray).size = 9 := rfl; have : (⟨#[32]⟩ : ByteArray).size = 1 := rfl; have : (⟨#[13, 10]⟩ : ByteArray).size = 2 := rfl; omega)
  have HX1 := Lib.hid hX1
  clear hX1
  have sX20 : (ofL X1).size + (ofL ON).size ≤ 9223372036854775807 := by have := Z_X1.out; have := Z_ON.out; omega
  obtain ⟨X2, hX2⟩ : ∃ X2, X2 = X1 ++ ON := ⟨_, rfl⟩
  have eX2 : ofL X1 ++ ofL ON = ofL X2 := by rw [hX2, str_app]
  have Z_X2 : Hid ((ofL X2).size ≤ 2199028498464) := Lib.hid (by rw [← eX2]; simp only [ByteArray.size_append]; have := Z_X1.out; have := Z_ON.out; omega)
  have HX2 := Lib.hid hX2
  clear hX2
  have sX30 : (ofL X2).size + (ofL J2).size ≤ 9223372036854775807 := by have := Z_X2.out; have := Z_J2.out; omega
  obtain ⟨X3, hX3⟩ : ∃ X3, X3 = X2 ++ J2 := ⟨_, rfl⟩
  have eX3 : ofL X2 ++ ofL J2 = ofL X3 := by rw [hX3, str_app]
  have Z_X3 : Hid ((ofL X3).size ≤ 3298545369122) := Lib.hid (by rw [← eX3]; simp only [ByteArray.size_append]; have := Z_X2.out; have := Z_J2.out; omega)
  have HX3 := Lib.hid hX3
  clear hX3
  have sX60 : (ofL X3).size + 30 ≤ 9223372036854775807 := by have := Z_X3.out; have := Z_U.out; omega
  have sX61 : (ofL X3).size + 30 + (ofL r.up).size ≤ 9223372036854775807 := by have := Z_X3.out; have := Z_U.out; omega
  have sX62 : (ofL X3).size + 30 + (ofL r.up).size + 4 ≤ 9223372036854775807 := by have := Z_X3.out; have := Z_U.out; omega
  obtain ⟨X6, hX6⟩ : ∃ X6, X6 = X3 ++ [67, 111, 110, 110, 101, 99, 116, 105, 111, 110, 58, 32, 117, 112, 103, 114, 97, 100, 101, 13, 10, 85, 112, 103, 114, 97, 100, 101, 58, 32] ++ r.up ++ [13, 10, 13, 10] := ⟨_, rfl⟩
  have eX6 : ofL X3 ++ ⟨#[67, 111, 110, 110, 101, 99, 116, 105, 111, 110, 58, 32, 117, 112, 103, 114, 97, 100, 101, 13, 10, 85, 112, 103, 114, 97, 100, 101, 58, 32]⟩ ++ ofL r.up ++ ⟨#[13, 10, 13, 10]⟩ = ofL X6 := by rw [hX6, show (⟨#[67, 111, 110, 110, 101, 99, 116, 105, 111, 110, 58, 32, 117, 112, 103, 114, 97, 100, 101, 13, 10, 85, 112, 103, 114, 97, 100, 101, 58, 32]⟩ : ByteArray) = ofL [67, 111, 110, 110, 101, 99, 116, 105, 111, 110, 58, 32, 117, 112, 103, 114, 97, 100, 101, 13, 10, 85, 112, 103, 114, 97, 100, 101, 58, 32] from rfl, show (⟨#[13, 10, 13, 10]⟩ : ByteArray) = ofL [13, 10, 13, 10] from rfl, str_app, str_app, str_app]
  have Z_X6 : Hid ((ofL X6).size ≤ 3298546417732) := Lib.hid (by rw [← eX6]; simp only [ByteArray.size_append]; have := Z_X3.out; have := Z_U.out; have : (⟨#[67, 111, 110, 110, 101, 99, 116, 105, 111, 110, 58, 32, 117, 112, 103, 114, 97, 100, 101, 13, 10, 85, 112, 103, 114, 97, 100, 101, 58, 32]⟩ : ByteArray).size = 30 := rfl; have : (⟨#[13, 10, 13, 10]⟩ : ByteArray).size = 4 := rfl; omega)
  have HX6 := Lib.hid hX6
  clear hX6
  have HFin : Hid (RES = X6) := Lib.hid (by rw [HR.out, HX6.out, HX3.out, HX2.out, HX1.out])
  clear HX3 HX2 HX1 HX6 HR
  go_enter Tryd.func12, Tryd.ntmps12
  iterate 12 go_step
  rw [← HW2.out]
  clear HW2
  go_wp2_with fail
  refine (HDS.out _).mono ?_
  rintro e w2 ⟨rfl, hb⟩
  replace HE := Lib.hid (HE.out.call hb)
  clear hb HDS c0 c1 q1 q2
  obtain ⟨_, _, k2, _, _, _, _⟩ := reply_cells HE.out
  go_wp2_with fail
  refine (HON.out _ HE.out.below).mono ?_
  rintro e w3 ⟨rfl, hb⟩
  replace HE := Lib.hid (HE.out.call hb)
  clear hb HON k2 sX10 sX11 sX12 sX13 eX1
  obtain ⟨_, _, k2, _, _, _, _⟩ := reply_cells HE.out
  go_wp2_with fail
  refine (HJ2.out _ HE.out.below).mono ?_
  rintro e w4 ⟨rfl, hb⟩
  replace HE := Lib.hid (HE.out.call hb)
  clear hb HJ2 k2 sX20 eX2
  have ht1 := HT.out.1
  have ht2 := HT.out.2
  obtain ⟨_, _, _, k3, k4, k5, k6⟩ := reply_cells HE.out
  have f1 : (r.framing == 2) = false := beq_eq_false_iff_ne.2 HFr.out.1
  have f2 : (r.framing == 3) = false := beq_eq_false_iff_ne.2 HFr.out.2
  have f3 : ¬ r.framing = 2 := HFr.out.1
  have f4 : ¬ r.framing = 3 := HFr.out.2
  go_wp2_with fail
  go_ret
  exact ⟨ret_string (by rw [HFin.out]), HE.out.below⟩
set_option maxHeartbeats 6400000 in
theorem head_0_keep (r : ReplyP) (vl : Value) (hr : ¬ r.reason = []) (hf : ¬ r.framing = 2 ∧ ¬ r.framing = 3) (hu : r.up = []) (hk : r.keep = true) (hA : FitR r) (w : World) (hF : FL w vl r.fields) :
    Calls Tryd.prog 12 #[.agg (dcells r vl)] w fun e w' => e = .returned (.string (ofL (headE r))) ∧ Below w.heap.size w w' := by
  have hF0 := hF
  obtain ⟨pl, cl, rfl, _, _⟩ := hF0
  have hE : ∃ W2, W2 = w.alloc (.cells #[.int .i64 r.status, .string (ofL r.reason), .slice pl r.fields.length cl, .int .i64 r.framing, .int .i64 r.length, .bool r.keep, .string (ofL r.up)] RT) ∧ Bx w RT (dcells r (.slice pl r.fields.length cl)) W2 := ⟨_, rfl, Bx.start w RT _⟩
  obtain ⟨W2, hW2, hE⟩ := hE
  have HW2 := Lib.hid hW2
  have HE := Lib.hid hE
  have HON := Lib.hid (fun W (hb : Below w.heap.size w W) => R13On.on_any _ r.fields hA.fields hA.len false W (hF.below hb))
  have HJ2 := Lib.hid (fun W (hb : Below w.heap.size w W) => R13Join.joined_any _ r.fields hA.fields hA.len VIAN BARB (by decide) (by decide) W (hF.below hb))
  have HDS := Lib.hid (fun W => R13Dig.digits_any r.status hA.s0 hA.s1 W)
  have zON := onE_len hA.fields hA.len false
  have zJ2 := join_len hA.fields hA.len VIAN BARB (by decide) (by decide)
  have zDS := decZ_len hA.s0 hA.s1
  have zU := hA.up
  have zR0 := hA.reason
  have HR : Hid (headE r = [72, 84, 84, 80, 47, 49, 46, 49, 32] ++ decZ r.status ++ [32] ++ r.reason ++ [13, 10] ++ (onE false r.fields).flatMap lineE ++ lineE (VIAN, joinV r.fields VIAN BARB) ++ [13, 10]) := Lib.hid (by
    simp [headE, replyF, statusL, lineE, hr, hf.1, hf.2, hu, hk, CLN, TEN, CHV, CONN, CLOSEV, UPN, UPV])
  have eu : (ofL r.up).toList = r.up := by rw [ByteArray.toList_eq]; exact toL_ofL _
  have er : (ofL r.reason).toList = r.reason := by rw [ByteArray.toList_eq]; exact toL_ofL _
  have t2 : (ofL r.up).toList = [] := by rw [eu, hu]
  have t1 : (ofL r.up).toList.isEmpty = true := by rw [eu, hu]; rfl
  have q2 : ¬ (ofL r.reason).toList = [] := by rw [er]; exact hr
  have q1 : (ofL r.reason).toList.isEmpty = false := by
    rw [er]
    cases hx : r.reason with
    | nil => exact absurd hx hr
    | cons => rfl
  have HT := Lib.hid (And.intro t1 t2)
  have HFr := Lib.hid hf
  have HK := Lib.hid hk
  obtain ⟨c0, c1, _⟩ := reply_cells hE
  clear hE hW2 t1 t2 eu er hu hr hf hk
  have Z_U : Hid ((ofL (r.up)).size ≤ 1048576) := Lib.hid (by rw [ofL_size]; omega)
  have Z_ON : Hid ((ofL ((onE false r.fields).flatMap lineE)).size ≤ 2199027449856) := Lib.hid (by rw [ofL_size]; omega)
  have Z_J2 : Hid ((ofL (lineE (VIAN, joinV r.fields VIAN BARB))).size ≤ 1099516870658) := Lib.hid (by rw [ofL_size]; omega)
  have Z_DS : Hid ((ofL (decZ r.status)).size ≤ 20) := Lib.hid (by rw [ofL_size]; omega)
  have Z_RS : Hid ((ofL (r.reason)).size ≤ 1048576) := Lib.hid (by rw [ofL_size]; omega)
  clear zON zJ2 zDS zU zR0 hF
  unfold dcells
  generalize decZ r.status = DS at *
  generalize (onE false r.fields).flatMap lineE = ON at *
  generalize lineE (VIAN, joinV r.fields VIAN BARB) = J2 at *
  generalize headE r = RES at *
  have sX10 : 9 + (ofL DS).size ≤ 9223372036854775807 := by have := Z_DS.out; have := Z_RS.out; omega
  have sX11 : 9 + (ofL DS).size + 1 ≤ 9223372036854775807 := by have := Z_DS.out; have := Z_RS.out; omega
  have sX12 : 9 + (ofL DS).size + 1 + (ofL r.reason).size ≤ 9223372036854775807 := by have := Z_DS.out; have := Z_RS.out; omega
  have sX13 : 9 + (ofL DS).size + 1 + (ofL r.reason).size + 2 ≤ 9223372036854775807 := by have := Z_DS.out; have := Z_RS.out; omega
  obtain ⟨X1, hX1⟩ : ∃ X1, X1 = [72, 84, 84, 80, 47, 49, 46, 49, 32] ++ DS ++ [32] ++ r.reason ++ [13, 10] := ⟨_, rfl⟩
  have eX1 : (⟨#[72, 84, 84, 80, 47, 49, 46, 49, 32]⟩ : ByteArray) ++ ofL DS ++ ⟨#[32]⟩ ++ ofL r.reason ++ ⟨#[13, 10]⟩ = ofL X1 := by rw [hX1, show (⟨#[72, 84, 84, 80, 47, 49, 46, 49, 32]⟩ : ByteArray) = ofL [72, 84, 84, 80, 47, 49, 46, 49, 32] from rfl, show (⟨#[32]⟩ : ByteArray) = ofL [32] from rfl, show (⟨#[13, 10]⟩ : ByteArray) = ofL [13, 10] from rfl, str_app, str_app, str_app, str_app]
  have Z_X1 : Hid ((ofL X1).size ≤ 1048608) := Lib.hid (by rw [← eX1]; simp only [ByteArray.size_append]; have := Z_DS.out; have := Z_RS.out; have : (⟨#[72, 84, 84, 80, 47, 49, 46, 49, 32]⟩ : ByteArray).size = 9 := rfl; have : (⟨#[32]⟩ : ByteArray).size = 1 := rfl; have : (⟨#[13, 10]⟩ : ByteArray).size = 2 := rfl; omega)
  have HX1 := Lib.hid hX1
  clear hX1
  have sX20 : (ofL X1).size + (ofL ON).size ≤ 9223372036854775807 := by have := Z_X1.out; have := Z_ON.out; omega
  obtain ⟨X2, hX2⟩ : ∃ X2, X2 = X1 ++ ON := ⟨_, rfl⟩
  have eX2 : ofL X1 ++ ofL ON = ofL X2 := by rw [hX2, str_app]
  have Z_X2 : Hid ((ofL X2).size ≤ 2199028498464) := Lib.hid (by rw [← eX2]; simp only [ByteArray.size_append]; have := Z_X1.out; have := Z_ON.out; omega)
  have HX2 := Lib.hid hX2
  clear hX2
  have sX30 : (ofL X2).size + (ofL J2).size ≤ 9223372036854775807 := by have := Z_X2.out; have := Z_J2.out; omega
  obtain ⟨X3, hX3⟩ : ∃ X3, X3 = X2 ++ J2 := ⟨_, rfl⟩
  have eX3 : ofL X2 ++ ofL J2 = ofL X3 := by rw [hX3, str_app]
  have Z_X3 : Hid ((ofL X3).size ≤ 3298545369122) := Lib.hid (by rw [← eX3]; simp only [ByteArray.size_append]; have := Z_X2.out; have := Z_J2.out; omega)
  have HX3 := Lib.hid hX3
  clear hX3
  have sX60 : (ofL X3).size + 2 ≤ 9223372036854775807 := by have := Z_X3.out; omega
  obtain ⟨X6, hX6⟩ : ∃ X6, X6 = X3 ++ [13, 10] := ⟨_, rfl⟩
  have eX6 : ofL X3 ++ ⟨#[13, 10]⟩ = ofL X6 := by rw [hX6, show (⟨#[13, 10]⟩ : ByteArray) = ofL [13, 10] from rfl, str_app]
  have Z_X6 : Hid ((ofL X6).size ≤ 3298545369124) := Lib.hid (by rw [← eX6]; simp only [ByteArray.size_append]; have := Z_X3.out; have : (⟨#[13, 10]⟩ : ByteArray).size = 2 := rfl; omega)
  have HX6 := Lib.hid hX6
  clear hX6
  have HFin : Hid (RES = X6) := Lib.hid (by rw [HR.out, HX6.out, HX3.out, HX2.out, HX1.out])
  clear HX3 HX2 HX1 HX6 HR
  go_enter Tryd.func12, Tryd.ntmps12
  iterate 12 go_step
  rw [← HW2.out]
  clear HW2
  go_wp2_with fail
  refine (HDS.out _).mono ?_
  rintro e w2 ⟨rfl, hb⟩
  replace HE := Lib.hid (HE.out.call hb)
  clear hb HDS c0 c1 q1 q2
  obtain ⟨_, _, k2, _, _, _, _⟩ := reply_cells HE.out
  go_wp2_with fail
  refine (HON.out _ HE.out.below).mono ?_
  rintro e w3 ⟨rfl, hb⟩
  replace HE := Lib.hid (HE.out.call hb)
  clear hb HON k2 sX10 sX11 sX12 sX13 eX1
  obtain ⟨_, _, k2, _, _, _, _⟩ := reply_cells HE.out
  go_wp2_with fail
  refine (HJ2.out _ HE.out.below).mono ?_
  rintro e w4 ⟨rfl, hb⟩
  replace HE := Lib.hid (HE.out.call hb)
  clear hb HJ2 k2 sX20 eX2
  have ht1 := HT.out.1
  have ht2 := HT.out.2
  obtain ⟨_, _, _, k3, k4, k5, k6⟩ := reply_cells HE.out
  have f1 : (r.framing == 2) = false := beq_eq_false_iff_ne.2 HFr.out.1
  have f2 : (r.framing == 3) = false := beq_eq_false_iff_ne.2 HFr.out.2
  have f3 : ¬ r.framing = 2 := HFr.out.1
  have f4 : ¬ r.framing = 3 := HFr.out.2
  rw [HK.out] at k5
  go_wp2_with fail
  go_ret
  exact ⟨ret_string (by rw [HFin.out]), HE.out.below⟩
set_option maxHeartbeats 6400000 in
theorem head_0_close (r : ReplyP) (vl : Value) (hr : ¬ r.reason = []) (hf : ¬ r.framing = 2 ∧ ¬ r.framing = 3) (hu : r.up = []) (hk : r.keep = false) (hA : FitR r) (w : World) (hF : FL w vl r.fields) :
    Calls Tryd.prog 12 #[.agg (dcells r vl)] w fun e w' => e = .returned (.string (ofL (headE r))) ∧ Below w.heap.size w w' := by
  have hF0 := hF
  obtain ⟨pl, cl, rfl, _, _⟩ := hF0
  have hE : ∃ W2, W2 = w.alloc (.cells #[.int .i64 r.status, .string (ofL r.reason), .slice pl r.fields.length cl, .int .i64 r.framing, .int .i64 r.length, .bool r.keep, .string (ofL r.up)] RT) ∧ Bx w RT (dcells r (.slice pl r.fields.length cl)) W2 := ⟨_, rfl, Bx.start w RT _⟩
  obtain ⟨W2, hW2, hE⟩ := hE
  have HW2 := Lib.hid hW2
  have HE := Lib.hid hE
  have HON := Lib.hid (fun W (hb : Below w.heap.size w W) => R13On.on_any _ r.fields hA.fields hA.len false W (hF.below hb))
  have HJ2 := Lib.hid (fun W (hb : Below w.heap.size w W) => R13Join.joined_any _ r.fields hA.fields hA.len VIAN BARB (by decide) (by decide) W (hF.below hb))
  have HDS := Lib.hid (fun W => R13Dig.digits_any r.status hA.s0 hA.s1 W)
  have zON := onE_len hA.fields hA.len false
  have zJ2 := join_len hA.fields hA.len VIAN BARB (by decide) (by decide)
  have zDS := decZ_len hA.s0 hA.s1
  have zU := hA.up
  have zR0 := hA.reason
  have HR : Hid (headE r = [72, 84, 84, 80, 47, 49, 46, 49, 32] ++ decZ r.status ++ [32] ++ r.reason ++ [13, 10] ++ (onE false r.fields).flatMap lineE ++ lineE (VIAN, joinV r.fields VIAN BARB) ++ [67, 111, 110, 110, 101, 99, 116, 105, 111, 110, 58, 32, 99, 108, 111, 115, 101, 13, 10] ++ [13, 10]) := Lib.hid (by
    simp [headE, replyF, statusL, lineE, hr, hf.1, hf.2, hu, hk, CLN, TEN, CHV, CONN, CLOSEV, UPN, UPV])
  have eu : (ofL r.up).toList = r.up := by rw [ByteArray.toList_eq]; exact toL_ofL _
  have er : (ofL r.reason).toList = r.reason := by rw [ByteArray.toList_eq]; exact toL_ofL _
  have t2 : (ofL r.up).toList = [] := by rw [eu, hu]
  have t1 : (ofL r.up).toList.isEmpty = true := by rw [eu, hu]; rfl
  have q2 : ¬ (ofL r.reason).toList = [] := by rw [er]; exact hr
  have q1 : (ofL r.reason).toList.isEmpty = false := by
    rw [er]
    cases hx : r.reason with
    | nil => exact absurd hx hr
    | cons => rfl
  have HT := Lib.hid (And.intro t1 t2)
  have HFr := Lib.hid hf
  have HK := Lib.hid hk
  obtain ⟨c0, c1, _⟩ := reply_cells hE
  clear hE hW2 t1 t2 eu er hu hr hf hk
  have Z_U : Hid ((ofL (r.up)).size ≤ 1048576) := Lib.hid (by rw [ofL_size]; omega)
  have Z_ON : Hid ((ofL ((onE false r.fields).flatMap lineE)).size ≤ 2199027449856) := Lib.hid (by rw [ofL_size]; omega)
  have Z_J2 : Hid ((ofL (lineE (VIAN, joinV r.fields VIAN BARB))).size ≤ 1099516870658) := Lib.hid (by rw [ofL_size]; omega)
  have Z_DS : Hid ((ofL (decZ r.status)).size ≤ 20) := Lib.hid (by rw [ofL_size]; omega)
  have Z_RS : Hid ((ofL (r.reason)).size ≤ 1048576) := Lib.hid (by rw [ofL_size]; omega)
  clear zON zJ2 zDS zU zR0 hF
  unfold dcells
  generalize decZ r.status = DS at *
  generalize (onE false r.fields).flatMap lineE = ON at *
  generalize lineE (VIAN, joinV r.fields VIAN BARB) = J2 at *
  generalize headE r = RES at *
  have sX10 : 9 + (ofL DS).size ≤ 9223372036854775807 := by have := Z_DS.out; have := Z_RS.out; omega
  have sX11 : 9 + (ofL DS).size + 1 ≤ 9223372036854775807 := by have := Z_DS.out; have := Z_RS.out; omega
  have sX12 : 9 + (ofL DS).size + 1 + (ofL r.reason).size ≤ 9223372036854775807 := by have := Z_DS.out; have := Z_RS.out; omega
  have sX13 : 9 + (ofL DS).size + 1 + (ofL r.reason).size + 2 ≤ 9223372036854775807 := by have := Z_DS.out; have := Z_RS.out; omega
  obtain ⟨X1, hX1⟩ : ∃ X1, X1 = [72, 84, 84, 80, 47, 49, 46, 49, 32] ++ DS ++ [32] ++ r.reason ++ [13, 10] := ⟨_, rfl⟩
  have eX1 : (⟨#[72, 84, 84, 80, 47, 49, 46, 49, 32]⟩ : ByteArray) ++ ofL DS ++ ⟨#[32]⟩ ++ ofL r.reason ++ ⟨#[13, 10]⟩ = ofL X1 := by rw [hX1, show (⟨#[72, 84, 84, 80, 47, 49, 46, 49, 32]⟩ : ByteArray) = ofL [72, 84, 84, 80, 47, 49, 46, 49, 32] from rfl, show (⟨#[32]⟩ : ByteArray) = ofL [32] from rfl, show (⟨#[13, 10]⟩ : ByteArray) = ofL [13, 10] from rfl, str_app, str_app, str_app, str_app]
  have Z_X1 : Hid ((ofL X1).size ≤ 1048608) := Lib.hid (by rw [← eX1]; simp only [ByteArray.size_append]; have := Z_DS.out; have := Z_RS.out; have : (⟨#[72, 84, 84, 80, 47, 49, 46, 49, 32]⟩ : ByteArray).size = 9 := rfl; have : (⟨#[32]⟩ : ByteArray).size = 1 := rfl; have : (⟨#[13, 10]⟩ : ByteArray).size = 2 := rfl; omega)
  have HX1 := Lib.hid hX1
  clear hX1
  have sX20 : (ofL X1).size + (ofL ON).size ≤ 9223372036854775807 := by have := Z_X1.out; have := Z_ON.out; omega
  obtain ⟨X2, hX2⟩ : ∃ X2, X2 = X1 ++ ON := ⟨_, rfl⟩
  have eX2 : ofL X1 ++ ofL ON = ofL X2 := by rw [hX2, str_app]
  have Z_X2 : Hid ((ofL X2).size ≤ 2199028498464) := Lib.hid (by rw [← eX2]; simp only [ByteArray.size_append]; have := Z_X1.out; have := Z_ON.out; omega)
  have HX2 := Lib.hid hX2
  clear hX2
  have sX30 : (ofL X2).size + (ofL J2).size ≤ 9223372036854775807 := by have := Z_X2.out; have := Z_J2.out; omega
  obtain ⟨X3, hX3⟩ : ∃ X3, X3 = X2 ++ J2 := ⟨_, rfl⟩
  have eX3 : ofL X2 ++ ofL J2 = ofL X3 := by rw [hX3, str_app]
  have Z_X3 : Hid ((ofL X3).size ≤ 3298545369122) := Lib.hid (by rw [← eX3]; simp only [ByteArray.size_append]; have := Z_X2.out; have := Z_J2.out; omega)
  have HX3 := Lib.hid hX3
  clear hX3
  have sX50 : (ofL X3).size + 19 ≤ 9223372036854775807 := by have := Z_X3.out; omega
  obtain ⟨X5, hX5⟩ : ∃ X5, X5 = X3 ++ [67, 111, 110, 110, 101, 99, 116, 105, 111, 110, 58, 32, 99, 108, 111, 115, 101, 13, 10] := ⟨_, rfl⟩
  have eX5 : ofL X3 ++ ⟨#[67, 111, 110, 110, 101, 99, 116, 105, 111, 110, 58, 32, 99, 108, 111, 115, 101, 13, 10]⟩ = ofL X5 := by rw [hX5, show (⟨#[67, 111, 110, 110, 101, 99, 116, 105, 111, 110, 58, 32, 99, 108, 111, 115, 101, 13, 10]⟩ : ByteArray) = ofL [67, 111, 110, 110, 101, 99, 116, 105, 111, 110, 58, 32, 99, 108, 111, 115, 101, 13, 10] from rfl, str_app]
  have Z_X5 : Hid ((ofL X5).size ≤ 3298545369141) := Lib.hid (by rw [← eX5]; simp only [ByteArray.size_append]; have := Z_X3.out; have : (⟨#[67, 111, 110, 110, 101, 99, 116, 105, 111, 110, 58, 32, 99, 108, 111, 115, 101, 13, 10]⟩ : ByteArray).size = 19 := rfl; omega)
  have HX5 := Lib.hid hX5
  clear hX5
  have sX60 : (ofL X5).size + 2 ≤ 9223372036854775807 := by have := Z_X5.out; omega
  obtain ⟨X6, hX6⟩ : ∃ X6, X6 = X5 ++ [13, 10] := ⟨_, rfl⟩
  have eX6 : ofL X5 ++ ⟨#[13, 10]⟩ = ofL X6 := by rw [hX6, show (⟨#[13, 10]⟩ : ByteArray) = ofL [13, 10] from rfl, str_app]
  have Z_X6 : Hid ((ofL X6).size ≤ 3298545369143) := Lib.hid (by rw [← eX6]; simp only [ByteArray.size_append]; have := Z_X5.out; have : (⟨#[13, 10]⟩ : ByteArray).size = 2 := rfl; omega)
  have HX6 := Lib.hid hX6
  clear hX6
  have HFin : Hid (RES = X6) := Lib.hid (by rw [HR.out, HX6.out, HX5.out, HX3.out, HX2.out, HX1.out])
  clear HX3 HX2 HX1 HX5 HX6 HR
  go_enter Tryd.func12, Tryd.ntmps12
  iterate 12 go_step
  rw [← HW2.out]
  clear HW2
  go_wp2_with fail
  refine (HDS.out _).mono ?_
  rintro e w2 ⟨rfl, hb⟩
  replace HE := Lib.hid (HE.out.call hb)
  clear hb HDS c0 c1 q1 q2
  obtain ⟨_, _, k2, _, _, _, _⟩ := reply_cells HE.out
  go_wp2_with fail
  refine (HON.out _ HE.out.below).mono ?_
  rintro e w3 ⟨rfl, hb⟩
  replace HE := Lib.hid (HE.out.call hb)
  clear hb HON k2 sX10 sX11 sX12 sX13 eX1
  obtain ⟨_, _, k2, _, _, _, _⟩ := reply_cells HE.out
  go_wp2_with fail
  refine (HJ2.out _ HE.out.below).mono ?_
  rintro e w4 ⟨rfl, hb⟩
  replace HE := Lib.hid (HE.out.call hb)
  clear hb HJ2 k2 sX20 eX2
  have ht1 := HT.out.1
  have ht2 := HT.out.2
  obtain ⟨_, _, _, k3, k4, k5, k6⟩ := reply_cells HE.out
  have f1 : (r.framing == 2) = false := beq_eq_false_iff_ne.2 HFr.out.1
  have f2 : (r.framing == 3) = false := beq_eq_false_iff_ne.2 HFr.out.2
  have f3 : ¬ r.framing = 2 := HFr.out.1
  have f4 : ¬ r.framing = 3 := HFr.out.2
  rw [HK.out] at k5
  go_wp2_with fail
  go_ret
  exact ⟨ret_string (by rw [HFin.out]), HE.out.below⟩
theorem head_all (r : ReplyP) (vl : Value) (hr : ¬ r.reason = []) (hA : FitR r) (w : World) (hF : FL w vl r.fields) :
    Calls Tryd.prog 12 #[.agg (dcells r vl)] w fun e w' => e = .returned (.string (ofL (headE r))) ∧ Below w.heap.size w w' := by
  rcases (show r.framing = 2 ∨ r.framing = 3 ∨ (¬ r.framing = 2 ∧ ¬ r.framing = 3) by omega) with hf | hf | hf
  · by_cases hu : r.up = []
    · cases hk : r.keep with
      | true => exact head_2_keep r vl hr hf hu hk hA w hF
      | false => exact head_2_close r vl hr hf hu hk hA w hF
    · exact head_2_up r vl hr hf hu hA w hF
  · by_cases hu : r.up = []
    · cases hk : r.keep with
      | true => exact head_3_keep r vl hr hf hu hk hA w hF
      | false => exact head_3_close r vl hr hf hu hk hA w hF
    · exact head_3_up r vl hr hf hu hA w hF
  · by_cases hu : r.up = []
    · cases hk : r.keep with
      | true => exact head_0_keep r vl hr hf hu hk hA w hF
      | false => exact head_0_close r vl hr hf hu hk hA w hF
    · exact head_0_up r vl hr hf hu hA w hF
end Go.Proofs.YtblpooddamkfdaaDoor.R13HeadS

/- The document's layer 13: Head and Local. -/
namespace Go.Proofs.YtblpooddamkfdaaDoor.R13Local
open Go.ChangeShapes Go.WideShapes Go.ChangeAt Go.RowKit Bytes LexPure FieldsPure EmitPure Flds Mem Ret R13On R13Box R13HeadO
set_option maxRecDepth 100000
set_option linter.unusedVariables false
set_option linter.unusedSimpArgs false
theorem head_any (r : ReplyP) (vl : Value) (hA : FitR r) (w : World) (hF : FL w vl r.fields) :
    Calls Tryd.prog 12 #[.agg (dcells r vl)] w fun e w' => e = .returned (.string (ofL (headE r))) ∧ Below w.heap.size w w' := by
  by_cases hr : r.reason = []
  · exact R13HeadB.head_all r vl hr hA w hF
  · exact R13HeadS.head_all r vl hr hA w hF
theorem head_len {r : ReplyP} (h : FitR r) : (headE r).length ≤ 35184372088832 := by
  have h1 := onE_len h.fields h.len false
  have h2 := join_len h.fields h.len VIAN BARB (by decide) (by decide)
  have h3 := decZ_len h.s0 h.s1
  have h4 := decZ_len h.l0 h.l1
  have h5 := reason_len r.status
  have h6 := h.reason
  have h7 := h.up
  have a1 : ((if r.framing = 2 then [(CLN, decZ r.length)] else []).flatMap lineE).length ≤ 60 := by
    split <;> simp [lineE, CLN]
    omega
  have a2 : ((if r.framing = 3 then [(TEN, CHV)] else []).flatMap lineE).length ≤ 60 := by
    split <;> simp [lineE, TEN, CHV]
  have a3 : ((if r.up = [] then (if r.keep then [] else [(CONN, CLOSEV)]) else [(CONN, UPV), (UPN, r.up)]).flatMap lineE).length ≤ 1048640 := by
    split
    · split <;> simp [lineE, CONN, CLOSEV]
    · simp [lineE, CONN, UPV, UPN]
      omega
  have a4 : (if r.reason = [] then reasonL r.status else r.reason).length ≤ 1048576 := by
    split <;> omega
  have e : (headE r).length = 9 + (decZ r.status).length + 1 + (if r.reason = [] then reasonL r.status else r.reason).length + 2 + (((onE false r.fields).flatMap lineE).length + ((lineE (VIAN, joinV r.fields VIAN BARB)).length + (((if r.framing = 2 then [(CLN, decZ r.length)] else []).flatMap lineE).length + (((if r.framing = 3 then [(TEN, CHV)] else []).flatMap lineE).length + ((if r.up = [] then (if r.keep then [] else [(CONN, CLOSEV)]) else [(CONN, UPV), (UPN, r.up)]).flatMap lineE).length)))) + 2 := by
    unfold headE replyF statusL
    simp only [List.length_append, List.length_cons, List.flatMap_append, List.flatMap_cons, List.length_nil]
    omega
  omega
set_option maxHeartbeats 1600000 in
theorem local_any (status : Int) (vl : Value) (G : List HField) (body : List UInt8) (keep bodiless : Bool) (s0 : -9223372036854775808 ≤ status) (s1 : status ≤ 9223372036854775807) (hG : Few G) (hle : G.length ≤ 1048576) (hb : body.length ≤ 1048576)
    (w : World) (hF : FL w vl G) :
    Calls Tryd.prog 17 #[.int .i64 status, vl, .string (ofL body), .bool keep, .bool bodiless] w fun e w' => e = .returned (.string (ofL (localE status G body keep bodiless))) ∧ Below w.heap.size w w' := by
  have hfit : FitR ⟨status, [], G, 2, ((ofL body).size : Int), keep, []⟩ := ⟨hG, hle, Nat.zero_le _, Nat.zero_le _, s0, s1, by dsimp only; omega, by dsimp only; rw [ofL_size]; omega⟩
  have HH := head_any _ vl hfit w hF
  have hl := head_len hfit
  have e0 : headE ⟨status, [], G, 2, ((ofL body).size : Int), keep, []⟩ = headE ⟨status, [], G, 2, (body.length : Int), keep, []⟩ := by rw [ofL_size]
  have hsz : (ofL (headE ⟨status, [], G, 2, ((ofL body).size : Int), keep, []⟩)).size + (ofL body).size ≤ 9223372036854775807 := by
    have h1 := ofL_size (headE ⟨status, [], G, 2, ((ofL body).size : Int), keep, []⟩)
    have h2 := ofL_size body
    omega
  have HE : Hid (localE status G body keep bodiless = headE ⟨status, [], G, 2, ((ofL body).size : Int), keep, []⟩ ++ (if bodiless then [] else body)) := Lib.hid (by rw [e0]; rfl)
  obtain ⟨pl, cl, rfl, _, _⟩ := hF
  unfold dcells at HH
  clear e0 hl hfit hG hle hb
  generalize headE ⟨status, [], G, 2, ((ofL body).size : Int), keep, []⟩ = H at *
  have HH := Lib.hid HH
  cases bodiless with
  | true =>
    go_enter Tryd.func17, Tryd.ntmps17
    go_wp2_with fail
    refine HH.out.mono ?_
    rintro e w1 ⟨rfl, hb⟩
    clear HH
    go_wp2_with fail
    go_ret
    exact ⟨ret_string (congrArg ofL (by rw [HE.out]; simp)), hb⟩
  | false =>
    go_enter Tryd.func17, Tryd.ntmps17
    go_wp2_with fail
    refine HH.out.mono ?_
    rintro e w1 ⟨rfl, hb⟩
    clear HH
    go_wp2_with fail
    go_ret
    exact ⟨ret_string (by rw [HE.out, str_app]; rfl), hb⟩
end Go.Proofs.YtblpooddamkfdaaDoor.R13Local
