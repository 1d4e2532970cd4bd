/- Texts of this seat, one behind another: R13Reason, R13HeadO, R13HeadB. -/
import Derived.Lib.Hide
import Derived.Outline
import Derived.Handy
import Derived.Below
import Derived.Test.YtblpooddamkfdaaDoorA1
import Derived.Test.YtblpooddamkfdaaDoorE
/- The document's layer 13: Reason. -/
namespace Go.Proofs.YtblpooddamkfdaaDoor.R13Reason
open Go.ChangeShapes Go.WideShapes Go.ChangeAt Go.RowKit Bytes Ret EmitPure Mem
set_option maxRecDepth 100000
set_option linter.unusedVariables false
set_option linter.unusedSimpArgs false
set_option maxHeartbeats 6400000 in
theorem more_known (s : Int) (w : World) (h : s = 413 ∨ s = 414 ∨ s = 417 ∨ s = 429 ∨ s = 431 ∨ s = 500 ∨ s = 501 ∨ s = 502 ∨ s = 503 ∨ s = 504 ∨ s = 505) :
    Calls Tryd.prog 31 #[.int .i64 s] w fun e w' => e = .returned (.string (ofL (reasonL s))) ∧ w' = w := by
  rcases h with rfl | rfl | rfl | rfl | rfl | rfl | rfl | rfl | rfl | rfl | rfl
  all_goals
    go_enter Tryd.func31, Tryd.ntmps31
    go_wp2_with fail
    go_ret
    exact ⟨rfl, rfl⟩
set_option maxHeartbeats 6400000 in
theorem reason_known (s : Int) (w : World) (h : s = 101 ∨ s = 200 ∨ s = 204 ∨ s = 301 ∨ s = 302 ∨ s = 307 ∨ s = 308 ∨ s = 400 ∨ s = 401 ∨ s = 403 ∨ s = 404 ∨ s = 408) :
    Calls Tryd.prog 15 #[.int .i64 s] w fun e w' => e = .returned (.string (ofL (reasonL s))) ∧ w' = w := by
  rcases h with rfl | rfl | rfl | rfl | rfl | rfl | rfl | rfl | rfl | rfl | rfl | rfl
  all_goals
    go_enter Tryd.func15, Tryd.ntmps15
    go_wp2_with fail
    go_ret
    exact ⟨rfl, rfl⟩
set_option maxHeartbeats 6400000 in
theorem more_other (s : Int) (w : World) (h413 : ¬ s = 413) (h414 : ¬ s = 414) (h417 : ¬ s = 417) (h429 : ¬ s = 429) (h431 : ¬ s = 431) (h500 : ¬ s = 500) (h501 : ¬ s = 501) (h502 : ¬ s = 502) (h503 : ¬ s = 503) (h504 : ¬ s = 504) (h505 : ¬ s = 505) :
    Calls Tryd.prog 31 #[.int .i64 s] w fun e w' => e = .returned (.string ⟨#[83, 116, 97, 116, 117, 115]⟩) ∧ w' = w := by
  have a413 : (s == 413) = false := beq_eq_false_iff_ne.2 h413
  have a414 : (s == 414) = false := beq_eq_false_iff_ne.2 h414
  have a417 : (s == 417) = false := beq_eq_false_iff_ne.2 h417
  have a429 : (s == 429) = false := beq_eq_false_iff_ne.2 h429
  have a431 : (s == 431) = false := beq_eq_false_iff_ne.2 h431
  have a500 : (s == 500) = false := beq_eq_false_iff_ne.2 h500
  have a501 : (s == 501) = false := beq_eq_false_iff_ne.2 h501
  have a502 : (s == 502) = false := beq_eq_false_iff_ne.2 h502
  have a503 : (s == 503) = false := beq_eq_false_iff_ne.2 h503
  have a504 : (s == 504) = false := beq_eq_false_iff_ne.2 h504
  have a505 : (s == 505) = false := beq_eq_false_iff_ne.2 h505
  go_enter Tryd.func31, Tryd.ntmps31
  go_wp2_with fail
  go_ret
  exact ⟨rfl, rfl⟩
theorem none_of (s : Int) (h101 : ¬ s = 101) (h200 : ¬ s = 200) (h204 : ¬ s = 204) (h301 : ¬ s = 301) (h302 : ¬ s = 302) (h307 : ¬ s = 307) (h308 : ¬ s = 308) (h400 : ¬ s = 400) (h401 : ¬ s = 401) (h403 : ¬ s = 403) (h404 : ¬ s = 404) (h408 : ¬ s = 408) (h413 : ¬ s = 413) (h414 : ¬ s = 414) (h417 : ¬ s = 417) (h429 : ¬ s = 429) (h431 : ¬ s = 431) (h500 : ¬ s = 500) (h501 : ¬ s = 501) (h502 : ¬ s = 502) (h503 : ¬ s = 503) (h504 : ¬ s = 504) (h505 : ¬ s = 505) : reasonL s = [83, 116, 97, 116, 117, 115] := by
  unfold reasonL phrases
  simp [List.find?_cons, Ne.symm h101, Ne.symm h200, Ne.symm h204, Ne.symm h301, Ne.symm h302, Ne.symm h307, Ne.symm h308, Ne.symm h400, Ne.symm h401, Ne.symm h403, Ne.symm h404, Ne.symm h408, Ne.symm h413, Ne.symm h414, Ne.symm h417, Ne.symm h429, Ne.symm h431, Ne.symm h500, Ne.symm h501, Ne.symm h502, Ne.symm h503, Ne.symm h504, Ne.symm h505]
theorem more_any (s : Int) (w : World) (h101 : ¬ s = 101) (h200 : ¬ s = 200) (h204 : ¬ s = 204) (h301 : ¬ s = 301) (h302 : ¬ s = 302) (h307 : ¬ s = 307) (h308 : ¬ s = 308) (h400 : ¬ s = 400) (h401 : ¬ s = 401) (h403 : ¬ s = 403) (h404 : ¬ s = 404) (h408 : ¬ s = 408) :
    Calls Tryd.prog 31 #[.int .i64 s] w fun e w' => e = .returned (.string (ofL (reasonL s))) ∧ w' = w := by
  by_cases h : s = 413 ∨ s = 414 ∨ s = 417 ∨ s = 429 ∨ s = 431 ∨ s = 500 ∨ s = 501 ∨ s = 502 ∨ s = 503 ∨ s = 504 ∨ s = 505
  · exact more_known s w h
  · simp only [not_or] at h
    obtain ⟨h413, h414, h417, h429, h431, h500, h501, h502, h503, h504, h505⟩ := h
    rw [none_of s h101 h200 h204 h301 h302 h307 h308 h400 h401 h403 h404 h408 h413 h414 h417 h429 h431 h500 h501 h502 h503 h504 h505]
    exact more_other s w h413 h414 h417 h429 h431 h500 h501 h502 h503 h504 h505
set_option maxHeartbeats 6400000 in
theorem reason_any (s : Int) (w : World) :
    Calls Tryd.prog 15 #[.int .i64 s] w fun e w' => e = .returned (.string (ofL (reasonL s))) ∧ w' = w := by
  by_cases h : s = 101 ∨ s = 200 ∨ s = 204 ∨ s = 301 ∨ s = 302 ∨ s = 307 ∨ s = 308 ∨ s = 400 ∨ s = 401 ∨ s = 403 ∨ s = 404 ∨ s = 408
  · exact reason_known s w h
  · simp only [not_or] at h
    obtain ⟨h101, h200, h204, h301, h302, h307, h308, h400, h401, h403, h404, h408⟩ := h
    have HM := Lib.hid (more_any s w h101 h200 h204 h301 h302 h307 h308 h400 h401 h403 h404 h408)
    have a101 : (s == 101) = false := beq_eq_false_iff_ne.2 h101
    have a200 : (s == 200) = false := beq_eq_false_iff_ne.2 h200
    have a204 : (s == 204) = false := beq_eq_false_iff_ne.2 h204
    have a301 : (s == 301) = false := beq_eq_false_iff_ne.2 h301
    have a302 : (s == 302) = false := beq_eq_false_iff_ne.2 h302
    have a307 : (s == 307) = false := beq_eq_false_iff_ne.2 h307
    have a308 : (s == 308) = false := beq_eq_false_iff_ne.2 h308
    have a400 : (s == 400) = false := beq_eq_false_iff_ne.2 h400
    have a401 : (s == 401) = false := beq_eq_false_iff_ne.2 h401
    have a403 : (s == 403) = false := beq_eq_false_iff_ne.2 h403
    have a404 : (s == 404) = false := beq_eq_false_iff_ne.2 h404
    have a408 : (s == 408) = false := beq_eq_false_iff_ne.2 h408
    generalize ofL (reasonL s) = R at *
    go_enter Tryd.func15, Tryd.ntmps15
    go_wp2_with fail
    refine HM.out.mono ?_
    rintro e w1 ⟨rfl, rfl⟩
    go_wp2_with fail
    go_ret
    exact ⟨rfl, rfl⟩
end Go.Proofs.YtblpooddamkfdaaDoor.R13Reason

/- The document's layer 13: a reply's box. -/
namespace Go.Proofs.YtblpooddamkfdaaDoor.R13HeadO
open Go.ChangeShapes Go.WideShapes Go.ChangeAt Go.RowKit Bytes LexPure FieldsPure EmitPure Flds Mem Ret R13On R13Box
set_option maxRecDepth 100000
set_option linter.unusedVariables false
set_option linter.unusedSimpArgs false
abbrev RT : TypeId := 37
def dcells (r : ReplyP) (vl : Value) : Array Value := #[.int .i64 r.status, .string (ofL r.reason), vl, .int .i64 r.framing, .int .i64 r.length, .bool r.keep, .string (ofL r.up)]
structure FitR (r : ReplyP) : Prop where
  fields : Few r.fields
  len : r.fields.length ≤ 1048576
  reason : r.reason.length ≤ 1048576
  up : r.up.length ≤ 1048576
  s0 : -9223372036854775808 ≤ r.status
  s1 : r.status ≤ 9223372036854775807
  l0 : -9223372036854775808 ≤ r.length
  l1 : r.length ≤ 9223372036854775807
theorem reply_cells {w wr : World} {r : ReplyP} {vl : Value} (h : Bx w RT (dcells r vl) wr) : wr.cell? ⟨w.heap.size, 0, none⟩ = some (.int .i64 r.status) ∧ wr.cell? ⟨w.heap.size, 1, none⟩ = some (.string (ofL r.reason)) ∧ wr.cell? ⟨w.heap.size, 2, none⟩ = some vl ∧
    wr.cell? ⟨w.heap.size, 3, none⟩ = some (.int .i64 r.framing) ∧ wr.cell? ⟨w.heap.size, 4, none⟩ = some (.int .i64 r.length) ∧ wr.cell? ⟨w.heap.size, 5, none⟩ = some (.bool r.keep) ∧ wr.cell? ⟨w.heap.size, 6, none⟩ = some (.string (ofL r.up)) :=
  ⟨h.box.cell 0, h.box.cell 1, h.box.cell 2, h.box.cell 3, h.box.cell 4, h.box.cell 5, h.box.cell 6⟩
theorem reason_len (s : Int) : (reasonL s).length ≤ 40 := by
  have h : ∀ l : List (Int × List UInt8), l.all (fun p => decide (p.2.length ≤ 40)) = true → (((l.find? (fun p => p.1 == s)).map (·.2)).getD [83, 116, 97, 116, 117, 115]).length ≤ 40 := fun l hl => by
    cases hq : l.find? (fun p => p.1 == s) with
    | none => decide
    | some p => exact of_decide_eq_true (List.all_eq_true.1 hl p (List.mem_of_find?_eq_some hq))
  exact h phrases (by decide)
end Go.Proofs.YtblpooddamkfdaaDoor.R13HeadO

/- The document's layer 13: Head, no reason given. -/
namespace Go.Proofs.YtblpooddamkfdaaDoor.R13HeadB
open Go.ChangeShapes Go.WideShapes Go.ChangeAt Go.RowKit Bytes LexPure FieldsPure EmitPure Flds Mem Ret R13On R13Box R13HeadO
set_option maxRecDepth 100000
set_option linter.unusedVariables false
set_option linter.unusedSimpArgs false
set_option maxHeartbeats 6400000 in
theorem head_2_up (r : ReplyP) (vl : Value) (hr : r.reason = []) (hf : r.framing = 2) (hu : ¬ r.up = []) (hA : FitR r) (w : World) (hF : FL w vl r.fields) :
    Calls Tryd.prog 12 #[.agg (dcells r vl)] w fun e w' => e = .returned (.string (ofL (headE r))) ∧ Below w.heap.size w w' := by
  have hF0 := hF
  obtain ⟨pl, cl, rfl, _, _⟩ := hF0
  have hE : ∃ W2, W2 = w.alloc (.cells #[.int .i64 r.status, .string (ofL r.reason), .slice pl r.fields.length cl, .int .i64 r.framing, .int .i64 r.length, .bool r.keep, .string (ofL r.up)] RT) ∧ Bx w RT (dcells r (.slice pl r.fields.length cl)) W2 := ⟨_, rfl, Bx.start w RT _⟩
  obtain ⟨W2, hW2, hE⟩ := hE
  have HW2 := Lib.hid hW2
  have HE := Lib.hid hE
  have HON := Lib.hid (fun W (hb : Below w.heap.size w W) => R13On.on_any _ r.fields hA.fields hA.len false W (hF.below hb))
  have HJ2 := Lib.hid (fun W (hb : Below w.heap.size w W) => R13Join.joined_any _ r.fields hA.fields hA.len VIAN BARB (by decide) (by decide) W (hF.below hb))
  have HDS := Lib.hid (fun W => R13Dig.digits_any r.status hA.s0 hA.s1 W)
  have HDL := Lib.hid (fun W => R13Dig.digits_any r.length hA.l0 hA.l1 W)
  have HRS := Lib.hid (fun W => R13Reason.reason_any r.status W)
  have zON := onE_len hA.fields hA.len false
  have zJ2 := join_len hA.fields hA.len VIAN BARB (by decide) (by decide)
  have zDS := decZ_len hA.s0 hA.s1
  have zDL := decZ_len hA.l0 hA.l1
  have zU := hA.up
  have zR0 := hA.reason
  have zR := reason_len r.status
  have HR : Hid (headE r = [72, 84, 84, 80, 47, 49, 46, 49, 32] ++ decZ r.status ++ [32] ++ reasonL r.status ++ [13, 10] ++ (onE false r.fields).flatMap lineE ++ lineE (VIAN, joinV r.fields VIAN BARB) ++ [67, 111, 110, 116, 101, 110, 116, 45, 76, 101, 110, 103, 116, 104, 58, 32] ++ decZ r.length ++ [13, 10] ++ [67, 111, 110, 110, 101, 99, 116, 105, 111, 110, 58, 32, 117, 112, 103, 114, 97, 100, 101, 13, 10, 85, 112, 103, 114, 97, 100, 101, 58, 32] ++ r.up ++ [13, 10, 13, 10]) := Lib.hid (by
    simp [headE, replyF, statusL, lineE, hr, hf, hu, CLN, TEN, CHV, CONN, CLOSEV, UPN, UPV])
  have eu : (ofL r.up).toList = r.up := by rw [ByteArray.toList_eq]; exact toL_ofL _
  have er : (ofL r.reason).toList = r.reason := by rw [ByteArray.toList_eq]; exact toL_ofL _
  have t2 : ¬ (ofL r.up).toList = [] := by rw [eu]; exact hu
  have t1 : (ofL r.up).toList.isEmpty = false := by
    rw [eu]
    cases hx : r.up with
    | nil => exact absurd hx hu
    | cons => rfl
  have q2 : (ofL r.reason).toList = [] := by rw [er, hr]
  have q1 : (ofL r.reason).toList.isEmpty = true := by rw [er, hr]; rfl
  have HT := Lib.hid (And.intro t1 t2)
  have HFr := Lib.hid hf
  obtain ⟨c0, c1, _⟩ := reply_cells hE
  clear hE hW2 t1 t2 eu er hu hr hf
  have Z_U : Hid ((ofL (r.up)).size ≤ 1048576) := Lib.hid (by rw [ofL_size]; omega)
  have Z_ON : Hid ((ofL ((onE false r.fields).flatMap lineE)).size ≤ 2199027449856) := Lib.hid (by rw [ofL_size]; omega)
  have Z_J2 : Hid ((ofL (lineE (VIAN, joinV r.fields VIAN BARB))).size ≤ 1099516870658) := Lib.hid (by rw [ofL_size]; omega)
  have Z_DS : Hid ((ofL (decZ r.status)).size ≤ 20) := Lib.hid (by rw [ofL_size]; omega)
  have Z_RS : Hid ((ofL (reasonL r.status)).size ≤ 1048576) := Lib.hid (by rw [ofL_size]; omega)
  have Z_DL : Hid ((ofL (decZ r.length)).size ≤ 20) := Lib.hid (by rw [ofL_size]; omega)
  clear zON zJ2 zDS zU zR0 zR zDL hF
  unfold dcells
  generalize decZ r.length = DL at *
  generalize decZ r.status = DS at *
  generalize reasonL r.status = RS at *
  generalize (onE false r.fields).flatMap lineE = ON at *
  generalize lineE (VIAN, joinV r.fields VIAN BARB) = J2 at *
  generalize headE r = RES at *
  have sX10 : 9 + (ofL DS).size ≤ 9223372036854775807 := by have := Z_DS.out; have := Z_RS.out; omega
  have sX11 : 9 + (ofL DS).size + 1 ≤ 9223372036854775807 := by have := Z_DS.out; have := Z_RS.out; omega
  have sX12 : 9 + (ofL DS).size + 1 + (ofL RS).size ≤ 9223372036854775807 := by have := Z_DS.out; have := Z_RS.out; omega
  have sX13 : 9 + (ofL DS).size + 1 + (ofL RS).size + 2 ≤ 9223372036854775807 := by have := Z_DS.out; have := Z_RS.out; omega
  obtain ⟨X1, hX1⟩ : ∃ X1, X1 = [72, 84, 84, 80, 47, 49, 46, 49, 32] ++ DS ++ [32] ++ RS ++ [13, 10] := ⟨_, rfl⟩
  have eX1 : (⟨#[72, 84, 84, 80, 47, 49, 46, 49, 32]⟩ : ByteArray) ++ ofL DS ++ ⟨#[32]⟩ ++ ofL RS ++ ⟨#[13, 10]⟩ = ofL X1 := by rw [hX1, show (⟨#[72, 84, 84, 80, 47, 49, 46, 49, 32]⟩ : ByteArray) = ofL [72, 84, 84, 80, 47, 49, 46, 49, 32] from rfl, show (⟨#[32]⟩ : ByteArray) = ofL [32] from rfl, show (⟨#[13, 10]⟩ : ByteArray) = ofL [13, 10] from rfl, str_app, str_app, str_app, str_app]
  have Z_X1 : Hid ((ofL X1).size ≤ 1048608) := Lib.hid (by rw [← eX1]; simp only [ByteArray.size_append]; have := Z_DS.out; have := Z_RS.out; have : (⟨#[72, 84, 84, 80, 47, 49, 46, 49, 32]⟩ : ByteArray).size = 9 := rfl; have : (⟨#[32]⟩ : ByteArray).size = 1 := rfl; have : (⟨#[13, 10]⟩ : ByteArray).size = 2 := rfl; omega)
  have HX1 := Lib.hid hX1
  clear hX1
  have sX20 : (ofL X1).size + (ofL ON).size ≤ 9223372036854775807 := by have := Z_X1.out; have := Z_ON.out; omega
  obtain ⟨X2, hX2⟩ : ∃ X2, X2 = X1 ++ ON := ⟨_, rfl⟩
  have eX2 : ofL X1 ++ ofL ON = ofL X2 := by rw [hX2, str_app]
  have Z_X2 : Hid ((ofL X2).size ≤ 2199028498464) := Lib.hid (by rw [← eX2]; simp only [ByteArray.size_append]; have := Z_X1.out; have := Z_ON.out; omega)
  have HX2 := Lib.hid hX2
  clear hX2
  have sX30 : (ofL X2).size + (ofL J2).size ≤ 9223372036854775807 := by have := Z_X2.out; have := Z_J2.out; omega
  obtain ⟨X3, hX3⟩ : ∃ X3, X3 = X2 ++ J2 := ⟨_, rfl⟩
  have eX3 : ofL X2 ++ ofL J2 = ofL X3 := by rw [hX3, str_app]
  have Z_X3 : Hid ((ofL X3).size ≤ 3298545369122) := Lib.hid (by rw [← eX3]; simp only [ByteArray.size_append]; have := Z_X2.out; have := Z_J2.out; omega)
  have HX3 := Lib.hid hX3
  clear hX3
  have sX40 : (ofL X3).size + 16 ≤ 9223372036854775807 := by have := Z_X3.out; have := Z_DL.out; omega
  have sX41 : (ofL X3).size + 16 + (ofL DL).size ≤ 9223372036854775807 := by have := Z_X3.out; have := Z_DL.out; omega
  have sX42 : (ofL X3).size + 16 + (ofL DL).size + 2 ≤ 9223372036854775807 := by have := Z_X3.out; have := Z_DL.out; omega
  obtain ⟨X4, hX4⟩ : ∃ X4, X4 = X3 ++ [67, 111, 110, 116, 101, 110, 116, 45, 76, 101, 110, 103, 116, 104, 58, 32] ++ DL ++ [13, 10] := ⟨_, rfl⟩
  have eX4 : ofL X3 ++ ⟨#[67, 111, 110, 116, 101, 110, 116, 45, 76, 101, 110, 103, 116, 104, 58, 32]⟩ ++ ofL DL ++ ⟨#[13, 10]⟩ = ofL X4 := by rw [hX4, show (⟨#[67, 111, 110, 116, 101, 110, 116, 45, 76, 101, 110, 103, 116, 104, 58, 32]⟩ : ByteArray) = ofL [67, 111, 110, 116, 101, 110, 116, 45, 76, 101, 110, 103, 116, 104, 58, 32] from rfl, show (⟨#[13, 10]⟩ : ByteArray) = ofL [13, 10] from rfl, str_app, str_app, str_app]
  have Z_X4 : Hid ((ofL X4).size ≤ 3298545369160) := Lib.hid (by rw [← eX4]; simp only [ByteArray.size_append]; have := Z_X3.out; have := Z_DL.out; have : (⟨#[67, 111, 110, 116, 101, 110, 116, 45, 76, 101, 110, 103, 116, 104, 58, 32]⟩ : ByteArray).size = 16 := rfl; have : (⟨#[13, 10]⟩ : ByteArray).size = 2 := rfl; omega)
  have HX4 := Lib.hid hX4
  clear hX4
  have sX60 : (ofL X4).size + 30 ≤ 9223372036854775807 := by have := Z_X4.out; have := Z_U.out; omega
  have sX61 : (ofL X4).size + 30 + (ofL r.up).size ≤ 9223372036854775807 := by have := Z_X4.out; have := Z_U.out; omega
  have sX62 : (ofL X4).size + 30 + (ofL r.up).size + 4 ≤ 9223372036854775807 := by have := Z_X4.out; have := Z_U.out; omega
  obtain ⟨X6, hX6⟩ : ∃ X6, X6 = X4 ++ [67, 111, 110, 110, 101, 99, 116, 105, 111, 110, 58, 32, 117, 112, 103, 114, 97, 100, 101, 13, 10, 85, 112, 103, 114, 97, 100, 101, 58, 32] ++ r.up ++ [13, 10, 13, 10] := ⟨_, rfl⟩
  have eX6 : ofL X4 ++ ⟨#[67, 111, 110, 110, 101, 99, 116, 105, 111, 110, 58, 32, 117, 112, 103, 114, 97, 100, 101, 13, 10, 85, 112, 103, 114, 97, 100, 101, 58, 32]⟩ ++ ofL r.up ++ ⟨#[13, 10, 13, 10]⟩ = ofL X6 := by rw [hX6, show (⟨#[67, 111, 110, 110, 101, 99, 116, 105, 111, 110, 58, 32, 117, 112, 103, 114, 97, 100, 101, 13, 10, 85, 112, 103, 114, 97, 100, 101, 58, 32]⟩ : ByteArray) = ofL [67, 111, 110, 110, 101, 99, 116, 105, 111, 110, 58, 32, 117, 112, 103, 114, 97, 100, 101, 13, 10, 85, 112, 103, 114, 97, 100, 101, 58, 32] from rfl, show (⟨#[13, 10, 13, 10]⟩ : ByteArray) = ofL [13, 10, 13, 10] from rfl, str_app, str_app, str_app]
  have Z_X6 : Hid ((ofL X6).size ≤ 3298546417770) := Lib.hid (by rw [← eX6]; simp only [ByteArray.size_append]; have := Z_X4.out; have := Z_U.out; have : (⟨#[67, 111, 110, 110, 101, 99, 116, 105, 111, 110, 58, 32, 117, 112, 103, 114, 97, 100, 101, 13, 10, 85, 112, 103, 114, 97, 100, 101, 58, 32]⟩ : ByteArray).size = 30 := rfl; have : (⟨#[13, 10, 13, 10]⟩ : ByteArray).size = 4 := rfl; omega)
  have HX6 := Lib.hid hX6
  clear hX6
  have HFin : Hid (RES = X6) := Lib.hid (by rw [HR.out, HX6.out, HX4.out, HX3.out, HX2.out, HX1.out])
  clear HX3 HX2 HX1 HX4 HX6 HR
  go_enter Tryd.func12, Tryd.ntmps12
  iterate 12 go_step
  rw [← HW2.out]
  clear HW2
  go_wp2_with fail
  refine (HRS.out _).mono ?_
  rintro e w1 ⟨rfl, rfl⟩
  clear HRS c1 q1 q2
  go_wp2_with fail
  refine (HDS.out _).mono ?_
  rintro e w2 ⟨rfl, hb⟩
  replace HE := Lib.hid (HE.out.call hb)
  clear hb HDS c0
  obtain ⟨_, _, k2, _, _, _, _⟩ := reply_cells HE.out
  go_wp2_with fail
  refine (HON.out _ HE.out.below).mono ?_
  rintro e w3 ⟨rfl, hb⟩
  replace HE := Lib.hid (HE.out.call hb)
  clear hb HON k2 sX10 sX11 sX12 sX13 eX1
  obtain ⟨_, _, k2, _, _, _, _⟩ := reply_cells HE.out
  go_wp2_with fail
  refine (HJ2.out _ HE.out.below).mono ?_
  rintro e w4 ⟨rfl, hb⟩
  replace HE := Lib.hid (HE.out.call hb)
  clear hb HJ2 k2 sX20 eX2
  have ht1 := HT.out.1
  have ht2 := HT.out.2
  obtain ⟨_, _, _, k3, k4, k5, k6⟩ := reply_cells HE.out
  rw [HFr.out] at k3
  go_wp2_with fail
  refine (HDL.out _).mono ?_
  rintro e w5 ⟨rfl, hb⟩
  replace HE := Lib.hid (HE.out.call hb)
  clear hb HDL k3 k4 k5 k6 sX30 eX3
  obtain ⟨_, _, _, k3, k4, k5, k6⟩ := reply_cells HE.out
  rw [HFr.out] at k3
  go_wp2_with fail
  go_ret
  exact ⟨ret_string (by rw [HFin.out]), HE.out.below⟩
set_option maxHeartbeats 6400000 in
theorem head_2_keep (r : ReplyP) (vl : Value) (hr : r.reason = []) (hf : r.framing = 2) (hu : r.up = []) (hk : r.keep = true) (hA : FitR r) (w : World) (hF : FL w vl r.fields) :
    Calls Tryd.prog 12 #[.agg (dcells r vl)] w fun e w' => e = .returned (.string (ofL (headE r))) ∧ Below w.heap.size w w' := by
  have hF0 := hF
  obtain ⟨pl, cl, rfl, _, _⟩ := hF0
  have hE : ∃ W2, W2 = w.alloc (.cells #[.int .i64 r.status, .string (ofL r.reason), .slice pl r.fields.length cl, .int .i64 r.framing, .int .i64 r.length, .bool r.keep, .string (ofL r.up)] RT) ∧ Bx w RT (dcells r (.slice pl r.fields.length cl)) W2 := ⟨_, rfl, Bx.start w RT _⟩
  obtain ⟨W2, hW2, hE⟩ := hE
  have HW2 := Lib.hid hW2
  have HE := Lib.hid hE
  have HON := Lib.hid (fun W (hb : Below w.heap.size w W) => R13On.on_any _ r.fields hA.fields hA.len false W (hF.below hb))
  have HJ2 := Lib.hid (fun W (hb : Below w.heap.size w W) => R13Join.joined_any _ r.fields hA.fields hA.len VIAN BARB (by decide) (by decide) W (hF.below hb))
  have HDS := Lib.hid (fun W => R13Dig.digits_any r.status hA.s0 hA.s1 W)
  have HDL := Lib.hid (fun W => R13Dig.digits_any r.length hA.l0 hA.l1 W)
  have HRS := Lib.hid (fun W => R13Reason.reason_any r.status W)
  have zON := onE_len hA.fields hA.len false
  have zJ2 := join_len hA.fields hA.len VIAN BARB (by decide) (by decide)
  have zDS := decZ_len hA.s0 hA.s1
  have zDL := decZ_len hA.l0 hA.l1
  have zU := hA.up
  have zR0 := hA.reason
  have zR := reason_len r.status
  have HR : Hid (headE r = [72, 84, 84, 80, 47, 49, 46, 49, 32] ++ decZ r.status ++ [32] ++ reasonL r.status ++ [13, 10] ++ (onE false r.fields).flatMap lineE ++ lineE (VIAN, joinV r.fields VIAN BARB) ++ [67, 111, 110, 116, 101, 110, 116, 45, 76, 101, 110, 103, 116, 104, 58, 32] ++ decZ r.length ++ [13, 10] ++ [13, 10]) := Lib.hid (by
    simp [headE, replyF, statusL, lineE, hr, hf, hu, hk, CLN, TEN, CHV, CONN, CLOSEV, UPN, UPV])
  have eu : (ofL r.up).toList = r.up := by rw [ByteArray.toList_eq]; exact toL_ofL _
  have er : (ofL r.reason).toList = r.reason := by rw [ByteArray.toList_eq]; exact toL_ofL _
  have t2 : (ofL r.up).toList = [] := by rw [eu, hu]
  have t1 : (ofL r.up).toList.isEmpty = true := by rw [eu, hu]; rfl
  have q2 : (ofL r.reason).toList = [] := by rw [er, hr]
  have q1 : (ofL r.reason).toList.isEmpty = true := by rw [er, hr]; rfl
  have HT := Lib.hid (And.intro t1 t2)
  have HFr := Lib.hid hf
  have HK := Lib.hid hk
  obtain ⟨c0, c1, _⟩ := reply_cells hE
  clear hE hW2 t1 t2 eu er hu hr hf hk
  have Z_U : Hid ((ofL (r.up)).size ≤ 1048576) := Lib.hid (by rw [ofL_size]; omega)
  have Z_ON : Hid ((ofL ((onE false r.fields).flatMap lineE)).size ≤ 2199027449856) := Lib.hid (by rw [ofL_size]; omega)
  have Z_J2 : Hid ((ofL (lineE (VIAN, joinV r.fields VIAN BARB))).size ≤ 1099516870658) := Lib.hid (by rw [ofL_size]; omega)
  have Z_DS : Hid ((ofL (decZ r.status)).size ≤ 20) := Lib.hid (by rw [ofL_size]; omega)
  have Z_RS : Hid ((ofL (reasonL r.status)).size ≤ 1048576) := Lib.hid (by rw [ofL_size]; omega)
  have Z_DL : Hid ((ofL (decZ r.length)).size ≤ 20) := Lib.hid (by rw [ofL_size]; omega)
  clear zON zJ2 zDS zU zR0 zR zDL hF
  unfold dcells
  generalize decZ r.length = DL at *
  generalize decZ r.status = DS at *
  generalize reasonL r.status = RS at *
  generalize (onE false r.fields).flatMap lineE = ON at *
  generalize lineE (VIAN, joinV r.fields VIAN BARB) = J2 at *
  generalize headE r = RES at *
  have sX10 : 9 + (ofL DS).size ≤ 9223372036854775807 := by have := Z_DS.out; have := Z_RS.out; omega
  have sX11 : 9 + (ofL DS).size + 1 ≤ 9223372036854775807 := by have := Z_DS.out; have := Z_RS.out; omega
  have sX12 : 9 + (ofL DS).size + 1 + (ofL RS).size ≤ 9223372036854775807 := by have := Z_DS.out; have := Z_RS.out; omega
  have sX13 : 9 + (ofL DS).size + 1 + (ofL RS).size + 2 ≤ 9223372036854775807 := by have := Z_DS.out; have := Z_RS.out; omega
  obtain ⟨X1, hX1⟩ : ∃ X1, X1 = [72, 84, 84, 80, 47, 49, 46, 49, 32] ++ DS ++ [32] ++ RS ++ [13, 10] := ⟨_, rfl⟩
  have eX1 : (⟨#[72, 84, 84, 80, 47, 49, 46, 49, 32]⟩ : ByteArray) ++ ofL DS ++ ⟨#[32]⟩ ++ ofL RS ++ ⟨#[13, 10]⟩ = ofL X1 := by rw [hX1, show (⟨#[72, 84, 84, 80, 47, 49, 46, 49, 32]⟩ : ByteArray) = ofL [72, 84, 84, 80, 47, 49, 46, 49, 32] from rfl, show (⟨#[32]⟩ : ByteArray) = ofL [32] from rfl, show (⟨#[13, 10]⟩ : ByteArray) = ofL [13, 10] from rfl, str_app, str_app, str_app, str_app]
  have Z_X1 : Hid ((ofL X1).size ≤ 1048608) := Lib.hid (by rw [← eX1]; simp only [ByteArray.size_append]; have := Z_DS.out; have := Z_RS.out; have : (⟨#[72, 84, 84, 80, 47, 49, 46, 49, 32]⟩ : ByteArray).size = 9 := rfl; have : (⟨#[32]⟩ : ByteArray).size = 1 := rfl; have : (⟨#[13, 10]⟩ : ByteArray).size = 2 := rfl; omega)
  have HX1 := Lib.hid hX1
  clear hX1
  have sX20 : (ofL X1).size + (ofL ON).size ≤ 9223372036854775807 := by have := Z_X1.out; have := Z_ON.out; omega
  obtain ⟨X2, hX2⟩ : ∃ X2, X2 = X1 ++ ON := ⟨_, rfl⟩
  have eX2 : ofL X1 ++ ofL ON = ofL X2 := by rw [hX2, str_app]
  have Z_X2 : Hid ((ofL X2).size ≤ 2199028498464) := Lib.hid (by rw [← eX2]; simp only [ByteArray.size_append]; have := Z_X1.out; have := Z_ON.out; omega)
  have HX2 := Lib.hid hX2
  clear hX2
  have sX30 : (ofL X2).size + (ofL J2).size ≤ 9223372036854775807 := by have := Z_X2.out; have := Z_J2.out; omega
  obtain ⟨X3, hX3⟩ : ∃ X3, X3 = X2 ++ J2 := ⟨_, rfl⟩
  have eX3 : ofL X2 ++ ofL J2 = ofL X3 := by rw [hX3, str_app]
  have Z_X3 : Hid ((ofL X3).size ≤ 3298545369122) := Lib.hid (by rw [← eX3]; simp only [ByteArray.size_append]; have := Z_X2.out; have := Z_J2.out; omega)
  have HX3 := Lib.hid hX3
  clear hX3
  have sX40 : (ofL X3).size + 16 ≤ 9223372036854775807 := by have := Z_X3.out; have := Z_DL.out; omega
  have sX41 : (ofL X3).size + 16 + (ofL DL).size ≤ 9223372036854775807 := by have := Z_X3.out; have := Z_DL.out; omega
  have sX42 : (ofL X3).size + 16 + (ofL DL).size + 2 ≤ 9223372036854775807 := by have := Z_X3.out; have := Z_DL.out; omega
  obtain ⟨X4, hX4⟩ : ∃ X4, X4 = X3 ++ [67, 111, 110, 116, 101, 110, 116, 45, 76, 101, 110, 103, 116, 104, 58, 32] ++ DL ++ [13, 10] := ⟨_, rfl⟩
  have eX4 : ofL X3 ++ ⟨#[67, 111, 110, 116, 101, 110, 116, 45, 76, 101, 110, 103, 116, 104, 58, 32]⟩ ++ ofL DL ++ ⟨#[13, 10]⟩ = ofL X4 := by rw [hX4, show (⟨#[67, 111, 110, 116, 101, 110, 116, 45, 76, 101, 110, 103, 116, 104, 58, 32]⟩ : ByteArray) = ofL [67, 111, 110, 116, 101, 110, 116, 45, 76, 101, 110, 103, 116, 104, 58, 32] from rfl, show (⟨#[13, 10]⟩ : ByteArray) = ofL [13, 10] from rfl, str_app, str_app, str_app]
  have Z_X4 : Hid ((ofL X4).size ≤ 3298545369160) := Lib.hid (by rw [← eX4]; simp only [ByteArray.size_append]; have := Z_X3.out; have := Z_DL.out; have : (⟨#[67, 111, 110, 116, 101, 110, 116, 45, 76, 101, 110, 103, 116, 104, 58, 32]⟩ : ByteArray).size = 16 := rfl; have : (⟨#[13, 10]⟩ : ByteArray).size = 2 := rfl; omega)
  have HX4 := Lib.hid hX4
  clear hX4
  have sX60 : (ofL X4).size + 2 ≤ 9223372036854775807 := by have := Z_X4.out; omega
  obtain ⟨X6, hX6⟩ : ∃ X6, X6 = X4 ++ [13, 10] := ⟨_, rfl⟩
  have eX6 : ofL X4 ++ ⟨#[13, 10]⟩ = ofL X6 := by rw [hX6, show (⟨#[13, 10]⟩ : ByteArray) = ofL [13, 10] from rfl, str_app]
  have Z_X6 : Hid ((ofL X6).size ≤ 3298545369162) := Lib.hid (by rw [← eX6]; simp only [ByteArray.size_append]; have := Z_X4.out; have : (⟨#[13, 10]⟩ : ByteArray).size = 2 := rfl; omega)
  have HX6 := Lib.hid hX6
  clear hX6
  have HFin : Hid (RES = X6) := Lib.hid (by rw [HR.out, HX6.out, HX4.out, HX3.out, HX2.out, HX1.out])
  clear HX3 HX2 HX1 HX4 HX6 HR
  go_enter Tryd.func12, Tryd.ntmps12
  iterate 12 go_step
  rw [← HW2.out]
  clear HW2
  go_wp2_with fail
  refine (HRS.out _).mono ?_
  rintro e w1 ⟨rfl, rfl⟩
  clear HRS c1 q1 q2
  go_wp2_with fail
  refine (HDS.out _).mono ?_
  rintro e w2 ⟨rfl, hb⟩
  replace HE := Lib.hid (HE.out.call hb)
  clear hb HDS c0
  obtain ⟨_, _, k2, _, _, _, _⟩ := reply_cells HE.out
  go_wp2_with fail
  refine (HON.out _ HE.out.below).mono ?_
  rintro e w3 ⟨rfl, hb⟩
  replace HE := Lib.hid (HE.out.call hb)
  clear hb HON k2 sX10 sX11 sX12 sX13 eX1
  obtain ⟨_, _, k2, _, _, _, _⟩ := reply_cells HE.out
  go_wp2_with fail
  refine (HJ2.out _ HE.out.below).mono ?_
  rintro e w4 ⟨rfl, hb⟩
  replace HE := Lib.hid (HE.out.call hb)
  clear hb HJ2 k2 sX20 eX2
  have ht1 := HT.out.1
  have ht2 := HT.out.2
  obtain ⟨_, _, _, k3, k4, k5, k6⟩ := reply_cells HE.out
  rw [HFr.out] at k3
  rw [HK.out] at k5
  go_wp2_with fail
  refine (HDL.out _).mono ?_
  rintro e w5 ⟨rfl, hb⟩
  replace HE := Lib.hid (HE.out.call hb)
  clear hb HDL k3 k4 k5 k6 sX30 eX3
  obtain ⟨_, _, _, k3, k4, k5, k6⟩ := reply_cells HE.out
  rw [HFr.out] at k3
  rw [HK.out] at k5
  go_wp2_with fail
  go_ret
  exact ⟨ret_string (by rw [HFin.out]), HE.out.below⟩
set_option maxHeartbeats 6400000 in
theorem head_2_close (r : ReplyP) (vl : Value) (hr : r.reason = []) (hf : r.framing = 2) (hu : r.up = []) (hk : r.keep = false) (hA : FitR r) (w : World) (hF : FL w vl r.fields) :
    Calls Tryd.prog 12 #[.agg (dcells r vl)] w fun e w' => e = .returned (.string (ofL (headE r))) ∧ Below w.heap.size w w' := by
  have hF0 := hF
  obtain ⟨pl, cl, rfl, _, _⟩ := hF0
  have hE : ∃ W2, W2 = w.alloc (.cells #[.int .i64 r.status, .string (ofL r.reason), .slice pl r.fields.length cl, .int .i64 r.framing, .int .i64 r.length, .bool r.keep, .string (ofL r.up)] RT) ∧ Bx w RT (dcells r (.slice pl r.fields.length cl)) W2 := ⟨_, rfl, Bx.start w RT _⟩
  obtain ⟨W2, hW2, hE⟩ := hE
  have HW2 := Lib.hid hW2
  have HE := Lib.hid hE
  have HON := Lib.hid (fun W (hb : Below w.heap.size w W) => R13On.on_any _ r.fields hA.fields hA.len false W (hF.below hb))
  have HJ2 := Lib.hid (fun W (hb : Below w.heap.size w W) => R13Join.joined_any _ r.fields hA.fields hA.len VIAN BARB (by decide) (by decide) W (hF.below hb))
  have HDS := Lib.hid (fun W => R13Dig.digits_any r.status hA.s0 hA.s1 W)
  have HDL := Lib.hid (fun W => R13Dig.digits_any r.length hA.l0 hA.l1 W)
  have HRS := Lib.hid (fun W => R13Reason.reason_any r.status W)
  have zON := onE_len hA.fields hA.len false
  have zJ2 := join_len hA.fields hA.len VIAN BARB (by decide) (by decide)
  have zDS := decZ_len hA.s0 hA.s1
  have zDL := decZ_len hA.l0 hA.l1
  have zU := hA.up
  have zR0 := hA.reason
  have zR := reason_len r.status
  have HR : Hid (headE r = [72, 84, 84, 80, 47, 49, 46, 49, 32] ++ decZ r.status ++ [32] ++ reasonL r.status ++ [13, 10] ++ (onE false r.fields).flatMap lineE ++ lineE (VIAN, joinV r.fields VIAN BARB) ++ [67, 111, 110, 116, 101, 110, 116, 45, 76, 101, 110, 103, 116, 104, 58, 32] ++ decZ r.length ++ [13, 10] ++ [67, 111, 110, 110, 101, 99, 116, 105, 111, 110, 58, 32, 99, 108, 111, 115, 101, 13, 10] ++ [13, 10]) := Lib.hid (by
    simp [headE, replyF, statusL, lineE, hr, hf, hu, hk, CLN, TEN, CHV, CONN, CLOSEV, UPN, UPV])
  have eu : (ofL r.up).toList = r.up := by rw [ByteArray.toList_eq]; exact toL_ofL _
  have er : (ofL r.reason).toList = r.reason := by rw [ByteArray.toList_eq]; exact toL_ofL _
  have t2 : (ofL r.up).toList = [] := by rw [eu, hu]
  have t1 : (ofL r.up).toList.isEmpty = true := by rw [eu, hu]; rfl
  have q2 : (ofL r.reason).toList = [] := by rw [er, hr]
  have q1 : (ofL r.reason).toList.isEmpty = true := by rw [er, hr]; rfl
  have HT := Lib.hid (And.intro t1 t2)
  have HFr := Lib.hid hf
  have HK := Lib.hid hk
  obtain ⟨c0, c1, _⟩ := reply_cells hE
  clear hE hW2 t1 t2 eu er hu hr hf hk
  have Z_U : Hid ((ofL (r.up)).size ≤ 1048576) := Lib.hid (by rw [ofL_size]; omega)
  have Z_ON : Hid ((ofL ((onE false r.fields).flatMap lineE)).size ≤ 2199027449856) := Lib.hid (by rw [ofL_size]; omega)
  have Z_J2 : Hid ((ofL (lineE (VIAN, joinV r.fields VIAN BARB))).size ≤ 1099516870658) := Lib.hid (by rw [ofL_size]; omega)
  have Z_DS : Hid ((ofL (decZ r.status)).size ≤ 20) := Lib.hid (by rw [ofL_size]; omega)
  have Z_RS : Hid ((ofL (reasonL r.status)).size ≤ 1048576) := Lib.hid (by rw [ofL_size]; omega)
  have Z_DL : Hid ((ofL (decZ r.length)).size ≤ 20) := Lib.hid (by rw [ofL_size]; omega)
  clear zON zJ2 zDS zU zR0 zR zDL hF
  unfold dcells
  generalize decZ r.length = DL at *
  generalize decZ r.status = DS at *
  generalize reasonL r.status = RS at *
  generalize (onE false r.fields).flatMap lineE = ON at *
  generalize lineE (VIAN, joinV r.fields VIAN BARB) = J2 at *
  generalize headE r = RES at *
  have sX10 : 9 + (ofL DS).size ≤ 9223372036854775807 := by have := Z_DS.out; have := Z_RS.out; omega
  have sX11 : 9 + (ofL DS).size + 1 ≤ 9223372036854775807 := by have := Z_DS.out; have := Z_RS.out; omega
  have sX12 : 9 + (ofL DS).size + 1 + (ofL RS).size ≤ 9223372036854775807 := by have := Z_DS.out; have := Z_RS.out; omega
  have sX13 : 9 + (ofL DS).size + 1 + (ofL RS).size + 2 ≤ 9223372036854775807 := by have := Z_DS.out; have := Z_RS.out; omega
  obtain ⟨X1, hX1⟩ : ∃ X1, X1 = [72, 84, 84, 80, 47, 49, 46, 49, 32] ++ DS ++ [32] ++ RS ++ [13, 10] := ⟨_, rfl⟩
  have eX1 : (⟨#[72, 84, 84, 80, 47, 49, 46, 49, 32]⟩ : ByteArray) ++ ofL DS ++ ⟨#[32]⟩ ++ ofL RS ++ ⟨#[13, 10]⟩ = ofL X1 := by rw [hX1, show (⟨#[72, 84, 84, 80, 47, 49, 46, 49, 32]⟩ : ByteArray) = ofL [72, 84, 84, 80, 47, 49, 46, 49, 32] from rfl, show (⟨#[32]⟩ : ByteArray) = ofL [32] from rfl, show (⟨#[13, 10]⟩ : ByteArray) = ofL [13, 10] from rfl, str_app, str_app, str_app, str_app]
  have Z_X1 : Hid ((ofL X1).size ≤ 1048608) := Lib.hid (by rw [← eX1]; simp only [ByteArray.size_append]; have := Z_DS.out; have := Z_RS.out; have : (⟨#[72, 84, 84, 80, 47, 49, 46, 49, 32]⟩ : ByteArray).size = 9 := rfl; have : (⟨#[32]⟩ : ByteArray).size = 1 := rfl; have : (⟨#[13, 10]⟩ : ByteArray).size = 2 := rfl; omega)
  have HX1 := Lib.hid hX1
  clear hX1
  have sX20 : (ofL X1).size + (ofL ON).size ≤ 9223372036854775807 := by have := Z_X1.out; have := Z_ON.out; omega
  obtain ⟨X2, hX2⟩ : ∃ X2, X2 = X1 ++ ON := ⟨_, rfl⟩
  have eX2 : ofL X1 ++ ofL ON = ofL X2 := by rw [hX2, str_app]
  have Z_X2 : Hid ((ofL X2).size ≤ 2199028498464) := Lib.hid (by rw [← eX2]; simp only [ByteArray.size_append]; have := Z_X1.out; have := Z_ON.out; omega)
  have HX2 := Lib.hid hX2
  clear hX2
  have sX30 : (ofL X2).size + (ofL J2).size ≤ 9223372036854775807 := by have := Z_X2.out; have := Z_J2.out; omega
  obtain ⟨X3, hX3⟩ : ∃ X3, X3 = X2 ++ J2 := ⟨_, rfl⟩
  have eX3 : ofL X2 ++ ofL J2 = ofL X3 := by rw [hX3, str_app]
  have Z_X3 : Hid ((ofL X3).size ≤ 3298545369122) := Lib.hid (by rw [← eX3]; simp only [ByteArray.size_append]; have := Z_X2.out; have := Z_J2.out; omega)
  have HX3 := Lib.hid hX3
  clear hX3
  have sX40 : (ofL X3).size + 16 ≤ 9223372036854775807 := by have := Z_X3.out; have := Z_DL.out; omega
  have sX41 : (ofL X3).size + 16 + (ofL DL).size ≤ 9223372036854775807 := by have := Z_X3.out; have := Z_DL.out; omega
  have sX42 : (ofL X3).size + 16 + (ofL DL).size + 2 ≤ 9223372036854775807 := by have := Z_X3.out; have := Z_DL.out; omega
  obtain ⟨X4, hX4⟩ : ∃ X4, X4 = X3 ++ [67, 111, 110, 116, 101, 110, 116, 45, 76, 101, 110, 103, 116, 104, 58, 32] ++ DL ++ [13, 10] := ⟨_, rfl⟩
  have eX4 : ofL X3 ++ ⟨#[67, 111, 110, 116, 101, 110, 116, 45, 76, 101, 110, 103, 116, 104, 58, 32]⟩ ++ ofL DL ++ ⟨#[13, 10]⟩ = ofL X4 := by rw [hX4, show (⟨#[67, 111, 110, 116, 101, 110, 116, 45, 76, 101, 110, 103, 116, 104, 58, 32]⟩ : ByteArray) = ofL [67, 111, 110, 116, 101, 110, 116, 45, 76, 101, 110, 103, 116, 104, 58, 32] from rfl, show (⟨#[13, 10]⟩ : ByteArray) = ofL [13, 10] from rfl, str_app, str_app, str_app]
  have Z_X4 : Hid ((ofL X4).size ≤ 3298545369160) := Lib.hid (by rw [← eX4]; simp only [ByteArray.size_append]; have := Z_X3.out; have := Z_DL.out; have : (⟨#[67, 111, 110, 116, 101, 110, 116, 45, 76, 101, 110, 103, 116, 104, 58, 32]⟩ : ByteArray).size = 16 := rfl; have : (⟨#[13, 10]⟩ : ByteArray).size = 2 := rfl; omega)
  have HX4 := Lib.hid hX4
  clear hX4
  have sX50 : (ofL X4).size + 19 ≤ 9223372036854775807 := by have := Z_X4.out; omega
  obtain ⟨X5, hX5⟩ : ∃ X5, X5 = X4 ++ [67, 111, 110, 110, 101, 99, 116, 105, 111, 110, 58, 32, 99, 108, 111, 115, 101, 13, 10] := ⟨_, rfl⟩
  have eX5 : ofL X4 ++ ⟨#[67, 111, 110, 110, 101, 99, 116, 105, 111, 110, 58, 32, 99, 108, 111, 115, 101, 13, 10]⟩ = ofL X5 := by rw [hX5, show (⟨#[67, 111, 110, 110, 101, 99, 116, 105, 111, 110, 58, 32, 99, 108, 111, 115, 101, 13, 10]⟩ : ByteArray) = ofL [67, 111, 110, 110, 101, 99, 116, 105, 111, 110, 58, 32, 99, 108, 111, 115, 101, 13, 10] from rfl, str_app]
  have Z_X5 : Hid ((ofL X5).size ≤ 3298545369179) := Lib.hid (by rw [← eX5]; simp only [ByteArray.size_append]; have := Z_X4.out; have : (⟨#[67, 111, 110, 110, 101, 99, 116, 105, 111, 110, 58, 32, 99, 108, 111, 115, 101, 13, 10]⟩ : ByteArray).size = 19 := rfl; omega)
  have HX5 := Lib.hid hX5
  clear hX5
  have sX60 : (ofL X5).size + 2 ≤ 9223372036854775807 := by have := Z_X5.out; omega
  obtain ⟨X6, hX6⟩ : ∃ X6, X6 = X5 ++ [13, 10] := ⟨_, rfl⟩
  have eX6 : ofL X5 ++ ⟨#[13, 10]⟩ = ofL X6 := by rw [hX6, show (⟨#[13, 10]⟩ : ByteArray) = ofL [13, 10] from rfl, str_app]
  have Z_X6 : Hid ((ofL X6).size ≤ 3298545369181) := Lib.hid (by rw [← eX6]; simp only [ByteArray.size_append]; have := Z_X5.out; have : (⟨#[13, 10]⟩ : ByteArray).size = 2 := rfl; omega)
  have HX6 := Lib.hid hX6
  clear hX6
  have HFin : Hid (RES = X6) := Lib.hid (by rw [HR.out, HX6.out, HX5.out, HX4.out, HX3.out, HX2.out, HX1.out])
  clear HX3 HX2 HX1 HX4 HX5 HX6 HR
  go_enter Tryd.func12, Tryd.ntmps12
  iterate 12 go_step
  rw [← HW2.out]
  clear HW2
  go_wp2_with fail
  refine (HRS.out _).mono ?_
  rintro e w1 ⟨rfl, rfl⟩
  clear HRS c1 q1 q2
  go_wp2_with fail
  refine (HDS.out _).mono ?_
  rintro e w2 ⟨rfl, hb⟩
  replace HE := Lib.hid (HE.out.call hb)
  clear hb HDS c0
  obtain ⟨_, _, k2, _, _, _, _⟩ := reply_cells HE.out
  go_wp2_with fail
  refine (HON.out _ HE.out.below).mono ?_
  rintro e w3 ⟨rfl, hb⟩
  replace HE := Lib.hid (HE.out.call hb)
  clear hb HON k2 sX10 sX11 sX12 sX13 eX1
  obtain ⟨_, _, k2, _, _, _, _⟩ := reply_cells HE.out
  go_wp2_with fail
  refine (HJ2.out _ HE.out.below).mono ?_
  rintro e w4 ⟨rfl, hb⟩
  replace HE := Lib.hid (HE.out.call hb)
  clear hb HJ2 k2 sX20 eX2
  have ht1 := HT.out.1
  have ht2 := HT.out.2
  obtain ⟨_, _, _, k3, k4, k5, k6⟩ := reply_cells HE.out
  rw [HFr.out] at k3
  rw [HK.out] at k5
  go_wp2_with fail
  refine (HDL.out _).mono ?_
  rintro e w5 ⟨rfl, hb⟩
  replace HE := Lib.hid (HE.out.call hb)
  clear hb HDL k3 k4 k5 k6 sX30 eX3
  obtain ⟨_, _, _, k3, k4, k5, k6⟩ := reply_cells HE.out
  rw [HFr.out] at k3
  rw [HK.out] at k5
  go_wp2_with fail
  go_ret
  exact ⟨ret_string (by rw [HFin.out]), HE.out.below⟩
set_option maxHeartbeats 6400000 in
theorem head_3_up (r : ReplyP) (vl : Value) (hr : r.reason = []) (hf : r.framing = 3) (hu : ¬ r.up = []) (hA : FitR r) (w : World) (hF : FL w vl r.fields) :
    Calls Tryd.prog 12 #[.agg (dcells r vl)] w fun e w' => e = .returned (.string (ofL (headE r))) ∧ Below w.heap.size w w' := by
  have hF0 := hF
  obtain ⟨pl, cl, rfl, _, _⟩ := hF0
  have hE : ∃ W2, W2 = w.alloc (.cells #[.int .i64 r.status, .string (ofL r.reason), .slice pl r.fields.length cl, .int .i64 r.framing, .int .i64 r.length, .bool r.keep, .string (ofL r.up)] RT) ∧ Bx w RT (dcells r (.slice pl r.fields.length cl)) W2 := ⟨_, rfl, Bx.start w RT _⟩
  obtain ⟨W2, hW2, hE⟩ := hE
  have HW2 := Lib.hid hW2
  have HE := Lib.hid hE
  have HON := Lib.hid (fun W (hb : Below w.heap.size w W) => R13On.on_any _ r.fields hA.fields hA.len false W (hF.below hb))
  have HJ2 := Lib.hid (fun W (hb : Below w.heap.size w W) => R13Join.joined_any _ r.fields hA.fields hA.len VIAN BARB (by decide) (by decide) W (hF.below hb))
  have HDS := Lib.hid (fun W => R13Dig.digits_any r.status hA.s0 hA.s1 W)
  have HRS := Lib.hid (fun W => R13Reason.reason_any r.status W)
  have zON := onE_len hA.fields hA.len false
  have zJ2 := join_len hA.fields hA.len VIAN BARB (by decide) (by decide)
  have zDS := decZ_len hA.s0 hA.s1
  have zU := hA.up
  have zR0 := hA.reason
  have zR := reason_len r.status
  have HR : Hid (headE r = [72, 84, 84, 80, 47, 49, 46, 49, 32] ++ decZ r.status ++ [32] ++ reasonL r.status ++ [13, 10] ++ (onE false r.fields).flatMap lineE ++ lineE (VIAN, joinV r.fields VIAN BARB) ++ [84, 114, 97, 110, 115, 102, 101, 114, 45, 69, 110, 99, 111, 100, 105, 110, 103, 58, 32, 99, 104, 117, 110, 107, 101, 100, 13, 10] ++ [67, 111, 110, 110, 101, 99, 116, 105, 111, 110, 58, 32, 117, 112, 103, 114, 97, 100, 101, 13, 10, 85, 112, 103, 114, 97, 100, 101, 58, 32] ++ r.up ++ [13, 10, 13, 10]) := Lib.hid (by
    simp [headE, replyF, statusL, lineE, hr, hf, hu, CLN, TEN, CHV, CONN, CLOSEV, UPN, UPV])
  have eu : (ofL r.up).toList = r.up := by rw [ByteArray.toList_eq]; exact toL_ofL _
  have er : (ofL r.reason).toList = r.reason := by rw [ByteArray.toList_eq]; exact toL_ofL _
  have t2 : ¬ (ofL r.up).toList = [] := by rw [eu]; exact hu
  have t1 : (ofL r.up).toList.isEmpty = false := by
    rw [eu]
    cases hx : r.up with
    | nil => exact absurd hx hu
    | cons => rfl
  have q2 : (ofL r.reason).toList = [] := by rw [er, hr]
  have q1 : (ofL r.reason).toList.isEmpty = true := by rw [er, hr]; rfl
  have HT := Lib.hid (And.intro t1 t2)
  have HFr := Lib.hid hf
  obtain ⟨c0, c1, _⟩ := reply_cells hE
  clear hE hW2 t1 t2 eu er hu hr hf
  have Z_U : Hid ((ofL (r.up)).size ≤ 1048576) := Lib.hid (by rw [ofL_size]; omega)
  have Z_ON : Hid ((ofL ((onE false r.fields).flatMap lineE)).size ≤ 2199027449856) := Lib.hid (by rw [ofL_size]; omega)
  have Z_J2 : Hid ((ofL (lineE (VIAN, joinV r.fields VIAN BARB))).size ≤ 1099516870658) := Lib.hid (by rw [ofL_size]; omega)
  have Z_DS : Hid ((ofL (decZ r.status)).size ≤ 20) := Lib.hid (by rw [ofL_size]; omega)
  have Z_RS : Hid ((ofL (reasonL r.status)).size ≤ 1048576) := Lib.hid (by rw [ofL_size]; omega)
  clear zON zJ2 zDS zU zR0 zR hF
  unfold dcells
  generalize decZ r.status = DS at *
  generalize reasonL r.status = RS at *
  generalize (onE false r.fields).flatMap lineE = ON at *
  generalize lineE (VIAN, joinV r.fields VIAN BARB) = J2 at *
  generalize headE r = RES at *
  have sX10 : 9 + (ofL DS).size ≤ 9223372036854775807 := by have := Z_DS.out; have := Z_RS.out; omega
  have sX11 : 9 + (ofL DS).size + 1 ≤ 9223372036854775807 := by have := Z_DS.out; have := Z_RS.out; omega
  have sX12 : 9 + (ofL DS).size + 1 + (ofL RS).size ≤ 9223372036854775807 := by have := Z_DS.out; have := Z_RS.out; omega
  have sX13 : 9 + (ofL DS).size + 1 + (ofL RS).size + 2 ≤ 9223372036854775807 := by have := Z_DS.out; have := Z_RS.out; omega
  obtain ⟨X1, hX1⟩ : ∃ X1, X1 = [72, 84, 84, 80, 47, 49, 46, 49, 32] ++ DS ++ [32] ++ RS ++ [13, 10] := ⟨_, rfl⟩
  have eX1 : (⟨#[72, 84, 84, 80, 47, 49, 46, 49, 32]⟩ : ByteArray) ++ ofL DS ++ ⟨#[32]⟩ ++ ofL RS ++ ⟨#[13, 10]⟩ = ofL X1 := by rw [hX1, show (⟨#[72, 84, 84, 80, 47, 49, 46, 49, 32]⟩ : ByteArray) = ofL [72, 84, 84, 80, 47, 49, 46, 49, 32] from rfl, show (⟨#[32]⟩ : ByteArray) = ofL [32] from rfl, show (⟨#[13, 10]⟩ : ByteArray) = ofL [13, 10] from rfl, str_app, str_app, str_app, str_app]
  have Z_X1 : Hid ((ofL X1).size ≤ 1048608) := Lib.hid (by rw [← eX1]; simp only [ByteArray.size_append]; have := Z_DS.out; have := Z_RS.out; have : (⟨#[72, 84, 84, 80, 47, 49, 46, 49, 32]⟩ : ByteArray).size = 9 := rfl; have : (⟨#[32]⟩ : ByteArray).size = 1 := rfl; have : (⟨#[13, 10]⟩ : ByteArray).size = 2 := rfl; omega)
  have HX1 := Lib.hid hX1
  clear hX1
  have sX20 : (ofL X1).size + (ofL ON).size ≤ 9223372036854775807 := by have := Z_X1.out; have := Z_ON.out; omega
  obtain ⟨X2, hX2⟩ : ∃ X2, X2 = X1 ++ ON := ⟨_, rfl⟩
  have eX2 : ofL X1 ++ ofL ON = ofL X2 := by rw [hX2, str_app]
  have Z_X2 : Hid ((ofL X2).size ≤ 2199028498464) := Lib.hid (by rw [← eX2]; simp only [ByteArray.size_append]; have := Z_X1.out; have := Z_ON.out; omega)
  have HX2 := Lib.hid hX2
  clear hX2
  have sX30 : (ofL X2).size + (ofL J2).size ≤ 9223372036854775807 := by have := Z_X2.out; have := Z_J2.out; omega
  obtain ⟨X3, hX3⟩ : ∃ X3, X3 = X2 ++ J2 := ⟨_, rfl⟩
  have eX3 : ofL X2 ++ ofL J2 = ofL X3 := by rw [hX3, str_app]
  have Z_X3 : Hid ((ofL X3).size ≤ 3298545369122) := Lib.hid (by rw [← eX3]; simp only [ByteArray.size_append]; have := Z_X2.out; have := Z_J2.out; omega)
  have HX3 := Lib.hid hX3
  clear hX3
  have sX40 : (ofL X3).size + 28 ≤ 9223372036854775807 := by have := Z_X3.out; omega
  obtain ⟨X4, hX4⟩ : ∃ X4, X4 = X3 ++ [84, 114, 97, 110, 115, 102, 101, 114, 45, 69, 110, 99, 111, 100, 105, 110, 103, 58, 32, 99, 104, 117, 110, 107, 101, 100, 13, 10] := ⟨_, rfl⟩
  have eX4 : ofL X3 ++ ⟨#[84, 114, 97, 110, 115, 102, 101, 114, 45, 69, 110, 99, 111, 100, 105, 110, 103, 58, 32, 99, 104, 117, 110, 107, 101, 100, 13, 10]⟩ = ofL X4 := by rw [hX4, show (⟨#[84, 114, 97, 110, 115, 102, 101, 114, 45, 69, 110, 99, 111, 100, 105, 110, 103, 58, 32, 99, 104, 117, 110, 107, 101, 100, 13, 10]⟩ : ByteArray) = ofL [84, 114, 97, 110, 115, 102, 101, 114, 45, 69, 110, 99, 111, 100, 105, 110, 103, 58, 32, 99, 104, 117, 110, 107, 101, 100, 13, 10] from rfl, str_app]
  have Z_X4 : Hid ((ofL X4).size ≤ 3298545369150) := Lib.hid (by rw [← eX4]; simp only [ByteArray.size_append]; have := Z_X3.out; have : (⟨#[84, 114, 97, 110, 115, 102, 101, 114, 45, 69, 110, 99, 111, 100, 105, 110, 103, 58, 32, 99, 104, 117, 110, 107, 101, 100, 13, 10]⟩ : ByteArray).size = 28 := rfl; omega)
  have HX4 := Lib.hid hX4
  clear hX4
  have sX60 : (ofL X4).size + 30 ≤ 9223372036854775807 := by have := Z_X4.out; have := Z_U.out; omega
  have sX61 : (ofL X4).size + 30 + (ofL r.up).size ≤ 9223372036854775807 := by have := Z_X4.out; have := Z_U.out; omega
  have sX62 : (ofL X4).size + 30 + (ofL r.up).size + 4 ≤ 9223372036854775807 := by have := Z_X4.out; have := Z_U.out; omega
  obtain ⟨X6, hX6⟩ : ∃ X6, X6 = X4 ++ [67, 111, 110, 110, 101, 99, 116, 105, 111, 110, 58, 32, 117, 112, 103, 114, 97, 100, 101, 13, 10, 85, 112, 103, 114, 97, 100, 101, 58, 32] ++ r.up ++ [13, 10, 13, 10] := ⟨_, rfl⟩
  have eX6 : ofL X4 ++ ⟨#[67, 111, 110, 110, 101, 99, 116, 105, 111, 110, 58, 32, 117, 112, 103, 114, 97, 100, 101, 13, 10, 85, 112, 103, 114, 97, 100, 101, 58, 32]⟩ ++ ofL r.up ++ ⟨#[13, 10, 13, 10]⟩ = ofL X6 := by rw [hX6, show (⟨#[67, 111, 110, 110, 101, 99, 116, 105, 111, 110, 58, 32, 117, 112, 103, 114, 97, 100, 101, 13, 10, 85, 112, 103, 114, 97, 100, 101, 58, 32]⟩ : ByteArray) = ofL [67, 111, 110, 110, 101, 99, 116, 105, 111, 110, 58, 32, 117, 112, 103, 114, 97, 100, 101, 13, 10, 85, 112, 103, 114, 97, 100, 101, 58, 32] from rfl, show (⟨#[13, 10, 13, 10]⟩ : ByteArray) = ofL [13, 10, 13, 10] from rfl, str_app, str_app, str_app]
  have Z_X6 : Hid ((ofL X6).size ≤ 3298546417760) := Lib.hid (by rw [← eX6]; simp only [ByteArray.size_append]; have := Z_X4.out; have := Z_U.out; have : (⟨#[67, 111, 110, 110, 101, 99, 116, 105, 111, 110, 58, 32, 117, 112, 103, 114, 97, 100, 101, 13, 10, 85, 112, 103, 114, 97, 100, 101, 58, 32]⟩ : ByteArray).size = 30 := rfl; have : (⟨#[13, 10, 13, 10]⟩ : ByteArray).size = 4 := rfl; omega)
  have HX6 := Lib.hid hX6
  clear hX6
  have HFin : Hid (RES = X6) := Lib.hid (by rw [HR.out, HX6.out, HX4.out, HX3.out, HX2.out, HX1.out])
  clear HX3 HX2 HX1 HX4 HX6 HR
  go_enter Tryd.func12, Tryd.ntmps12
  iterate 12 go_step
  rw [← HW2.out]
  clear HW2
  go_wp2_with fail
  refine (HRS.out _).mono ?_
  rintro e w1 ⟨rfl, rfl⟩
  clear HRS c1 q1 q2
  go_wp2_with fail
  refine (HDS.out _).mono ?_
  rintro e w2 ⟨rfl, hb⟩
  replace HE := Lib.hid (HE.out.call hb)
  clear hb HDS c0
  obtain ⟨_, _, k2, _, _, _, _⟩ := reply_cells HE.out
  go_wp2_with fail
  refine (HON.out _ HE.out.below).mono ?_
  rintro e w3 ⟨rfl, hb⟩
  replace HE := Lib.hid (HE.out.call hb)
  clear hb HON k2 sX10 sX11 sX12 sX13 eX1
  obtain ⟨_, _, k2, _, _, _, _⟩ := reply_cells HE.out
  go_wp2_with fail
  refine (HJ2.out _ HE.out.below).mono ?_
  rintro e w4 ⟨rfl, hb⟩
  replace HE := Lib.hid (HE.out.call hb)
  clear hb HJ2 k2 sX20 eX2
  have ht1 := HT.out.1
  have ht2 := HT.out.2
  obtain ⟨_, _, _, k3, k4, k5, k6⟩ := reply_cells HE.out
  rw [HFr.out] at k3
  go_wp2_with fail
  go_ret
  exact ⟨ret_string (by rw [HFin.out]), HE.out.below⟩
set_option maxHeartbeats 6400000 in
theorem head_3_keep (r : ReplyP) (vl : Value) (hr : r.reason = []) (hf : r.framing = 3) (hu : r.up = []) (hk : r.keep = true) (hA : FitR r) (w : World) (hF : FL w vl r.fields) :
    Calls Tryd.prog 12 #[.agg (dcells r vl)] w fun e w' => e = .returned (.string (ofL (headE r))) ∧ Below w.heap.size w w' := by
  have hF0 := hF
  obtain ⟨pl, cl, rfl, _, _⟩ := hF0
  have hE : ∃ W2, W2 = w.alloc (.cells #[.int .i64 r.status, .string (ofL r.reason), .slice pl r.fields.length cl, .int .i64 r.framing, .int .i64 r.length, .bool r.keep, .string (ofL r.up)] RT) ∧ Bx w RT (dcells r (.slice pl r.fields.length cl)) W2 := ⟨_, rfl, Bx.start w RT _⟩
  obtain ⟨W2, hW2, hE⟩ := hE
  have HW2 := Lib.hid hW2
  have HE := Lib.hid hE
  have HON := Lib.hid (fun W (hb : Below w.heap.size w W) => R13On.on_any _ r.fields hA.fields hA.len false W (hF.below hb))
  have HJ2 := Lib.hid (fun W (hb : Below w.heap.size w W) => R13Join.joined_any _ r.fields hA.fields hA.len VIAN BARB (by decide) (by decide) W (hF.below hb))
  have HDS := Lib.hid (fun W => R13Dig.digits_any r.status hA.s0 hA.s1 W)
  have HRS := Lib.hid (fun W => R13Reason.reason_any r.status W)
  have zON := onE_len hA.fields hA.len false
  have zJ2 := join_len hA.fields hA.len VIAN BARB (by decide) (by decide)
  have zDS := decZ_len hA.s0 hA.s1
  have zU := hA.up
  have zR0 := hA.reason
  have zR := reason_len r.status
  have HR : Hid (headE r = [72, 84, 84, 80, 47, 49, 46, 49, 32] ++ decZ r.status ++ [32] ++ reasonL r.status ++ [13, 10] ++ (onE false r.fields).flatMap lineE ++ lineE (VIAN, joinV r.fields VIAN BARB) ++ [84, 114, 97, 110, 115, 102, 101, 114, 45, 69, 110, 99, 111, 100, 105, 110, 103, 58, 32, 99, 104, 117, 110, 107, 101, 100, 13, 10] ++ [13, 10]) := Lib.hid (by
    simp [headE, replyF, statusL, lineE, hr, hf, hu, hk, CLN, TEN, CHV, CONN, CLOSEV, UPN, UPV])
  have eu : (ofL r.up).toList = r.up := by rw [ByteArray.toList_eq]; exact toL_ofL _
  have er : (ofL r.reason).toList = r.reason := by rw [ByteArray.toList_eq]; exact toL_ofL _
  have t2 : (ofL r.up).toList = [] := by rw [eu, hu]
  have t1 : (ofL r.up).toList.isEmpty = true := by rw [eu, hu]; rfl
  have q2 : (ofL r.reason).toList = [] := by rw [er, hr]
  have q1 : (ofL r.reason).toList.isEmpty = true := by rw [er, hr]; rfl
  have HT := Lib.hid (And.intro t1 t2)
  have HFr := Lib.hid hf
  have HK := Lib.hid hk
  obtain ⟨c0, c1, _⟩ := reply_cells hE
  clear hE hW2 t1 t2 eu er hu hr hf hk
  have Z_U : Hid ((ofL (r.up)).size ≤ 1048576) := Lib.hid (by rw [ofL_size]; omega)
  have Z_ON : Hid ((ofL ((onE false r.fields).flatMap lineE)).size ≤ 2199027449856) := Lib.hid (by rw [ofL_size]; omega)
  have Z_J2 : Hid ((ofL (lineE (VIAN, joinV r.fields VIAN BARB))).size ≤ 1099516870658) := Lib.hid (by rw [ofL_size]; omega)
  have Z_DS : Hid ((ofL (decZ r.status)).size ≤ 20) := Lib.hid (by rw [ofL_size]; omega)
  have Z_RS : Hid ((ofL (reasonL r.status)).size ≤ 1048576) := Lib.hid (by rw [ofL_size]; omega)
  clear zON zJ2 zDS zU zR0 zR hF
  unfold dcells
  generalize decZ r.status = DS at *
  generalize reasonL r.status = RS at *
  generalize (onE false r.fields).flatMap lineE = ON at *
  generalize lineE (VIAN, joinV r.fields VIAN BARB) = J2 at *
  generalize headE r = RES at *
  have sX10 : 9 + (ofL DS).size ≤ 9223372036854775807 := by have := Z_DS.out; have := Z_RS.out; omega
  have sX11 : 9 + (ofL DS).size + 1 ≤ 9223372036854775807 := by have := Z_DS.out; have := Z_RS.out; omega
  have sX12 : 9 + (ofL DS).size + 1 + (ofL RS).size ≤ 9223372036854775807 := by have := Z_DS.out; have := Z_RS.out; omega
  have sX13 : 9 + (ofL DS).size + 1 + (ofL RS).size + 2 ≤ 9223372036854775807 := by have := Z_DS.out; have := Z_RS.out; omega
  obtain ⟨X1, hX1⟩ : ∃ X1, X1 = [72, 84, 84, 80, 47, 49, 46, 49, 32] ++ DS ++ [32] ++ RS ++ [13, 10] := ⟨_, rfl⟩
  have eX1 : (⟨#[72, 84, 84, 80, 47, 49, 46, 49, 32]⟩ : ByteArray) ++ ofL DS ++ ⟨#[32]⟩ ++ ofL RS ++ ⟨#[13, 10]⟩ = ofL X1 := by rw [hX1, show (⟨#[72, 84, 84, 80, 47, 49, 46, 49, 32]⟩ : ByteArray) = ofL [72, 84, 84, 80, 47, 49, 46, 49, 32] from rfl, show (⟨#[32]⟩ : ByteArray) = ofL [32] from rfl, show (⟨#[13, 10]⟩ : ByteArray) = ofL [13, 10] from rfl, str_app, str_app, str_app, str_app]
  have Z_X1 : Hid ((ofL X1).size ≤ 1048608) := Lib.hid (by rw [← eX1]; simp only [ByteArray.size_append]; have := Z_DS.out; have := Z_RS.out; have : (⟨#[72, 84, 84, 80, 47, 49, 46, 49, 32]⟩ : ByteArray).size = 9 := rfl; have : (⟨#[32]⟩ : ByteArray).size = 1 := rfl; have : (⟨#[13, 10]⟩ : ByteArray).size = 2 := rfl; omega)
  have HX1 := Lib.hid hX1
  clear hX1
  have sX20 : (ofL X1).size + (ofL ON).size ≤ 9223372036854775807 := by have := Z_X1.out; have := Z_ON.out; omega
  obtain ⟨X2, hX2⟩ : ∃ X2, X2 = X1 ++ ON := ⟨_, rfl⟩
  have eX2 : ofL X1 ++ ofL ON = ofL X2 := by rw [hX2, str_app]
  have Z_X2 : Hid ((ofL X2).size ≤ 2199028498464) := Lib.hid (by rw [← eX2]; simp only [ByteArray.size_append]; have := Z_X1.out; have := Z_ON.out; omega)
  have HX2 := Lib.hid hX2
  clear hX2
  have sX30 : (ofL X2).size + (ofL J2).size ≤ 9223372036854775807 := by have := Z_X2.out; have := Z_J2.out; omega
  obtain ⟨X3, hX3⟩ : ∃ X3, X3 = X2 ++ J2 := ⟨_, rfl⟩
  have eX3 : ofL X2 ++ ofL J2 = ofL X3 := by rw [hX3, str_app]
  have Z_X3 : Hid ((ofL X3).size ≤ 3298545369122) := Lib.hid (by rw [← eX3]; simp only [ByteArray.size_append]; have := Z_X2.out; have := Z_J2.out; omega)
  have HX3 := Lib.hid hX3
  clear hX3
  have sX40 : (ofL X3).size + 28 ≤ 9223372036854775807 := by have := Z_X3.out; omega
  obtain ⟨X4, hX4⟩ : ∃ X4, X4 = X3 ++ [84, 114, 97, 110, 115, 102, 101, 114, 45, 69, 110, 99, 111, 100, 105, 110, 103, 58, 32, 99, 104, 117, 110, 107, 101, 100, 13, 10] := ⟨_, rfl⟩
  have eX4 : ofL X3 ++ ⟨#[84, 114, 97, 110, 115, 102, 101, 114, 45, 69, 110, 99, 111, 100, 105, 110, 103, 58, 32, 99, 104, 117, 110, 107, 101, 100, 13, 10]⟩ = ofL X4 := by rw [hX4, show (⟨#[84, 114, 97, 110, 115, 102, 101, 114, 45, 69, 110, 99, 111, 100, 105, 110, 103, 58, 32, 99, 104, 117, 110, 107, 101, 100, 13, 10]⟩ : ByteArray) = ofL [84, 114, 97, 110, 115, 102, 101, 114, 45, 69, 110, 99, 111, 100, 105, 110, 103, 58, 32, 99, 104, 117, 110, 107, 101, 100, 13, 10] from rfl, str_app]
  have Z_X4 : Hid ((ofL X4).size ≤ 3298545369150) := Lib.hid (by rw [← eX4]; simp only [ByteArray.size_append]; have := Z_X3.out; have : (⟨#[84, 114, 97, 110, 115, 102, 101, 114, 45, 69, 110, 99, 111, 100, 105, 110, 103, 58, 32, 99, 104, 117, 110, 107, 101, 100, 13, 10]⟩ : ByteArray).size = 28 := rfl; omega)
  have HX4 := Lib.hid hX4
  clear hX4
  have sX60 : (ofL X4).size + 2 ≤ 9223372036854775807 := by have := Z_X4.out; omega
  obtain ⟨X6, hX6⟩ : ∃ X6, X6 = X4 ++ [13, 10] := ⟨_, rfl⟩
  have eX6 : ofL X4 ++ ⟨#[13, 10]⟩ = ofL X6 := by rw [hX6, show (⟨#[13, 10]⟩ : ByteArray) = ofL [13, 10] from rfl, str_app]
  have Z_X6 : Hid ((ofL X6).size ≤ 3298545369152) := Lib.hid (by rw [← eX6]; simp only [ByteArray.size_append]; have := Z_X4.out; have : (⟨#[13, 10]⟩ : ByteArray).size = 2 := rfl; omega)
  have HX6 := Lib.hid hX6
  clear hX6
  have HFin : Hid (RES = X6) := Lib.hid (by rw [HR.out, HX6.out, HX4.out, HX3.out, HX2.out, HX1.out])
  clear HX3 HX2 HX1 HX4 HX6 HR
  go_enter Tryd.func12, Tryd.ntmps12
  iterate 12 go_step
  rw [← HW2.out]
  clear HW2
  go_wp2_with fail
  refine (HRS.out _).mono ?_
  rintro e w1 ⟨rfl, rfl⟩
  clear HRS c1 q1 q2
  go_wp2_with fail
  refine (HDS.out _).mono ?_
  rintro e w2 ⟨rfl, hb⟩
  replace HE := Lib.hid (HE.out.call hb)
  clear hb HDS c0
  obtain ⟨_, _, k2, _, _, _, _⟩ := reply_cells HE.out
  go_wp2_with fail
  refine (HON.out _ HE.out.below).mono ?_
  rintro e w3 ⟨rfl, hb⟩
  replace HE := Lib.hid (HE.out.call hb)
  clear hb HON k2 sX10 sX11 sX12 sX13 eX1
  obtain ⟨_, _, k2, _, _, _, _⟩ := reply_cells HE.out
  go_wp2_with fail
  refine (HJ2.out _ HE.out.below).mono ?_
  rintro e w4 ⟨rfl, hb⟩
  replace HE := Lib.hid (HE.out.call hb)
  clear hb HJ2 k2 sX20 eX2
  have ht1 := HT.out.1
  have ht2 := HT.out.2
  obtain ⟨_, _, _, k3, k4, k5, k6⟩ := reply_cells HE.out
  rw [HFr.out] at k3
  rw [HK.out] at k5
  go_wp2_with fail
  go_ret
  exact ⟨ret_string (by rw [HFin.out]), HE.out.below⟩
set_option maxHeartbeats 6400000 in
theorem head_3_close (r : ReplyP) (vl : Value) (hr : r.reason = []) (hf : r.framing = 3) (hu : r.up = []) (hk : r.keep = false) (hA : FitR r) (w : World) (hF : FL w vl r.fields) :
    Calls Tryd.prog 12 #[.agg (dcells r vl)] w fun e w' => e = .returned (.string (ofL (headE r))) ∧ Below w.heap.size w w' := by
  have hF0 := hF
  obtain ⟨pl, cl, rfl, _, _⟩ := hF0
  have hE : ∃ W2, W2 = w.alloc (.cells #[.int .i64 r.status, .string (ofL r.reason), .slice pl r.fields.length cl, .int .i64 r.framing, .int .i64 r.length, .bool r.keep, .string (ofL r.up)] RT) ∧ Bx w RT (dcells r (.slice pl r.fields.length cl)) W2 := ⟨_, rfl, Bx.start w RT _⟩
  obtain ⟨W2, hW2, hE⟩ := hE
  have HW2 := Lib.hid hW2
  have HE := Lib.hid hE
  have HON := Lib.hid (fun W (hb : Below w.heap.size w W) => R13On.on_any _ r.fields hA.fields hA.len false W (hF.below hb))
  have HJ2 := Lib.hid (fun W (hb : Below w.heap.size w W) => R13Join.joined_any _ r.fields hA.fields hA.len VIAN BARB (by decide) (by decide) W (hF.below hb))
  have HDS := Lib.hid (fun W => R13Dig.digits_any r.status hA.s0 hA.s1 W)
  have HRS := Lib.hid (fun W => R13Reason.reason_any r.status W)
  have zON := onE_len hA.fields hA.len false
  have zJ2 := join_len hA.fields hA.len VIAN BARB (by decide) (by decide)
  have zDS := decZ_len hA.s0 hA.s1
  have zU := hA.up
  have zR0 := hA.reason
  have zR := reason_len r.status
  have HR : Hid (headE r = [72, 84, 84, 80, 47, 49, 46, 49, 32] ++ decZ r.status ++ [32] ++ reasonL r.status ++ [13, 10] ++ (onE false r.fields).flatMap lineE ++ lineE (VIAN, joinV r.fields VIAN BARB) ++ [84, 114, 97, 110, 115, 102, 101, 114, 45, 69, 110, 99, 111, 100, 105, 110, 103, 58, 32, 99, 104, 117, 110, 107, 101, 100, 13, 10] ++ [67, 111, 110, 110, 101, 99, 116, 105, 111, 110, 58, 32, 99, 108, 111, 115, 101, 13, 10] ++ [13, 10]) := Lib.hid (by
    simp [headE, replyF, statusL, lineE, hr, hf, hu, hk, CLN, TEN, CHV, CONN, CLOSEV, UPN, UPV])
  have eu : (ofL r.up).toList = r.up := by rw [ByteArray.toList_eq]; exact toL_ofL _
  have er : (ofL r.reason).toList = r.reason := by rw [ByteArray.toList_eq]; exact toL_ofL _
  have t2 : (ofL r.up).toList = [] := by rw [eu, hu]
  have t1 : (ofL r.up).toList.isEmpty = true := by rw [eu, hu]; rfl
  have q2 : (ofL r.reason).toList = [] := by rw [er, hr]
  have q1 : (ofL r.reason).toList.isEmpty = true := by rw [er, hr]; rfl
  have HT := Lib.hid (And.intro t1 t2)
  have HFr := Lib.hid hf
  have HK := Lib.hid hk
  obtain ⟨c0, c1, _⟩ := reply_cells hE
  clear hE hW2 t1 t2 eu er hu hr hf hk
  have Z_U : Hid ((ofL (r.up)).size ≤ 1048576) := Lib.hid (by rw [ofL_size]; omega)
  have Z_ON : Hid ((ofL ((onE false r.fields).flatMap lineE)).size ≤ 2199027449856) := Lib.hid (by rw [ofL_size]; omega)
  have Z_J2 : Hid ((ofL (lineE (VIAN, joinV r.fields VIAN BARB))).size ≤ 1099516870658) := Lib.hid (by rw [ofL_size]; omega)
  have Z_DS : Hid ((ofL (decZ r.status)).size ≤ 20) := Lib.hid (by rw [ofL_size]; omega)
  have Z_RS : Hid ((ofL (reasonL r.status)).size ≤ 1048576) := Lib.hid (by rw [ofL_size]; omega)
  clear zON zJ2 zDS zU zR0 zR hF
  unfold dcells
  generalize decZ r.status = DS at *
  generalize reasonL r.status = RS at *
  generalize (onE false r.fields).flatMap lineE = ON at *
  generalize lineE (VIAN, joinV r.fields VIAN BARB) = J2 at *
  generalize headE r = RES at *
  have sX10 : 9 + (ofL DS).size ≤ 9223372036854775807 := by have := Z_DS.out; have := Z_RS.out; omega
  have sX11 : 9 + (ofL DS).size + 1 ≤ 9223372036854775807 := by have := Z_DS.out; have := Z_RS.out; omega
  have sX12 : 9 + (ofL DS).size + 1 + (ofL RS).size ≤ 9223372036854775807 := by have := Z_DS.out; have := Z_RS.out; omega
  have sX13 : 9 + (ofL DS).size + 1 + (ofL RS).size + 2 ≤ 9223372036854775807 := by have := Z_DS.out; have := Z_RS.out; omega
  obtain ⟨X1, hX1⟩ : ∃ X1, X1 = [72, 84, 84, 80, 47, 49, 46, 49, 32] ++ DS ++ [32] ++ RS ++ [13, 10] := ⟨_, rfl⟩
  have eX1 : (⟨#[72, 84, 84, 80, 47, 49, 46, 49, 32]⟩ : ByteArray) ++ ofL DS ++ ⟨#[32]⟩ ++ ofL RS ++ ⟨#[13, 10]⟩ = ofL X1 := by rw [hX1, show (⟨#[72, 84, 84, 80, 47, 49, 46, 49, 32]⟩ : ByteArray) = ofL [72, 84, 84, 80, 47, 49, 46, 49, 32] from rfl, show (⟨#[32]⟩ : ByteArray) = ofL [32] from rfl, show (⟨#[13, 10]⟩ : ByteArray) = ofL [13, 10] from rfl, str_app, str_app, str_app, str_app]
  have Z_X1 : Hid ((ofL X1).size ≤ 1048608) := Lib.hid (by rw [← eX1]; simp only [ByteArray.size_append]; have := Z_DS.out; have := Z_RS.out; have : (⟨#[72, 84, 84, 80, 47, 49, 46, 49, 32]⟩ : ByteArray).size = 9 := rfl; have : (⟨#[32]⟩ : ByteArray).size = 1 := rfl; have : (⟨#[13, 10]⟩ : ByteArray).size = 2 := rfl; omega)
  have HX1 := Lib.hid hX1
  clear hX1
  have sX20 : (ofL X1).size + (ofL ON).size ≤ 9223372036854775807 := by have := Z_X1.out; have := Z_ON.out; omega
  obtain ⟨X2, hX2⟩ : ∃ X2, X2 = X1 ++ ON := ⟨_, rfl⟩
  have eX2 : ofL X1 ++ ofL ON = ofL X2 := by rw [hX2, str_app]
  have Z_X2 : Hid ((ofL X2).size ≤ 2199028498464) := Lib.hid (by rw [← eX2]; simp only [ByteArray.size_append]; have := Z_X1.out; have := Z_ON.out; omega)
  have HX2 := Lib.hid hX2
  clear hX2
  have sX30 : (ofL X2).size + (ofL J2).size ≤ 9223372036854775807 := by have := Z_X2.out; have := Z_J2.out; omega
  obtain ⟨X3, hX3⟩ : ∃ X3, X3 = X2 ++ J2 := ⟨_, rfl⟩
  have eX3 : ofL X2 ++ ofL J2 = ofL X3 := by rw [hX3, str_app]
  have Z_X3 : Hid ((ofL X3).size ≤ 3298545369122) := Lib.hid (by rw [← eX3]; simp only [ByteArray.size_append]; have := Z_X2.out; have := Z_J2.out; omega)
  have HX3 := Lib.hid hX3
  clear hX3
  have sX40 : (ofL X3).size + 28 ≤ 9223372036854775807 := by have := Z_X3.out; omega
  obtain ⟨X4, hX4⟩ : ∃ X4, X4 = X3 ++ [84, 114, 97, 110, 115, 102, 101, 114, 45, 69, 110, 99, 111, 100, 105, 110, 103, 58, 32, 99, 104, 117, 110, 107, 101, 100, 13, 10] := ⟨_, rfl⟩
  have eX4 : ofL X3 ++ ⟨#[84, 114, 97, 110, 115, 102, 101, 114, 45, 69, 110, 99, 111, 100, 105, 110, 103, 58, 32, 99, 104, 117, 110, 107, 101, 100, 13, 10]⟩ = ofL X4 := by rw [hX4, show (⟨#[84, 114, 97, 110, 115, 102, 101, 114, 45, 69, 110, 99, 111, 100, 105, 110, 103, 58, 32, 99, 104, 117, 110, 107, 101, 100, 13, 10]⟩ : ByteArray) = ofL [84, 114, 97, 110, 115, 102, 101, 114, 45, 69, 110, 99, 111, 100, 105, 110, 103, 58, 32, 99, 104, 117, 110, 107, 101, 100, 13, 10] from rfl, str_app]
  have Z_X4 : Hid ((ofL X4).size ≤ 3298545369150) := Lib.hid (by rw [← eX4]; simp only [ByteArray.size_append]; have := Z_X3.out; have : (⟨#[84, 114, 97, 110, 115, 102, 101, 114, 45, 69, 110, 99, 111, 100, 105, 110, 103, 58, 32, 99, 104, 117, 110, 107, 101, 100, 13, 10]⟩ : ByteArray).size = 28 := rfl; omega)
  have HX4 := Lib.hid hX4
  clear hX4
  have sX50 : (ofL X4).size + 19 ≤ 9223372036854775807 := by have := Z_X4.out; omega
  obtain ⟨X5, hX5⟩ : ∃ X5, X5 = X4 ++ [67, 111, 110, 110, 101, 99, 116, 105, 111, 110, 58, 32, 99, 108, 111, 115, 101, 13, 10] := ⟨_, rfl⟩
  have eX5 : ofL X4 ++ ⟨#[67, 111, 110, 110, 101, 99, 116, 105, 111, 110, 58, 32, 99, 108, 111, 115, 101, 13, 10]⟩ = ofL X5 := by rw [hX5, show (⟨#[67, 111, 110, 110, 101, 99, 116, 105, 111, 110, 58, 32, 99, 108, 111, 115, 101, 13, 10]⟩ : ByteArray) = ofL [67, 111, 110, 110, 101, 99, 116, 105, 111, 110, 58, 32, 99, 108, 111, 115, 101, 13, 10] from rfl, str_app]
  have Z_X5 : Hid ((ofL X5).size ≤ 3298545369169) := Lib.hid (by rw [← eX5]; simp only [ByteArray.size_append]; have := Z_X4.out; have : (⟨#[67, 111, 110, 110, 101, 99, 116, 105, 111, 110, 58, 32, 99, 108, 111, 115, 101, 13, 10]⟩ : ByteArray).size = 19 := rfl; omega)
  have HX5 := Lib.hid hX5
  clear hX5
  have sX60 : (ofL X5).size + 2 ≤ 9223372036854775807 := by have := Z_X5.out; omega
  obtain ⟨X6, hX6⟩ : ∃ X6, X6 = X5 ++ [13, 10] := ⟨_, rfl⟩
  have eX6 : ofL X5 ++ ⟨#[13, 10]⟩ = ofL X6 := by rw [hX6, show (⟨#[13, 10]⟩ : ByteArray) = ofL [13, 10] from rfl, str_app]
  have Z_X6 : Hid ((ofL X6).size ≤ 3298545369171) := Lib.hid (by rw [← eX6]; simp only [ByteArray.size_append]; have := Z_X5.out; have : (⟨#[13, 10]⟩ : ByteArray).size = 2 := rfl; omega)
  have HX6 := Lib.hid hX6
  clear hX6
  have HFin : Hid (RES = X6) := Lib.hid (by rw [HR.out, HX6.out, HX5.out, HX4.out, HX3.out, HX2.out, HX1.out])
  clear HX3 HX2 HX1 HX4 HX5 HX6 HR
  go_enter Tryd.func12, Tryd.ntmps12
  iterate 12 go_step
  rw [← HW2.out]
  clear HW2
  go_wp2_with fail
  refine (HRS.out _).mono ?_
  rintro e w1 ⟨rfl, rfl⟩
  clear HRS c1 q1 q2
  go_wp2_with fail
  refine (HDS.out _).mono ?_
  rintro e w2 ⟨rfl, hb⟩
  replace HE := Lib.hid (HE.out.call hb)
  clear hb HDS c0
  obtain ⟨_, _, k2, _, _, _, _⟩ := reply_cells HE.out
  go_wp2_with fail
  refine (HON.out _ HE.out.below).mono ?_
  rintro e w3 ⟨rfl, hb⟩
  replace HE := Lib.hid (HE.out.call hb)
  clear hb HON k2 sX10 sX11 sX12 sX13 eX1
  obtain ⟨_, _, k2, _, _, _, _⟩ := reply_cells HE.out
  go_wp2_with fail
  refine (HJ2.out _ HE.out.below).mono ?_
  rintro e w4 ⟨rfl, hb⟩
  replace HE := Lib.hid (HE.out.call hb)
  clear hb HJ2 k2 sX20 eX2
  have ht1 := HT.out.1
  have ht2 := HT.out.2
  obtain ⟨_, _, _, k3, k4, k5, k6⟩ := reply_cells HE.out
  rw [HFr.out] at k3
  rw [HK.out] at k5
  go_wp2_with fail
  go_ret
  exact ⟨ret_string (by rw [HFin.out]), HE.out.below⟩
set_option maxHeartbeats 6400000 in
theorem head_0_up (r : ReplyP) (vl : Value) (hr : r.reason = []) (hf : ¬ r.framing = 2 ∧ ¬ r.framing = 3) (hu : ¬ r.up = []) (hA : FitR r) (w : World) (hF : FL w vl r.fields) :
    Calls Tryd.prog 12 #[.agg (dcells r vl)] w fun e w' => e = .returned (.string (ofL (headE r))) ∧ Below w.heap.size w w' := by
  have hF0 := hF
  obtain ⟨pl, cl, rfl, _, _⟩ := hF0
  have hE : ∃ W2, W2 = w.alloc (.cells #[.int .i64 r.status, .string (ofL r.reason), .slice pl r.fields.length cl, .int .i64 r.framing, .int .i64 r.length, .bool r.keep, .string (ofL r.up)] RT) ∧ Bx w RT (dcells r (.slice pl r.fields.length cl)) W2 := ⟨_, rfl, Bx.start w RT _⟩
  obtain ⟨W2, hW2, hE⟩ := hE
  have HW2 := Lib.hid hW2
  have HE := Lib.hid hE
  have HON := Lib.hid (fun W (hb : Below w.heap.size w W) => R13On.on_any _ r.fields hA.fields hA.len false W (hF.below hb))
  have HJ2 := Lib.hid (fun W (hb : Below w.heap.size w W) => R13Join.joined_any _ r.fields hA.fields hA.len VIAN BARB (by decide) (by decide) W (hF.below hb))
  have HDS := Lib.hid (fun W => R13Dig.digits_any r.status hA.s0 hA.s1 W)
  have HRS := Lib.hid (fun W => R13Reason.reason_any r.status W)
  have zON := onE_len hA.fields hA.len false
  have zJ2 := join_len hA.fields hA.len VIAN BARB (by decide) (by decide)
  have zDS := decZ_len hA.s0 hA.s1
  have zU := hA.up
  have zR0 := hA.reason
  have zR := reason_len r.status
  have HR : Hid (headE r = [72, 84, 84, 80, 47, 49, 46, 49, 32] ++ decZ r.status ++ [32] ++ reasonL r.status ++ [13, 10] ++ (onE false r.fields).flatMap lineE ++ lineE (VIAN, joinV r.fields VIAN BARB) ++ [67, 111, 110, 110, 101, 99, 116, 105, 111, 110, 58, 32, 117, 112, 103, 114, 97, 100, 101, 13, 10, 85, 112, 103, 114, 97, 100, 101, 58, 32] ++ r.up ++ [13, 10, 13, 10]) := Lib.hid (by
    simp [headE, replyF, statusL, lineE, hr, hf.1, hf.2, hu, CLN, TEN, CHV, CONN, CLOSEV, UPN, UPV])
  have eu : (ofL r.up).toList = r.up := by rw [ByteArray.toList_eq]; exact toL_ofL _
  have er : (ofL r.reason).toList = r.reason := by rw [ByteArray.toList_eq]; exact toL_ofL _
  have t2 : ¬ (ofL r.up).toList = [] := by rw [eu]; exact hu
  have t1 : (ofL r.up).toList.isEmpty = false := by
    rw [eu]
    cases hx : r.up with
    | nil => exact absurd hx hu
    | cons => rfl
  have q2 : (ofL r.reason).toList = [] := by rw [er, hr]
  have q1 : (ofL r.reason).toList.isEmpty = true := by rw [er, hr]; rfl
  have HT := Lib.hid (And.intro t1 t2)
  have HFr := Lib.hid hf
  obtain ⟨c0, c1, _⟩ := reply_cells hE
  clear hE hW2 t1 t2 eu er hu hr hf
  have Z_U : Hid ((ofL (r.up)).size ≤ 1048576) := Lib.hid (by rw [ofL_size]; omega)
  have Z_ON : Hid ((ofL ((onE false r.fields).flatMap lineE)).size ≤ 2199027449856) := Lib.hid (by rw [ofL_size]; omega)
  have Z_J2 : Hid ((ofL (lineE (VIAN, joinV r.fields VIAN BARB))).size ≤ 1099516870658) := Lib.hid (by rw [ofL_size]; omega)
  have Z_DS : Hid ((ofL (decZ r.status)).size ≤ 20) := Lib.hid (by rw [ofL_size]; omega)
  have Z_RS : Hid ((ofL (reasonL r.status)).size ≤ 1048576) := Lib.hid (by rw [ofL_size]; omega)
  clear zON zJ2 zDS zU zR0 zR hF
  unfold dcells
  generalize decZ r.status = DS at *
  generalize reasonL r.status = RS at *
  generalize (onE false r.fields).flatMap lineE = ON at *
  generalize lineE (VIAN, joinV r.fields VIAN BARB) = J2 at *
  generalize headE r = RES at *
  have sX10 : 9 + (ofL DS).size ≤ 9223372036854775807 := by have := Z_DS.out; have := Z_RS.out; omega
  have sX11 : 9 + (ofL DS).size + 1 ≤ 9223372036854775807 := by have := Z_DS.out; have := Z_RS.out; omega
  have sX12 : 9 + (ofL DS).size + 1 + (ofL RS).size ≤ 9223372036854775807 := by have := Z_DS.out; have := Z_RS.out; omega
  have sX13 : 9 + (ofL DS).size + 1 + (ofL RS).size + 2 ≤ 9223372036854775807 := by have := Z_DS.out; have := Z_RS.out; omega
  obtain ⟨X1, hX1⟩ : ∃ X1, X1 = [72, 84, 84, 80, 47, 49, 46, 49, 32] ++ DS ++ [32] ++ RS ++ [13, 10] := ⟨_, rfl⟩
  have eX1 : (⟨#[72, 84, 84, 80, 47, 49, 46, 49, 32]⟩ : ByteArray) ++ ofL DS ++ ⟨#[32]⟩ ++ ofL RS ++ ⟨#[13, 10]⟩ = ofL X1 := by rw [hX1, show (⟨#[72, 84, 84, 80, 47, 49, 46, 49, 32]⟩ : ByteArray) = ofL [72, 84, 84, 80, 47, 49, 46, 49, 32] from rfl, show (⟨#[32]⟩ : ByteArray) = ofL [32] from rfl, show (⟨#[13, 10]⟩ : ByteArray) = ofL [13, 10] from rfl, str_app, str_app, str_app, str_app]
  have Z_X1 : Hid ((ofL X1).size ≤ 1048608) := Lib.hid (by rw [← eX1]; simp only [ByteArray.size_append]; have := Z_DS.out; have := Z_RS.out; have : (⟨#[72, 84, 84, 80, 47, 49, 46, 49, 32]⟩ : ByteArray).size = 9 := rfl; have : (⟨#[32]⟩ : ByteArray).size = 1 := rfl; have : (⟨#[13, 10]⟩ : ByteArray).size = 2 := rfl; omega)
  have HX1 := Lib.hid hX1
  clear hX1
  have sX20 : (ofL X1).size + (ofL ON).size ≤ 9223372036854775807 := by have := Z_X1.out; have := Z_ON.out; omega
  obtain ⟨X2, hX2⟩ : ∃ X2, X2 = X1 ++ ON := ⟨_, rfl⟩
  have eX2 : ofL X1 ++ ofL ON = ofL X2 := by rw [hX2, str_app]
  have Z_X2 : Hid ((ofL X2).size ≤ 2199028498464) := Lib.hid (by rw [← eX2]; simp only [ByteArray.size_append]; have := Z_X1.out; have := Z_ON.out; omega)
  have HX2 := Lib.hid hX2
  clear hX2
  have sX30 : (ofL X2).size + (ofL J2).size ≤ 9223372036854775807 := by have := Z_X2.out; have := Z_J2.out; omega
  obtain ⟨X3, hX3⟩ : ∃ X3, X3 = X2 ++ J2 := ⟨_, rfl⟩
  have eX3 : ofL X2 ++ ofL J2 = ofL X3 := by rw [hX3, str_app]
  have Z_X3 : Hid ((ofL X3).size ≤ 3298545369122) := Lib.hid (by rw [← eX3]; simp only [ByteArray.size_append]; have := Z_X2.out; have := Z_J2.out; omega)
  have HX3 := Lib.hid hX3
  clear hX3
  have sX60 : (ofL X3).size + 30 ≤ 9223372036854775807 := by have := Z_X3.out; have := Z_U.out; omega
  have sX61 : (ofL X3).size + 30 + (ofL r.up).size ≤ 9223372036854775807 := by have := Z_X3.out; have := Z_U.out; omega
  have sX62 : (ofL X3).size + 30 + (ofL r.up).size + 4 ≤ 9223372036854775807 := by have := Z_X3.out; have := Z_U.out; omega
  obtain ⟨X6, hX6⟩ : ∃ X6, X6 = X3 ++ [67, 111, 110, 110, 101, 99, 116, 105, 111, 110, 58, 32, 117, 112, 103, 114, 97, 100, 101, 13, 10, 85, 112, 103, 114, 97, 100, 101, 58, 32] ++ r.up ++ [13, 10, 13, 10] := ⟨_, rfl⟩
  have eX6 : ofL X3 ++ ⟨#[67, 111, 110, 110, 101, 99, 116, 105, 111, 110, 58, 32, 117, 112, 103, 114, 97, 100, 101, 13, 10, 85, 112, 103, 114, 97, 100, 101, 58, 32]⟩ ++ ofL r.up ++ ⟨#[13, 10, 13, 10]⟩ = ofL X6 := by rw [hX6, show (⟨#[67, 111, 110, 110, 101, 99, 116, 105, 111, 110, 58, 32, 117, 112, 103, 114, 97, 100, 101, 13, 10, 85, 112, 103, 114, 97, 100, 101, 58, 32]⟩ : ByteArray) = ofL [67, 111, 110, 110, 101, 99, 116, 105, 111, 110, 58, 32, 117, 112, 103, 114, 97, 100, 101, 13, 10, 85, 112, 103, 114, 97, 100, 101, 58, 32] from rfl, show (⟨#[13, 10, 13, 10]⟩ : ByteArray) = ofL [13, 10, 13, 10] from rfl, str_app, str_app, str_app]
  have Z_X6 : Hid ((ofL X6).size ≤ 3298546417732) := Lib.hid (by rw [← eX6]; simp only [ByteArray.size_append]; have := Z_X3.out; have := Z_U.out; have : (⟨#[67, 111, 110, 110, 101, 99, 116, 105, 111, 110, 58, 32, 117, 112, 103, 114, 97, 100, 101, 13, 10, 85, 112, 103, 114, 97, 100, 101, 58, 32]⟩ : ByteArray).size = 30 := rfl; have : (⟨#[13, 10, 13, 10]⟩ : ByteArray).size = 4 := rfl; omega)
  have HX6 := Lib.hid hX6
  clear hX6
  have HFin : Hid (RES = X6) := Lib.hid (by rw [HR.out, HX6.out, HX3.out, HX2.out, HX1.out])
  clear HX3 HX2 HX1 HX6 HR
  go_enter Tryd.func12, Tryd.ntmps12
  iterate 12 go_step
  rw [← HW2.out]
  clear HW2
  go_wp2_with fail
  refine (HRS.out _).mono ?_
  rintro e w1 ⟨rfl, rfl⟩
  clear HRS c1 q1 q2
  go_wp2_with fail
  refine (HDS.out _).mono ?_
  rintro e w2 ⟨rfl, hb⟩
  replace HE := Lib.hid (HE.out.call hb)
  clear hb HDS c0
  obtain ⟨_, _, k2, _, _, _, _⟩ := reply_cells HE.out
  go_wp2_with fail
  refine (HON.out _ HE.out.below).mono ?_
  rintro e w3 ⟨rfl, hb⟩
  replace HE := Lib.hid (HE.out.call hb)
  clear hb HON k2 sX10 sX11 sX12 sX13 eX1
  obtain ⟨_, _, k2, _, _, _, _⟩ := reply_cells HE.out
  go_wp2_with fail
  refine (HJ2.out _ HE.out.below).mono ?_
  rintro e w4 ⟨rfl, hb⟩
  replace HE := Lib.hid (HE.out.call hb)
  clear hb HJ2 k2 sX20 eX2
  have ht1 := HT.out.1
  have ht2 := HT.out.2
  obtain ⟨_, _, _, k3, k4, k5, k6⟩ := reply_cells HE.out
  have f1 : (r.framing == 2) = false := beq_eq_false_iff_ne.2 HFr.out.1
  have f2 : (r.framing == 3) = false := beq_eq_false_iff_ne.2 HFr.out.2
  have f3 : ¬ r.framing = 2 := HFr.out.1
  have f4 : ¬ r.framing = 3 := HFr.out.2
  go_wp2_with fail
  go_ret
  exact ⟨ret_string (by rw [HFin.out]), HE.out.below⟩
set_option maxHeartbeats 6400000 in
theorem head_0_keep (r : ReplyP) (vl : Value) (hr : r.reason = []) (hf : ¬ r.framing = 2 ∧ ¬ r.framing = 3) (hu : r.up = []) (hk : r.keep = true) (hA : FitR r) (w : World) (hF : FL w vl r.fields) :
    Calls Tryd.prog 12 #[.agg (dcells r vl)] w fun e w' => e = .returned (.string (ofL (headE r))) ∧ Below w.heap.size w w' := by
  have hF0 := hF
  obtain ⟨pl, cl, rfl, _, _⟩ := hF0
  have hE : ∃ W2, W2 = w.alloc (.cells #[.int .i64 r.status, .string (ofL r.reason), .slice pl r.fields.length cl, .int .i64 r.framing, .int .i64 r.length, .bool r.keep, .string (ofL r.up)] RT) ∧ Bx w RT (dcells r (.slice pl r.fields.length cl)) W2 := ⟨_, rfl, Bx.start w RT _⟩
  obtain ⟨W2, hW2, hE⟩ := hE
  have HW2 := Lib.hid hW2
  have HE := Lib.hid hE
  have HON := Lib.hid (fun W (hb : Below w.heap.size w W) => R13On.on_any _ r.fields hA.fields hA.len false W (hF.below hb))
  have HJ2 := Lib.hid (fun W (hb : Below w.heap.size w W) => R13Join.joined_any _ r.fields hA.fields hA.len VIAN BARB (by decide) (by decide) W (hF.below hb))
  have HDS := Lib.hid (fun W => R13Dig.digits_any r.status hA.s0 hA.s1 W)
  have HRS := Lib.hid (fun W => R13Reason.reason_any r.status W)
  have zON := onE_len hA.fields hA.len false
  have zJ2 := join_len hA.fields hA.len VIAN BARB (by decide) (by decide)
  have zDS := decZ_len hA.s0 hA.s1
  have zU := hA.up
  have zR0 := hA.reason
  have zR := reason_len r.status
  have HR : Hid (headE r = [72, 84, 84, 80, 47, 49, 46, 49, 32] ++ decZ r.status ++ [32] ++ reasonL r.status ++ [13, 10] ++ (onE false r.fields).flatMap lineE ++ lineE (VIAN, joinV r.fields VIAN BARB) ++ [13, 10]) := Lib.hid (by
    simp [headE, replyF, statusL, lineE, hr, hf.1, hf.2, hu, hk, CLN, TEN, CHV, CONN, CLOSEV, UPN, UPV])
  have eu : (ofL r.up).toList = r.up := by rw [ByteArray.toList_eq]; exact toL_ofL _
  have er : (ofL r.reason).toList = r.reason := by rw [ByteArray.toList_eq]; exact toL_ofL _
  have t2 : (ofL r.up).toList = [] := by rw [eu, hu]
  have t1 : (ofL r.up).toList.isEmpty = true := by rw [eu, hu]; rfl
  have q2 : (ofL r.reason).toList = [] := by rw [er, hr]
  have q1 : (ofL r.reason).toList.isEmpty = true := by rw [er, hr]; rfl
  have HT := Lib.hid (And.intro t1 t2)
  have HFr := Lib.hid hf
  have HK := Lib.hid hk
  obtain ⟨c0, c1, _⟩ := reply_cells hE
  clear hE hW2 t1 t2 eu er hu hr hf hk
  have Z_U : Hid ((ofL (r.up)).size ≤ 1048576) := Lib.hid (by rw [ofL_size]; omega)
  have Z_ON : Hid ((ofL ((onE false r.fields).flatMap lineE)).size ≤ 2199027449856) := Lib.hid (by rw [ofL_size]; omega)
  have Z_J2 : Hid ((ofL (lineE (VIAN, joinV r.fields VIAN BARB))).size ≤ 1099516870658) := Lib.hid (by rw [ofL_size]; omega)
  have Z_DS : Hid ((ofL (decZ r.status)).size ≤ 20) := Lib.hid (by rw [ofL_size]; omega)
  have Z_RS : Hid ((ofL (reasonL r.status)).size ≤ 1048576) := Lib.hid (by rw [ofL_size]; omega)
  clear zON zJ2 zDS zU zR0 zR hF
  unfold dcells
  generalize decZ r.status = DS at *
  generalize reasonL r.status = RS at *
  generalize (onE false r.fields).flatMap lineE = ON at *
  generalize lineE (VIAN, joinV r.fields VIAN BARB) = J2 at *
  generalize headE r = RES at *
  have sX10 : 9 + (ofL DS).size ≤ 9223372036854775807 := by have := Z_DS.out; have := Z_RS.out; omega
  have sX11 : 9 + (ofL DS).size + 1 ≤ 9223372036854775807 := by have := Z_DS.out; have := Z_RS.out; omega
  have sX12 : 9 + (ofL DS).size + 1 + (ofL RS).size ≤ 9223372036854775807 := by have := Z_DS.out; have := Z_RS.out; omega
  have sX13 : 9 + (ofL DS).size + 1 + (ofL RS).size + 2 ≤ 9223372036854775807 := by have := Z_DS.out; have := Z_RS.out; omega
  obtain ⟨X1, hX1⟩ : ∃ X1, X1 = [72, 84, 84, 80, 47, 49, 46, 49, 32] ++ DS ++ [32] ++ RS ++ [13, 10] := ⟨_, rfl⟩
  have eX1 : (⟨#[72, 84, 84, 80, 47, 49, 46, 49, 32]⟩ : ByteArray) ++ ofL DS ++ ⟨#[32]⟩ ++ ofL RS ++ ⟨#[13, 10]⟩ = ofL X1 := by rw [hX1, show (⟨#[72, 84, 84, 80, 47, 49, 46, 49, 32]⟩ : ByteArray) = ofL [72, 84, 84, 80, 47, 49, 46, 49, 32] from rfl, show (⟨#[32]⟩ : ByteArray) = ofL [32] from rfl, show (⟨#[13, 10]⟩ : ByteArray) = ofL [13, 10] from rfl, str_app, str_app, str_app, str_app]
  have Z_X1 : Hid ((ofL X1).size ≤ 1048608) := Lib.hid (by rw [← eX1]; simp only [ByteArray.size_append]; have := Z_DS.out; have := Z_RS.out; have : (⟨#[72, 84, 84, 80, 47, 49, 46, 49, 32]⟩ : ByteArray).size = 9 := rfl; have : (⟨#[32]⟩ : ByteArray).size = 1 := rfl; have : (⟨#[13, 10]⟩ : ByteArray).size = 2 := rfl; omega)
  have HX1 := Lib.hid hX1
  clear hX1
  have sX20 : (ofL X1).size + (ofL ON).size ≤ 9223372036854775807 := by have := Z_X1.out; have := Z_ON.out; omega
  obtain ⟨X2, hX2⟩ : ∃ X2, X2 = X1 ++ ON := ⟨_, rfl⟩
  have eX2 : ofL X1 ++ ofL ON = ofL X2 := by rw [hX2, str_app]
  have Z_X2 : Hid ((ofL X2).size ≤ 2199028498464) := Lib.hid (by rw [← eX2]; simp only [ByteArray.size_append]; have := Z_X1.out; have := Z_ON.out; omega)
  have HX2 := Lib.hid hX2
  clear hX2
  have sX30 : (ofL X2).size + (ofL J2).size ≤ 9223372036854775807 := by have := Z_X2.out; have := Z_J2.out; omega
  obtain ⟨X3, hX3⟩ : ∃ X3, X3 = X2 ++ J2 := ⟨_, rfl⟩
  have eX3 : ofL X2 ++ ofL J2 = ofL X3 := by rw [hX3, str_app]
  have Z_X3 : Hid ((ofL X3).size ≤ 3298545369122) := Lib.hid (by rw [← eX3]; simp only [ByteArray.size_append]; have := Z_X2.out; have := Z_J2.out; omega)
  have HX3 := Lib.hid hX3
  clear hX3
  have sX60 : (ofL X3).size + 2 ≤ 9223372036854775807 := by have := Z_X3.out; omega
  obtain ⟨X6, hX6⟩ : ∃ X6, X6 = X3 ++ [13, 10] := ⟨_, rfl⟩
  have eX6 : ofL X3 ++ ⟨#[13, 10]⟩ = ofL X6 := by rw [hX6, show (⟨#[13, 10]⟩ : ByteArray) = ofL [13, 10] from rfl, str_app]
  have Z_X6 : Hid ((ofL X6).size ≤ 3298545369124) := Lib.hid (by rw [← eX6]; simp only [ByteArray.size_append]; have := Z_X3.out; have : (⟨#[13, 10]⟩ : ByteArray).size = 2 := rfl; omega)
  have HX6 := Lib.hid hX6
  clear hX6
  have HFin : Hid (RES = X6) := Lib.hid (by rw [HR.out, HX6.out, HX3.out, HX2.out, HX1.out])
  clear HX3 HX2 HX1 HX6 HR
  go_enter Tryd.func12, Tryd.ntmps12
  iterate 12 go_step
  rw [← HW2.out]
  clear HW2
  go_wp2_with fail
  refine (HRS.out _).mono ?_
  rintro e w1 ⟨rfl, rfl⟩
  clear HRS c1 q1 q2
  go_wp2_with fail
  refine (HDS.out _).mono ?_
  rintro e w2 ⟨rfl, hb⟩
  replace HE := Lib.hid (HE.out.call hb)
  clear hb HDS c0
  obtain ⟨_, _, k2, _, _, _, _⟩ := reply_cells HE.out
  go_wp2_with fail
  refine (HON.out _ HE.out.below).mono ?_
  rintro e w3 ⟨rfl, hb⟩
  replace HE := Lib.hid (HE.out.call hb)
  clear hb HON k2 sX10 sX11 sX12 sX13 eX1
  obtain ⟨_, _, k2, _, _, _, _⟩ := reply_cells HE.out
  go_wp2_with fail
  refine (HJ2.out _ HE.out.below).mono ?_
  rintro e w4 ⟨rfl, hb⟩
  replace HE := Lib.hid (HE.out.call hb)
  clear hb HJ2 k2 sX20 eX2
  have ht1 := HT.out.1
  have ht2 := HT.out.2
  obtain ⟨_, _, _, k3, k4, k5, k6⟩ := reply_cells HE.out
  have f1 : (r.framing == 2) = false := beq_eq_false_iff_ne.2 HFr.out.1
  have f2 : (r.framing == 3) = false := beq_eq_false_iff_ne.2 HFr.out.2
  have f3 : ¬ r.framing = 2 := HFr.out.1
  have f4 : ¬ r.framing = 3 := HFr.out.2
  rw [HK.out] at k5
  go_wp2_with fail
  go_ret
  exact ⟨ret_string (by rw [HFin.out]), HE.out.below⟩
set_option maxHeartbeats 6400000 in
theorem head_0_close (r : ReplyP) (vl : Value) (hr : r.reason = []) (hf : ¬ r.framing = 2 ∧ ¬ r.framing = 3) (hu : r.up = []) (hk : r.keep = false) (hA : FitR r) (w : World) (hF : FL w vl r.fields) :
    Calls Tryd.prog 12 #[.agg (dcells r vl)] w fun e w' => e = .returned (.string (ofL (headE r))) ∧ Below w.heap.size w w' := by
  have hF0 := hF
  obtain ⟨pl, cl, rfl, _, _⟩ := hF0
  have hE : ∃ W2, W2 = w.alloc (.cells #[.int .i64 r.status, .string (ofL r.reason), .slice pl r.fields.length cl, .int .i64 r.framing, .int .i64 r.length, .bool r.keep, .string (ofL r.up)] RT) ∧ Bx w RT (dcells r (.slice pl r.fields.length cl)) W2 := ⟨_, rfl, Bx.start w RT _⟩
  obtain ⟨W2, hW2, hE⟩ := hE
  have HW2 := Lib.hid hW2
  have HE := Lib.hid hE
  have HON := Lib.hid (fun W (hb : Below w.heap.size w W) => R13On.on_any _ r.fields hA.fields hA.len false W (hF.below hb))
  have HJ2 := Lib.hid (fun W (hb : Below w.heap.size w W) => R13Join.joined_any _ r.fields hA.fields hA.len VIAN BARB (by decide) (by decide) W (hF.below hb))
  have HDS := Lib.hid (fun W => R13Dig.digits_any r.status hA.s0 hA.s1 W)
  have HRS := Lib.hid (fun W => R13Reason.reason_any r.status W)
  have zON := onE_len hA.fields hA.len false
  have zJ2 := join_len hA.fields hA.len VIAN BARB (by decide) (by decide)
  have zDS := decZ_len hA.s0 hA.s1
  have zU := hA.up
  have zR0 := hA.reason
  have zR := reason_len r.status
  have HR : Hid (headE r = [72, 84, 84, 80, 47, 49, 46, 49, 32] ++ decZ r.status ++ [32] ++ reasonL r.status ++ [13, 10] ++ (onE false r.fields).flatMap lineE ++ lineE (VIAN, joinV r.fields VIAN BARB) ++ [67, 111, 110, 110, 101, 99, 116, 105, 111, 110, 58, 32, 99, 108, 111, 115, 101, 13, 10] ++ [13, 10]) := Lib.hid (by
    simp [headE, replyF, statusL, lineE, hr, hf.1, hf.2, hu, hk, CLN, TEN, CHV, CONN, CLOSEV, UPN, UPV])
  have eu : (ofL r.up).toList = r.up := by rw [ByteArray.toList_eq]; exact toL_ofL _
  have er : (ofL r.reason).toList = r.reason := by rw [ByteArray.toList_eq]; exact toL_ofL _
  have t2 : (ofL r.up).toList = [] := by rw [eu, hu]
  have t1 : (ofL r.up).toList.isEmpty = true := by rw [eu, hu]; rfl
  have q2 : (ofL r.reason).toList = [] := by rw [er, hr]
  have q1 : (ofL r.reason).toList.isEmpty = true := by rw [er, hr]; rfl
  have HT := Lib.hid (And.intro t1 t2)
  have HFr := Lib.hid hf
  have HK := Lib.hid hk
  obtain ⟨c0, c1, _⟩ := reply_cells hE
  clear hE hW2 t1 t2 eu er hu hr hf hk
  have Z_U : Hid ((ofL (r.up)).size ≤ 1048576) := Lib.hid (by rw [ofL_size]; omega)
  have Z_ON : Hid ((ofL ((onE false r.fields).flatMap lineE)).size ≤ 2199027449856) := Lib.hid (by rw [ofL_size]; omega)
  have Z_J2 : Hid ((ofL (lineE (VIAN, joinV r.fields VIAN BARB))).size ≤ 1099516870658) := Lib.hid (by rw [ofL_size]; omega)
  have Z_DS : Hid ((ofL (decZ r.status)).size ≤ 20) := Lib.hid (by rw [ofL_size]; omega)
  have Z_RS : Hid ((ofL (reasonL r.status)).size ≤ 1048576) := Lib.hid (by rw [ofL_size]; omega)
  clear zON zJ2 zDS zU zR0 zR hF
  unfold dcells
  generalize decZ r.status = DS at *
  generalize reasonL r.status = RS at *
  generalize (onE false r.fields).flatMap lineE = ON at *
  generalize lineE (VIAN, joinV r.fields VIAN BARB) = J2 at *
  generalize headE r = RES at *
  have sX10 : 9 + (ofL DS).size ≤ 9223372036854775807 := by have := Z_DS.out; have := Z_RS.out; omega
  have sX11 : 9 + (ofL DS).size + 1 ≤ 9223372036854775807 := by have := Z_DS.out; have := Z_RS.out; omega
  have sX12 : 9 + (ofL DS).size + 1 + (ofL RS).size ≤ 9223372036854775807 := by have := Z_DS.out; have := Z_RS.out; omega
  have sX13 : 9 + (ofL DS).size + 1 + (ofL RS).size + 2 ≤ 9223372036854775807 := by have := Z_DS.out; have := Z_RS.out; omega
  obtain ⟨X1, hX1⟩ : ∃ X1, X1 = [72, 84, 84, 80, 47, 49, 46, 49, 32] ++ DS ++ [32] ++ RS ++ [13, 10] := ⟨_, rfl⟩
  have eX1 : (⟨#[72, 84, 84, 80, 47, 49, 46, 49, 32]⟩ : ByteArray) ++ ofL DS ++ ⟨#[32]⟩ ++ ofL RS ++ ⟨#[13, 10]⟩ = ofL X1 := by rw [hX1, show (⟨#[72, 84, 84, 80, 47, 49, 46, 49, 32]⟩ : ByteArray) = ofL [72, 84, 84, 80, 47, 49, 46, 49, 32] from rfl, show (⟨#[32]⟩ : ByteArray) = ofL [32] from rfl, show (⟨#[13, 10]⟩ : ByteArray) = ofL [13, 10] from rfl, str_app, str_app, str_app, str_app]
  have Z_X1 : Hid ((ofL X1).size ≤ 1048608) := Lib.hid (by rw [← eX1]; simp only [ByteArray.size_append]; have := Z_DS.out; have := Z_RS.out; have : (⟨#[72, 84, 84, 80, 47, 49, 46, 49, 32]⟩ : ByteArray).size = 9 := rfl; have : (⟨#[32]⟩ : ByteArray).size = 1 := rfl; have : (⟨#[13, 10]⟩ : ByteArray).size = 2 := rfl; omega)
  have HX1 := Lib.hid hX1
  clear hX1
  have sX20 : (ofL X1).size + (ofL ON).size ≤ 9223372036854775807 := by have := Z_X1.out; have := Z_ON.out; omega
  obtain ⟨X2, hX2⟩ : ∃ X2, X2 = X1 ++ ON := ⟨_, rfl⟩
  have eX2 : ofL X1 ++ ofL ON = ofL X2 := by rw [hX2, str_app]
  have Z_X2 : Hid ((ofL X2).size ≤ 2199028498464) := Lib.hid (by rw [← eX2]; simp only [ByteArray.size_append]; have := Z_X1.out; have := Z_ON.out; omega)
  have HX2 := Lib.hid hX2
  clear hX2
  have sX30 : (ofL X2).size + (ofL J2).size ≤ 9223372036854775807 := by have := Z_X2.out; have := Z_J2.out; omega
  obtain ⟨X3, hX3⟩ : ∃ X3, X3 = X2 ++ J2 := ⟨_, rfl⟩
  have eX3 : ofL X2 ++ ofL J2 = ofL X3 := by rw [hX3, str_app]
  have Z_X3 : Hid ((ofL X3).size ≤ 3298545369122) := Lib.hid (by rw [← eX3]; simp only [ByteArray.size_append]; have := Z_X2.out; have := Z_J2.out; omega)
  have HX3 := Lib.hid hX3
  clear hX3
  have sX50 : (ofL X3).size + 19 ≤ 9223372036854775807 := by have := Z_X3.out; omega
  obtain ⟨X5, hX5⟩ : ∃ X5, X5 = X3 ++ [67, 111, 110, 110, 101, 99, 116, 105, 111, 110, 58, 32, 99, 108, 111, 115, 101, 13, 10] := ⟨_, rfl⟩
  have eX5 : ofL X3 ++ ⟨#[67, 111, 110, 110, 101, 99, 116, 105, 111, 110, 58, 32, 99, 108, 111, 115, 101, 13, 10]⟩ = ofL X5 := by rw [hX5, show (⟨#[67, 111, 110, 110, 101, 99, 116, 105, 111, 110, 58, 32, 99, 108, 111, 115, 101, 13, 10]⟩ : ByteArray) = ofL [67, 111, 110, 110, 101, 99, 116, 105, 111, 110, 58, 32, 99, 108, 111, 115, 101, 13, 10] from rfl, str_app]
  have Z_X5 : Hid ((ofL X5).size ≤ 3298545369141) := Lib.hid (by rw [← eX5]; simp only [ByteArray.size_append]; have := Z_X3.out; have : (⟨#[67, 111, 110, 110, 101, 99, 116, 105, 111, 110, 58, 32, 99, 108, 111, 115, 101, 13, 10]⟩ : ByteArray).size = 19 := rfl; omega)
  have HX5 := Lib.hid hX5
  clear hX5
  have sX60 : (ofL X5).size + 2 ≤ 9223372036854775807 := by have := Z_X5.out; omega
  obtain ⟨X6, hX6⟩ : ∃ X6, X6 = X5 ++ [13, 10] := ⟨_, rfl⟩
  have eX6 : ofL X5 ++ ⟨#[13, 10]⟩ = ofL X6 := by rw [hX6, show (⟨#[13, 10]⟩ : ByteArray) = ofL [13, 10] from rfl, str_app]
  have Z_X6 : Hid ((ofL X6).size ≤ 3298545369143) := Lib.hid (by rw [← eX6]; simp only [ByteArray.size_append]; have := Z_X5.out; have : (⟨#[13, 10]⟩ : ByteArray).size = 2 := rfl; omega)
  have HX6 := Lib.hid hX6
  clear hX6
  have HFin : Hid (RES = X6) := Lib.hid (by rw [HR.out, HX6.out, HX5.out, HX3.out, HX2.out, HX1.out])
  clear HX3 HX2 HX1 HX5 HX6 HR
  go_enter Tryd.func12, Tryd.ntmps12
  iterate 12 go_step
  rw [← HW2.out]
  clear HW2
  go_wp2_with fail
  refine (HRS.out _).mono ?_
  rintro e w1 ⟨rfl, rfl⟩
  clear HRS c1 q1 q2
  go_wp2_with fail
  refine (HDS.out _).mono ?_
  rintro e w2 ⟨rfl, hb⟩
  replace HE := Lib.hid (HE.out.call hb)
  clear hb HDS c0
  obtain ⟨_, _, k2, _, _, _, _⟩ := reply_cells HE.out
  go_wp2_with fail
  refine (HON.out _ HE.out.below).mono ?_
  rintro e w3 ⟨rfl, hb⟩
  replace HE := Lib.hid (HE.out.call hb)
  clear hb HON k2 sX10 sX11 sX12 sX13 eX1
  obtain ⟨_, _, k2, _, _, _, _⟩ := reply_cells HE.out
  go_wp2_with fail
  refine (HJ2.out _ HE.out.below).mono ?_
  rintro e w4 ⟨rfl, hb⟩
  replace HE := Lib.hid (HE.out.call hb)
  clear hb HJ2 k2 sX20 eX2
  have ht1 := HT.out.1
  have ht2 := HT.out.2
  obtain ⟨_, _, _, k3, k4, k5, k6⟩ := reply_cells HE.out
  have f1 : (r.framing == 2) = false := beq_eq_false_iff_ne.2 HFr.out.1
  have f2 : (r.framing == 3) = false := beq_eq_false_iff_ne.2 HFr.out.2
  have f3 : ¬ r.framing = 2 := HFr.out.1
  have f4 : ¬ r.framing = 3 := HFr.out.2
  rw [HK.out] at k5
  go_wp2_with fail
  go_ret
  exact ⟨ret_string (by rw [HFin.out]), HE.out.below⟩
theorem head_all (r : ReplyP) (vl : Value) (hr : r.reason = []) (hA : FitR r) (w : World) (hF : FL w vl r.fields) :
    Calls Tryd.prog 12 #[.agg (dcells r vl)] w fun e w' => e = .returned (.string (ofL (headE r))) ∧ Below w.heap.size w w' := by
  rcases (show r.framing = 2 ∨ r.framing = 3 ∨ (¬ r.framing = 2 ∧ ¬ r.framing = 3) by omega) with hf | hf | hf
  · by_cases hu : r.up = []
    · cases hk : r.keep with
      | true => exact head_2_keep r vl hr hf hu hk hA w hF
      | false => exact head_2_close r vl hr hf hu hk hA w hF
    · exact head_2_up r vl hr hf hu hA w hF
  · by_cases hu : r.up = []
    · cases hk : r.keep with
      | true => exact head_3_keep r vl hr hf hu hk hA w hF
      | false => exact head_3_close r vl hr hf hu hk hA w hF
    · exact head_3_up r vl hr hf hu hA w hF
  · by_cases hu : r.up = []
    · cases hk : r.keep with
      | true => exact head_0_keep r vl hr hf hu hk hA w hF
      | false => exact head_0_close r vl hr hf hu hk hA w hF
    · exact head_0_up r vl hr hf hu hA w hF
end Go.Proofs.YtblpooddamkfdaaDoor.R13HeadB
