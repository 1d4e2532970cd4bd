/- Texts of this seat, one behind another: R13Box, R13Req. -/

import Derived.Test.YtblpooddamkfdaaDoorC
/- The document's layer 13: an argument's box; texts put together. -/
namespace Go.Proofs.YtblpooddamkfdaaDoor.R13Box
open Go.ChangeShapes Go.WideShapes Go.ChangeAt Go.RowKit Bytes LexPure FieldsPure EmitPure Flds Mem Ret R13On
set_option maxRecDepth 100000
set_option linter.unusedVariables false
set_option linter.unusedSimpArgs false
/-- the argument's box, and all else as it lay -/
structure Bx (w : World) (T : TypeId) (cs : Array Value) (wr : World) : Prop where
  box : Has wr w.heap.size T cs
  below : Below w.heap.size w wr
theorem Bx.start (w : World) (T : TypeId) (cs : Array Value) : Bx w T cs (w.alloc (.cells cs T)) := ⟨Has.new w T cs, (Below.refl _ w).alloc (Nat.le_refl _) _⟩
theorem Bx.call {w wr w1 : World} {T : TypeId} {cs : Array Value} (h : Bx w T cs wr) (hb : Below wr.heap.size wr w1) : Bx w T cs w1 := ⟨h.box.below hb h.box.lt, below_chain h.below hb⟩
/-- a text and its length -/
structure Tk (X : List UInt8) (n : Nat) (L : List UInt8) : Prop where
  is : X = L
  few : X.length ≤ n
theorem Tk.size {X : List UInt8} {n : Nat} {L : List UInt8} (h : Tk X n L) : (ofL X).size ≤ n := by rw [ofL_size]; exact h.few
theorem Tk.add {X : List UInt8} {n : Nat} {L : List UInt8} (h : Tk X n L) (Y : List UInt8) (k : Nat) (hk : Y.length ≤ k) : ∃ Z, ofL X ++ ofL Y = ofL Z ∧ Hid (Tk Z (n + k) (L ++ Y)) := ⟨X ++ Y, str_app X Y, Lib.hid ⟨by rw [h.is], by rw [List.length_append]; have := h.few; omega⟩⟩
theorem decZ_len {n : Int} (h0 : -9223372036854775808 ≤ n) (h1 : n ≤ 9223372036854775807) : (decZ n).length ≤ 20 := by
  have h := DecN.decN_len 18 n.natAbs (by omega)
  unfold decZ
  split
  · rw [List.length_cons]; omega
  · omega
theorem onE_len {G : List HField} (hG : Few G) (hle : G.length ≤ 1048576) (req : Bool) : ((onE req G).flatMap lineE).length ≤ 2199027449856 := by
  have h := lines_len (req := req) (few_strip hG) (Nat.le_trans (List.length_filter_le _ _) hle) (strip G).length
  rw [List.take_length] at h
  exact h
theorem join_len {G : List HField} (hG : Few G) (hle : G.length ≤ 1048576) (n s : List UInt8) (hn : n.length ≤ 1048576) (hs : s.length ≤ 1048576) : (lineE (n, joinV G n s)).length ≤ 1099516870658 := by
  have h := R13Join.part_len (n := n) hG hle hn G.length
  rw [List.take_length] at h
  rw [← R13Join.part_all, List.length_append, List.length_append]
  show _ + 2 ≤ _
  omega
end Go.Proofs.YtblpooddamkfdaaDoor.R13Box

/- The document's layer 13: Request. -/
namespace Go.Proofs.YtblpooddamkfdaaDoor.R13Req
open Go.ChangeShapes Go.WideShapes Go.ChangeAt Go.RowKit Bytes LexPure FieldsPure EmitPure Flds Mem Ret R13On R13Box
set_option maxRecDepth 100000
set_option linter.unusedVariables false
set_option linter.unusedSimpArgs false
abbrev AT : TypeId := 29
def dcells (a : AskP) (vl : Value) : Array Value := #[.string (ofL a.method), .string (ofL a.target), .string (ofL a.host), .int .i64 a.port, vl, .string (ofL a.body), .bool a.sized, .string (ofL a.from_), .string (ofL a.up)]
structure Fit (a : AskP) : Prop where
  fields : Few a.fields
  len : a.fields.length ≤ 1048576
  method : a.method.length ≤ 1048576
  target : a.target.length ≤ 1048576
  host : a.host.length ≤ 1048576
  body : a.body.length ≤ 1048576
  from_ : a.from_.length ≤ 1048576
  up : a.up.length ≤ 1048576
  p0 : -9223372036854775808 ≤ a.port
  p1 : a.port ≤ 9223372036854775807
theorem ask_cells {w wr : World} {a : AskP} {vl : Value} (h : Bx w AT (dcells a vl) wr) : wr.cell? ⟨w.heap.size, 0, none⟩ = some (.string (ofL a.method)) ∧ wr.cell? ⟨w.heap.size, 1, none⟩ = some (.string (ofL a.target)) ∧ wr.cell? ⟨w.heap.size, 2, none⟩ = some (.string (ofL a.host)) ∧
    wr.cell? ⟨w.heap.size, 3, none⟩ = some (.int .i64 a.port) ∧ wr.cell? ⟨w.heap.size, 4, none⟩ = some vl ∧ wr.cell? ⟨w.heap.size, 5, none⟩ = some (.string (ofL a.body)) ∧ wr.cell? ⟨w.heap.size, 6, none⟩ = some (.bool a.sized) ∧
    wr.cell? ⟨w.heap.size, 7, none⟩ = some (.string (ofL a.from_)) ∧ wr.cell? ⟨w.heap.size, 8, none⟩ = some (.string (ofL a.up)) :=
  ⟨h.box.cell 0, h.box.cell 1, h.box.cell 2, h.box.cell 3, h.box.cell 4, h.box.cell 5, h.box.cell 6, h.box.cell 7, h.box.cell 8⟩
set_option maxHeartbeats 6400000 in
theorem request_ttt (a : AskP) (vl : Value) (hp : 0 < a.port) (hs : a.sized = true) (hu : ¬ a.up = []) (hA : Fit a) (w : World) (hF : FL w vl a.fields) :
    Calls Tryd.prog 8 #[.agg (dcells a vl)] w fun e w' => e = .returned (.string (ofL (requestE a))) ∧ Below w.heap.size w w' := by
  have hF0 := hF
  obtain ⟨pl, cl, rfl, _, _⟩ := hF0
  have hE : ∃ W2, W2 = w.alloc (.cells #[.string (ofL a.method), .string (ofL a.target), .string (ofL a.host), .int .i64 a.port, .slice pl a.fields.length cl, .string (ofL a.body), .bool a.sized, .string (ofL a.from_), .string (ofL a.up)] AT) ∧ Bx w AT (dcells a (.slice pl a.fields.length cl)) W2 := ⟨_, rfl, Bx.start w AT _⟩
  obtain ⟨W2, hW2, hE⟩ := hE
  have HW2 := Lib.hid hW2
  have HE := Lib.hid hE
  have HON := Lib.hid (fun W (hb : Below w.heap.size w W) => R13On.on_any _ a.fields hA.fields hA.len true W (hF.below hb))
  have HJ1 := Lib.hid (fun W (hb : Below w.heap.size w W) => R13Join.joined_any _ a.fields hA.fields hA.len XFFN a.from_ (by decide) hA.from_ W (hF.below hb))
  have HJ2 := Lib.hid (fun W (hb : Below w.heap.size w W) => R13Join.joined_any _ a.fields hA.fields hA.len VIAN BARB (by decide) (by decide) W (hF.below hb))
  have HDP := Lib.hid (fun W => R13Dig.digits_any a.port hA.p0 hA.p1 W)
  have HDL := Lib.hid (fun W => R13Dig.digits_any ((ofL a.body).size : Int) (by omega) (by rw [ofL_size]; have := hA.body; omega) W)
  have zON := onE_len hA.fields hA.len true
  have zJ1 := join_len hA.fields hA.len XFFN a.from_ (by decide) hA.from_
  have zJ2 := join_len hA.fields hA.len VIAN BARB (by decide) (by decide)
  have zDP := decZ_len hA.p0 hA.p1
  have zDL : (decZ ((ofL a.body).size : Int)).length ≤ 20 := decZ_len (by omega) (by rw [ofL_size]; have := hA.body; omega)
  have hB0 : (ofL a.body).size = a.body.length := ofL_size _
  have zM := hA.method
  have zT := hA.target
  have zH := hA.host
  have zB := hA.body
  have zU := hA.up
  have HR : Hid (requestE a = a.method ++ [32] ++ a.target ++ [32, 72, 84, 84, 80, 47, 49, 46, 49, 13, 10, 72, 111, 115, 116, 58, 32] ++ a.host ++ [58] ++ decZ a.port ++ [13, 10] ++ (onE true a.fields).flatMap lineE ++ lineE (XFFN, joinV a.fields XFFN a.from_) ++ lineE (VIAN, joinV a.fields VIAN BARB) ++ [67, 111, 110, 116, 101, 110, 116, 45, 76, 101, 110, 103, 116, 104, 58, 32] ++ decZ ((ofL a.body).size : Int) ++ [13, 10] ++ [67, 111, 110, 110, 101, 99, 116, 105, 111, 110, 58, 32, 117, 112, 103, 114, 97, 100, 101, 13, 10, 85, 112, 103, 114, 97, 100, 101, 58, 32] ++ a.up ++ [13, 10] ++ [13, 10] ++ a.body) := Lib.hid (by
    rw [hB0]
    simp [requestE, askF, HeadLines.startL, HeadWrit.HTTP11, hostE, lineE, hp, hs, hu, HOSTN, CLN, CONN, UPN, UPV])
  have eu : (ofL a.up).toList = a.up := by rw [ByteArray.toList_eq]; exact toL_ofL _
  have t2 : ¬ (ofL a.up).toList = [] := by rw [eu]; exact hu
  have t1 : (ofL a.up).toList.isEmpty = false := by
    rw [eu]
    cases hx : a.up with
    | nil => exact absurd hx hu
    | cons => rfl
  have HT := Lib.hid (And.intro t1 t2)
  have HS := Lib.hid hs
  obtain ⟨c0, c1, c2, c3, _⟩ := ask_cells hE
  clear hE hW2 t1 t2 eu hs hu
  have Z_M : Hid ((ofL (a.method)).size ≤ 1048576) := Lib.hid (by rw [ofL_size]; omega)
  have Z_T : Hid ((ofL (a.target)).size ≤ 1048576) := Lib.hid (by rw [ofL_size]; omega)
  have Z_H : Hid ((ofL (a.host)).size ≤ 1048576) := Lib.hid (by rw [ofL_size]; omega)
  have Z_B : Hid ((ofL (a.body)).size ≤ 1048576) := Lib.hid (by rw [ofL_size]; omega)
  have Z_U : Hid ((ofL (a.up)).size ≤ 1048576) := Lib.hid (by rw [ofL_size]; omega)
  have Z_ON : Hid ((ofL ((onE true a.fields).flatMap lineE)).size ≤ 2199027449856) := Lib.hid (by rw [ofL_size]; omega)
  have Z_J1 : Hid ((ofL (lineE (XFFN, joinV a.fields XFFN a.from_))).size ≤ 1099516870658) := Lib.hid (by rw [ofL_size]; omega)
  have Z_J2 : Hid ((ofL (lineE (VIAN, joinV a.fields VIAN BARB))).size ≤ 1099516870658) := Lib.hid (by rw [ofL_size]; omega)
  have Z_DP : Hid ((ofL (decZ a.port)).size ≤ 20) := Lib.hid (by rw [ofL_size]; omega)
  have Z_DL : Hid ((ofL (decZ ((ofL a.body).size : Int))).size ≤ 20) := Lib.hid (by rw [ofL_size]; omega)
  clear zM zT zH zB zU zON zJ1 zJ2 zDP zDL hB0 hF
  unfold dcells
  generalize decZ ((ofL a.body).size : Int) = DL at *
  generalize decZ a.port = DP at *
  generalize (onE true a.fields).flatMap lineE = ON at *
  generalize lineE (XFFN, joinV a.fields XFFN a.from_) = J1 at *
  generalize lineE (VIAN, joinV a.fields VIAN BARB) = J2 at *
  generalize requestE a = RES at *
  have sX10 : (ofL a.method).size + 1 ≤ 9223372036854775807 := by have := Z_M.out; have := Z_T.out; have := Z_H.out; omega
  have sX11 : (ofL a.method).size + 1 + (ofL a.target).size ≤ 9223372036854775807 := by have := Z_M.out; have := Z_T.out; have := Z_H.out; omega
  have sX12 : (ofL a.method).size + 1 + (ofL a.target).size + 17 ≤ 9223372036854775807 := by have := Z_M.out; have := Z_T.out; have := Z_H.out; omega
  have sX13 : (ofL a.method).size + 1 + (ofL a.target).size + 17 + (ofL a.host).size ≤ 9223372036854775807 := by have := Z_M.out; have := Z_T.out; have := Z_H.out; omega
  obtain ⟨X1, hX1⟩ : ∃ X1, X1 = a.method ++ [32] ++ a.target ++ [32, 72, 84, 84, 80, 47, 49, 46, 49, 13, 10, 72, 111, 115, 116, 58, 32] ++ a.host := ⟨_, rfl⟩
  have eX1 : ofL a.method ++ ⟨#[32]⟩ ++ ofL a.target ++ ⟨#[32, 72, 84, 84, 80, 47, 49, 46, 49, 13, 10, 72, 111, 115, 116, 58, 32]⟩ ++ ofL a.host = ofL X1 := by rw [hX1, show (⟨#[32]⟩ : ByteArray) = ofL [32] from rfl, show (⟨#[32, 72, 84, 84, 80, 47, 49, 46, 49, 13, 10, 72, 111, 115, 116, 58, 32]⟩ : ByteArray) = ofL [32, 72, 84, 84, 80, 47, 49, 46, 49, 13, 10, 72, 111, 115, 116, 58, 32] from rfl, str_app, str_app, str_app, str_app]
  have Z_X1 : Hid ((ofL X1).size ≤ 3145746) := Lib.hid (by rw [← eX1]; simp only [ByteArray.size_append]; have := Z_M.out; have := Z_T.out; have := Z_H.out; have : (⟨#[32]⟩ : ByteArray).size = 1 := rfl; have : (⟨#[32, 72, 84, 84, 80, 47, 49, 46, 49, 13, 10, 72, 111, 115, 116, 58, 32]⟩ : ByteArray).size = 17 := rfl; omega)
  have HX1 := Lib.hid hX1
  clear hX1
  have sX20 : (ofL X1).size + 1 ≤ 9223372036854775807 := by have := Z_X1.out; have := Z_DP.out; omega
  have sX21 : (ofL X1).size + 1 + (ofL DP).size ≤ 9223372036854775807 := by have := Z_X1.out; have := Z_DP.out; omega
  obtain ⟨X2, hX2⟩ : ∃ X2, X2 = X1 ++ [58] ++ DP := ⟨_, rfl⟩
  have eX2 : ofL X1 ++ ⟨#[58]⟩ ++ ofL DP = ofL X2 := by rw [hX2, show (⟨#[58]⟩ : ByteArray) = ofL [58] from rfl, str_app, str_app]
  have Z_X2 : Hid ((ofL X2).size ≤ 3145767) := Lib.hid (by rw [← eX2]; simp only [ByteArray.size_append]; have := Z_X1.out; have := Z_DP.out; have : (⟨#[58]⟩ : ByteArray).size = 1 := rfl; omega)
  have HX2 := Lib.hid hX2
  clear hX2
  have sX30 : (ofL X2).size + 2 ≤ 9223372036854775807 := by have := Z_X2.out; have := Z_ON.out; omega
  have sX31 : (ofL X2).size + 2 + (ofL ON).size ≤ 9223372036854775807 := by have := Z_X2.out; have := Z_ON.out; omega
  obtain ⟨X3, hX3⟩ : ∃ X3, X3 = X2 ++ [13, 10] ++ ON := ⟨_, rfl⟩
  have eX3 : ofL X2 ++ ⟨#[13, 10]⟩ ++ ofL ON = ofL X3 := by rw [hX3, show (⟨#[13, 10]⟩ : ByteArray) = ofL [13, 10] from rfl, str_app, str_app]
  have Z_X3 : Hid ((ofL X3).size ≤ 2199030595625) := Lib.hid (by rw [← eX3]; simp only [ByteArray.size_append]; have := Z_X2.out; have := Z_ON.out; have : (⟨#[13, 10]⟩ : ByteArray).size = 2 := rfl; omega)
  have HX3 := Lib.hid hX3
  clear hX3
  have sX40 : (ofL X3).size + (ofL J1).size ≤ 9223372036854775807 := by have := Z_X3.out; have := Z_J1.out; omega
  obtain ⟨X4, hX4⟩ : ∃ X4, X4 = X3 ++ J1 := ⟨_, rfl⟩
  have eX4 : ofL X3 ++ ofL J1 = ofL X4 := by rw [hX4, str_app]
  have Z_X4 : Hid ((ofL X4).size ≤ 3298547466283) := Lib.hid (by rw [← eX4]; simp only [ByteArray.size_append]; have := Z_X3.out; have := Z_J1.out; omega)
  have HX4 := Lib.hid hX4
  clear hX4
  have sX50 : (ofL X4).size + (ofL J2).size ≤ 9223372036854775807 := by have := Z_X4.out; have := Z_J2.out; omega
  obtain ⟨X5, hX5⟩ : ∃ X5, X5 = X4 ++ J2 := ⟨_, rfl⟩
  have eX5 : ofL X4 ++ ofL J2 = ofL X5 := by rw [hX5, str_app]
  have Z_X5 : Hid ((ofL X5).size ≤ 4398064336941) := Lib.hid (by rw [← eX5]; simp only [ByteArray.size_append]; have := Z_X4.out; have := Z_J2.out; omega)
  have HX5 := Lib.hid hX5
  clear hX5
  have sX60 : (ofL X5).size + 16 ≤ 9223372036854775807 := by have := Z_X5.out; have := Z_DL.out; omega
  have sX61 : (ofL X5).size + 16 + (ofL DL).size ≤ 9223372036854775807 := by have := Z_X5.out; have := Z_DL.out; omega
  have sX62 : (ofL X5).size + 16 + (ofL DL).size + 2 ≤ 9223372036854775807 := by have := Z_X5.out; have := Z_DL.out; omega
  obtain ⟨X6, hX6⟩ : ∃ X6, X6 = X5 ++ [67, 111, 110, 116, 101, 110, 116, 45, 76, 101, 110, 103, 116, 104, 58, 32] ++ DL ++ [13, 10] := ⟨_, rfl⟩
  have eX6 : ofL X5 ++ ⟨#[67, 111, 110, 116, 101, 110, 116, 45, 76, 101, 110, 103, 116, 104, 58, 32]⟩ ++ ofL DL ++ ⟨#[13, 10]⟩ = ofL X6 := by rw [hX6, show (⟨#[67, 111, 110, 116, 101, 110, 116, 45, 76, 101, 110, 103, 116, 104, 58, 32]⟩ : ByteArray) = ofL [67, 111, 110, 116, 101, 110, 116, 45, 76, 101, 110, 103, 116, 104, 58, 32] from rfl, show (⟨#[13, 10]⟩ : ByteArray) = ofL [13, 10] from rfl, str_app, str_app, str_app]
  have Z_X6 : Hid ((ofL X6).size ≤ 4398064336979) := Lib.hid (by rw [← eX6]; simp only [ByteArray.size_append]; have := Z_X5.out; have := Z_DL.out; have : (⟨#[67, 111, 110, 116, 101, 110, 116, 45, 76, 101, 110, 103, 116, 104, 58, 32]⟩ : ByteArray).size = 16 := rfl; have : (⟨#[13, 10]⟩ : ByteArray).size = 2 := rfl; omega)
  have HX6 := Lib.hid hX6
  clear hX6
  have sX70 : (ofL X6).size + 30 ≤ 9223372036854775807 := by have := Z_X6.out; have := Z_U.out; omega
  have sX71 : (ofL X6).size + 30 + (ofL a.up).size ≤ 9223372036854775807 := by have := Z_X6.out; have := Z_U.out; omega
  have sX72 : (ofL X6).size + 30 + (ofL a.up).size + 2 ≤ 9223372036854775807 := by have := Z_X6.out; have := Z_U.out; omega
  obtain ⟨X7, hX7⟩ : ∃ X7, X7 = X6 ++ [67, 111, 110, 110, 101, 99, 116, 105, 111, 110, 58, 32, 117, 112, 103, 114, 97, 100, 101, 13, 10, 85, 112, 103, 114, 97, 100, 101, 58, 32] ++ a.up ++ [13, 10] := ⟨_, rfl⟩
  have eX7 : ofL X6 ++ ⟨#[67, 111, 110, 110, 101, 99, 116, 105, 111, 110, 58, 32, 117, 112, 103, 114, 97, 100, 101, 13, 10, 85, 112, 103, 114, 97, 100, 101, 58, 32]⟩ ++ ofL a.up ++ ⟨#[13, 10]⟩ = ofL X7 := by rw [hX7, show (⟨#[67, 111, 110, 110, 101, 99, 116, 105, 111, 110, 58, 32, 117, 112, 103, 114, 97, 100, 101, 13, 10, 85, 112, 103, 114, 97, 100, 101, 58, 32]⟩ : ByteArray) = ofL [67, 111, 110, 110, 101, 99, 116, 105, 111, 110, 58, 32, 117, 112, 103, 114, 97, 100, 101, 13, 10, 85, 112, 103, 114, 97, 100, 101, 58, 32] from rfl, show (⟨#[13, 10]⟩ : ByteArray) = ofL [13, 10] from rfl, str_app, str_app, str_app]
  have Z_X7 : Hid ((ofL X7).size ≤ 4398065385587) := Lib.hid (by rw [← eX7]; simp only [ByteArray.size_append]; have := Z_X6.out; have := Z_U.out; have : (⟨#[67, 111, 110, 110, 101, 99, 116, 105, 111, 110, 58, 32, 117, 112, 103, 114, 97, 100, 101, 13, 10, 85, 112, 103, 114, 97, 100, 101, 58, 32]⟩ : ByteArray).size = 30 := rfl; have : (⟨#[13, 10]⟩ : ByteArray).size = 2 := rfl; omega)
  have HX7 := Lib.hid hX7
  clear hX7
  have sX80 : (ofL X7).size + 2 ≤ 9223372036854775807 := by have := Z_X7.out; have := Z_B.out; omega
  have sX81 : (ofL X7).size + 2 + (ofL a.body).size ≤ 9223372036854775807 := by have := Z_X7.out; have := Z_B.out; omega
  obtain ⟨X8, hX8⟩ : ∃ X8, X8 = X7 ++ [13, 10] ++ a.body := ⟨_, rfl⟩
  have eX8 : ofL X7 ++ ⟨#[13, 10]⟩ ++ ofL a.body = ofL X8 := by rw [hX8, show (⟨#[13, 10]⟩ : ByteArray) = ofL [13, 10] from rfl, str_app, str_app]
  have Z_X8 : Hid ((ofL X8).size ≤ 4398066434165) := Lib.hid (by rw [← eX8]; simp only [ByteArray.size_append]; have := Z_X7.out; have := Z_B.out; have : (⟨#[13, 10]⟩ : ByteArray).size = 2 := rfl; omega)
  have HX8 := Lib.hid hX8
  clear hX8
  have HFin : Hid (RES = X8) := Lib.hid (by rw [HR.out, HX8.out, HX7.out, HX6.out, HX5.out, HX4.out, HX3.out, HX2.out, HX1.out])
  clear HX8 HX7 HX6 HX5 HX4 HX3 HX2 HX1 HR
  go_enter Tryd.func8, Tryd.ntmps8
  iterate 12 go_step
  rw [← HW2.out]
  clear HW2
  have hpos : (0 : Int) < a.port := hp
  go_wp2_with fail
  refine (HDP.out _).mono ?_
  rintro e w1 ⟨rfl, hb⟩
  replace HE := Lib.hid (HE.out.call hb)
  clear hb HDP c0 c1 c2 c3
  obtain ⟨_, _, _, _, k4, _, _, _, _⟩ := ask_cells HE.out
  go_wp2_with fail
  refine (HON.out _ HE.out.below).mono ?_
  rintro e w2 ⟨rfl, hb⟩
  replace HE := Lib.hid (HE.out.call hb)
  clear hb HON k4 sX10 sX11 sX12 sX13 eX1 sX20 sX21 eX2
  obtain ⟨_, _, _, _, k4, _, _, k7, _⟩ := ask_cells HE.out
  go_wp2_with fail
  refine (HJ1.out _ HE.out.below).mono ?_
  rintro e w3 ⟨rfl, hb⟩
  replace HE := Lib.hid (HE.out.call hb)
  clear hb HJ1 k4 k7 sX30 sX31 eX3
  obtain ⟨_, _, _, _, k4, _, _, _, _⟩ := ask_cells HE.out
  go_wp2_with fail
  refine (HJ2.out _ HE.out.below).mono ?_
  rintro e w4 ⟨rfl, hb⟩
  replace HE := Lib.hid (HE.out.call hb)
  clear hb HJ2 k4 sX40 eX4
  have hs := HS.out
  have ht1 := HT.out.1
  have ht2 := HT.out.2
  obtain ⟨_, _, _, _, _, k5, k6, _, k8⟩ := ask_cells HE.out
  rw [hs] at k6
  clear hs
  go_wp2_with fail
  refine (HDL.out _).mono ?_
  rintro e w5 ⟨rfl, hb⟩
  replace HE := Lib.hid (HE.out.call hb)
  clear hb HDL k5 k6 k8 sX50 eX5
  obtain ⟨_, _, _, _, _, k5, _, _, k8⟩ := ask_cells HE.out
  go_wp2_with fail
  go_ret
  exact ⟨ret_string (by rw [HFin.out]), HE.out.below⟩
set_option maxHeartbeats 6400000 in
theorem request_ttf (a : AskP) (vl : Value) (hp : 0 < a.port) (hs : a.sized = true) (hu : a.up = []) (hA : Fit a) (w : World) (hF : FL w vl a.fields) :
    Calls Tryd.prog 8 #[.agg (dcells a vl)] w fun e w' => e = .returned (.string (ofL (requestE a))) ∧ Below w.heap.size w w' := by
  have hF0 := hF
  obtain ⟨pl, cl, rfl, _, _⟩ := hF0
  have hE : ∃ W2, W2 = w.alloc (.cells #[.string (ofL a.method), .string (ofL a.target), .string (ofL a.host), .int .i64 a.port, .slice pl a.fields.length cl, .string (ofL a.body), .bool a.sized, .string (ofL a.from_), .string (ofL a.up)] AT) ∧ Bx w AT (dcells a (.slice pl a.fields.length cl)) W2 := ⟨_, rfl, Bx.start w AT _⟩
  obtain ⟨W2, hW2, hE⟩ := hE
  have HW2 := Lib.hid hW2
  have HE := Lib.hid hE
  have HON := Lib.hid (fun W (hb : Below w.heap.size w W) => R13On.on_any _ a.fields hA.fields hA.len true W (hF.below hb))
  have HJ1 := Lib.hid (fun W (hb : Below w.heap.size w W) => R13Join.joined_any _ a.fields hA.fields hA.len XFFN a.from_ (by decide) hA.from_ W (hF.below hb))
  have HJ2 := Lib.hid (fun W (hb : Below w.heap.size w W) => R13Join.joined_any _ a.fields hA.fields hA.len VIAN BARB (by decide) (by decide) W (hF.below hb))
  have HDP := Lib.hid (fun W => R13Dig.digits_any a.port hA.p0 hA.p1 W)
  have HDL := Lib.hid (fun W => R13Dig.digits_any ((ofL a.body).size : Int) (by omega) (by rw [ofL_size]; have := hA.body; omega) W)
  have zON := onE_len hA.fields hA.len true
  have zJ1 := join_len hA.fields hA.len XFFN a.from_ (by decide) hA.from_
  have zJ2 := join_len hA.fields hA.len VIAN BARB (by decide) (by decide)
  have zDP := decZ_len hA.p0 hA.p1
  have zDL : (decZ ((ofL a.body).size : Int)).length ≤ 20 := decZ_len (by omega) (by rw [ofL_size]; have := hA.body; omega)
  have hB0 : (ofL a.body).size = a.body.length := ofL_size _
  have zM := hA.method
  have zT := hA.target
  have zH := hA.host
  have zB := hA.body
  have zU := hA.up
  have HR : Hid (requestE a = a.method ++ [32] ++ a.target ++ [32, 72, 84, 84, 80, 47, 49, 46, 49, 13, 10, 72, 111, 115, 116, 58, 32] ++ a.host ++ [58] ++ decZ a.port ++ [13, 10] ++ (onE true a.fields).flatMap lineE ++ lineE (XFFN, joinV a.fields XFFN a.from_) ++ lineE (VIAN, joinV a.fields VIAN BARB) ++ [67, 111, 110, 116, 101, 110, 116, 45, 76, 101, 110, 103, 116, 104, 58, 32] ++ decZ ((ofL a.body).size : Int) ++ [13, 10] ++ [13, 10] ++ a.body) := Lib.hid (by
    rw [hB0]
    simp [requestE, askF, HeadLines.startL, HeadWrit.HTTP11, hostE, lineE, hp, hs, hu, HOSTN, CLN, CONN, UPN, UPV])
  have eu : (ofL a.up).toList = a.up := by rw [ByteArray.toList_eq]; exact toL_ofL _
  have t2 : (ofL a.up).toList = [] := by rw [eu, hu]
  have t1 : (ofL a.up).toList.isEmpty = true := by rw [eu, hu]; rfl
  have HT := Lib.hid (And.intro t1 t2)
  have HS := Lib.hid hs
  obtain ⟨c0, c1, c2, c3, _⟩ := ask_cells hE
  clear hE hW2 t1 t2 eu hs hu
  have Z_M : Hid ((ofL (a.method)).size ≤ 1048576) := Lib.hid (by rw [ofL_size]; omega)
  have Z_T : Hid ((ofL (a.target)).size ≤ 1048576) := Lib.hid (by rw [ofL_size]; omega)
  have Z_H : Hid ((ofL (a.host)).size ≤ 1048576) := Lib.hid (by rw [ofL_size]; omega)
  have Z_B : Hid ((ofL (a.body)).size ≤ 1048576) := Lib.hid (by rw [ofL_size]; omega)
  have Z_U : Hid ((ofL (a.up)).size ≤ 1048576) := Lib.hid (by rw [ofL_size]; omega)
  have Z_ON : Hid ((ofL ((onE true a.fields).flatMap lineE)).size ≤ 2199027449856) := Lib.hid (by rw [ofL_size]; omega)
  have Z_J1 : Hid ((ofL (lineE (XFFN, joinV a.fields XFFN a.from_))).size ≤ 1099516870658) := Lib.hid (by rw [ofL_size]; omega)
  have Z_J2 : Hid ((ofL (lineE (VIAN, joinV a.fields VIAN BARB))).size ≤ 1099516870658) := Lib.hid (by rw [ofL_size]; omega)
  have Z_DP : Hid ((ofL (decZ a.port)).size ≤ 20) := Lib.hid (by rw [ofL_size]; omega)
  have Z_DL : Hid ((ofL (decZ ((ofL a.body).size : Int))).size ≤ 20) := Lib.hid (by rw [ofL_size]; omega)
  clear zM zT zH zB zU zON zJ1 zJ2 zDP zDL hB0 hF
  unfold dcells
  generalize decZ ((ofL a.body).size : Int) = DL at *
  generalize decZ a.port = DP at *
  generalize (onE true a.fields).flatMap lineE = ON at *
  generalize lineE (XFFN, joinV a.fields XFFN a.from_) = J1 at *
  generalize lineE (VIAN, joinV a.fields VIAN BARB) = J2 at *
  generalize requestE a = RES at *
  have sX10 : (ofL a.method).size + 1 ≤ 9223372036854775807 := by have := Z_M.out; have := Z_T.out; have := Z_H.out; omega
  have sX11 : (ofL a.method).size + 1 + (ofL a.target).size ≤ 9223372036854775807 := by have := Z_M.out; have := Z_T.out; have := Z_H.out; omega
  have sX12 : (ofL a.method).size + 1 + (ofL a.target).size + 17 ≤ 9223372036854775807 := by have := Z_M.out; have := Z_T.out; have := Z_H.out; omega
  have sX13 : (ofL a.method).size + 1 + (ofL a.target).size + 17 + (ofL a.host).size ≤ 9223372036854775807 := by have := Z_M.out; have := Z_T.out; have := Z_H.out; omega
  obtain ⟨X1, hX1⟩ : ∃ X1, X1 = a.method ++ [32] ++ a.target ++ [32, 72, 84, 84, 80, 47, 49, 46, 49, 13, 10, 72, 111, 115, 116, 58, 32] ++ a.host := ⟨_, rfl⟩
  have eX1 : ofL a.method ++ ⟨#[32]⟩ ++ ofL a.target ++ ⟨#[32, 72, 84, 84, 80, 47, 49, 46, 49, 13, 10, 72, 111, 115, 116, 58, 32]⟩ ++ ofL a.host = ofL X1 := by rw [hX1, show (⟨#[32]⟩ : ByteArray) = ofL [32] from rfl, show (⟨#[32, 72, 84, 84, 80, 47, 49, 46, 49, 13, 10, 72, 111, 115, 116, 58, 32]⟩ : ByteArray) = ofL [32, 72, 84, 84, 80, 47, 49, 46, 49, 13, 10, 72, 111, 115, 116, 58, 32] from rfl, str_app, str_app, str_app, str_app]
  have Z_X1 : Hid ((ofL X1).size ≤ 3145746) := Lib.hid (by rw [← eX1]; simp only [ByteArray.size_append]; have := Z_M.out; have := Z_T.out; have := Z_H.out; have : (⟨#[32]⟩ : ByteArray).size = 1 := rfl; have : (⟨#[32, 72, 84, 84, 80, 47, 49, 46, 49, 13, 10, 72, 111, 115, 116, 58, 32]⟩ : ByteArray).size = 17 := rfl; omega)
  have HX1 := Lib.hid hX1
  clear hX1
  have sX20 : (ofL X1).size + 1 ≤ 9223372036854775807 := by have := Z_X1.out; have := Z_DP.out; omega
  have sX21 : (ofL X1).size + 1 + (ofL DP).size ≤ 9223372036854775807 := by have := Z_X1.out; have := Z_DP.out; omega
  obtain ⟨X2, hX2⟩ : ∃ X2, X2 = X1 ++ [58] ++ DP := ⟨_, rfl⟩
  have eX2 : ofL X1 ++ ⟨#[58]⟩ ++ ofL DP = ofL X2 := by rw [hX2, show (⟨#[58]⟩ : ByteArray) = ofL [58] from rfl, str_app, str_app]
  have Z_X2 : Hid ((ofL X2).size ≤ 3145767) := Lib.hid (by rw [← eX2]; simp only [ByteArray.size_append]; have := Z_X1.out; have := Z_DP.out; have : (⟨#[58]⟩ : ByteArray).size = 1 := rfl; omega)
  have HX2 := Lib.hid hX2
  clear hX2
  have sX30 : (ofL X2).size + 2 ≤ 9223372036854775807 := by have := Z_X2.out; have := Z_ON.out; omega
  have sX31 : (ofL X2).size + 2 + (ofL ON).size ≤ 9223372036854775807 := by have := Z_X2.out; have := Z_ON.out; omega
  obtain ⟨X3, hX3⟩ : ∃ X3, X3 = X2 ++ [13, 10] ++ ON := ⟨_, rfl⟩
  have eX3 : ofL X2 ++ ⟨#[13, 10]⟩ ++ ofL ON = ofL X3 := by rw [hX3, show (⟨#[13, 10]⟩ : ByteArray) = ofL [13, 10] from rfl, str_app, str_app]
  have Z_X3 : Hid ((ofL X3).size ≤ 2199030595625) := Lib.hid (by rw [← eX3]; simp only [ByteArray.size_append]; have := Z_X2.out; have := Z_ON.out; have : (⟨#[13, 10]⟩ : ByteArray).size = 2 := rfl; omega)
  have HX3 := Lib.hid hX3
  clear hX3
  have sX40 : (ofL X3).size + (ofL J1).size ≤ 9223372036854775807 := by have := Z_X3.out; have := Z_J1.out; omega
  obtain ⟨X4, hX4⟩ : ∃ X4, X4 = X3 ++ J1 := ⟨_, rfl⟩
  have eX4 : ofL X3 ++ ofL J1 = ofL X4 := by rw [hX4, str_app]
  have Z_X4 : Hid ((ofL X4).size ≤ 3298547466283) := Lib.hid (by rw [← eX4]; simp only [ByteArray.size_append]; have := Z_X3.out; have := Z_J1.out; omega)
  have HX4 := Lib.hid hX4
  clear hX4
  have sX50 : (ofL X4).size + (ofL J2).size ≤ 9223372036854775807 := by have := Z_X4.out; have := Z_J2.out; omega
  obtain ⟨X5, hX5⟩ : ∃ X5, X5 = X4 ++ J2 := ⟨_, rfl⟩
  have eX5 : ofL X4 ++ ofL J2 = ofL X5 := by rw [hX5, str_app]
  have Z_X5 : Hid ((ofL X5).size ≤ 4398064336941) := Lib.hid (by rw [← eX5]; simp only [ByteArray.size_append]; have := Z_X4.out; have := Z_J2.out; omega)
  have HX5 := Lib.hid hX5
  clear hX5
  have sX60 : (ofL X5).size + 16 ≤ 9223372036854775807 := by have := Z_X5.out; have := Z_DL.out; omega
  have sX61 : (ofL X5).size + 16 + (ofL DL).size ≤ 9223372036854775807 := by have := Z_X5.out; have := Z_DL.out; omega
  have sX62 : (ofL X5).size + 16 + (ofL DL).size + 2 ≤ 9223372036854775807 := by have := Z_X5.out; have := Z_DL.out; omega
  obtain ⟨X6, hX6⟩ : ∃ X6, X6 = X5 ++ [67, 111, 110, 116, 101, 110, 116, 45, 76, 101, 110, 103, 116, 104, 58, 32] ++ DL ++ [13, 10] := ⟨_, rfl⟩
  have eX6 : ofL X5 ++ ⟨#[67, 111, 110, 116, 101, 110, 116, 45, 76, 101, 110, 103, 116, 104, 58, 32]⟩ ++ ofL DL ++ ⟨#[13, 10]⟩ = ofL X6 := by rw [hX6, show (⟨#[67, 111, 110, 116, 101, 110, 116, 45, 76, 101, 110, 103, 116, 104, 58, 32]⟩ : ByteArray) = ofL [67, 111, 110, 116, 101, 110, 116, 45, 76, 101, 110, 103, 116, 104, 58, 32] from rfl, show (⟨#[13, 10]⟩ : ByteArray) = ofL [13, 10] from rfl, str_app, str_app, str_app]
  have Z_X6 : Hid ((ofL X6).size ≤ 4398064336979) := Lib.hid (by rw [← eX6]; simp only [ByteArray.size_append]; have := Z_X5.out; have := Z_DL.out; have : (⟨#[67, 111, 110, 116, 101, 110, 116, 45, 76, 101, 110, 103, 116, 104, 58, 32]⟩ : ByteArray).size = 16 := rfl; have : (⟨#[13, 10]⟩ : ByteArray).size = 2 := rfl; omega)
  have HX6 := Lib.hid hX6
  clear hX6
  have sX80 : (ofL X6).size + 2 ≤ 9223372036854775807 := by have := Z_X6.out; have := Z_B.out; omega
  have sX81 : (ofL X6).size + 2 + (ofL a.body).size ≤ 9223372036854775807 := by have := Z_X6.out; have := Z_B.out; omega
  obtain ⟨X8, hX8⟩ : ∃ X8, X8 = X6 ++ [13, 10] ++ a.body := ⟨_, rfl⟩
  have eX8 : ofL X6 ++ ⟨#[13, 10]⟩ ++ ofL a.body = ofL X8 := by rw [hX8, show (⟨#[13, 10]⟩ : ByteArray) = ofL [13, 10] from rfl, str_app, str_app]
  have Z_X8 : Hid ((ofL X8).size ≤ 4398065385557) := Lib.hid (by rw [← eX8]; simp only [ByteArray.size_append]; have := Z_X6.out; have := Z_B.out; have : (⟨#[13, 10]⟩ : ByteArray).size = 2 := rfl; omega)
  have HX8 := Lib.hid hX8
  clear hX8
  have HFin : Hid (RES = X8) := Lib.hid (by rw [HR.out, HX8.out, HX6.out, HX5.out, HX4.out, HX3.out, HX2.out, HX1.out])
  clear HX8 HX6 HX5 HX4 HX3 HX2 HX1 HR
  go_enter Tryd.func8, Tryd.ntmps8
  iterate 12 go_step
  rw [← HW2.out]
  clear HW2
  have hpos : (0 : Int) < a.port := hp
  go_wp2_with fail
  refine (HDP.out _).mono ?_
  rintro e w1 ⟨rfl, hb⟩
  replace HE := Lib.hid (HE.out.call hb)
  clear hb HDP c0 c1 c2 c3
  obtain ⟨_, _, _, _, k4, _, _, _, _⟩ := ask_cells HE.out
  go_wp2_with fail
  refine (HON.out _ HE.out.below).mono ?_
  rintro e w2 ⟨rfl, hb⟩
  replace HE := Lib.hid (HE.out.call hb)
  clear hb HON k4 sX10 sX11 sX12 sX13 eX1 sX20 sX21 eX2
  obtain ⟨_, _, _, _, k4, _, _, k7, _⟩ := ask_cells HE.out
  go_wp2_with fail
  refine (HJ1.out _ HE.out.below).mono ?_
  rintro e w3 ⟨rfl, hb⟩
  replace HE := Lib.hid (HE.out.call hb)
  clear hb HJ1 k4 k7 sX30 sX31 eX3
  obtain ⟨_, _, _, _, k4, _, _, _, _⟩ := ask_cells HE.out
  go_wp2_with fail
  refine (HJ2.out _ HE.out.below).mono ?_
  rintro e w4 ⟨rfl, hb⟩
  replace HE := Lib.hid (HE.out.call hb)
  clear hb HJ2 k4 sX40 eX4
  have hs := HS.out
  have ht1 := HT.out.1
  have ht2 := HT.out.2
  obtain ⟨_, _, _, _, _, k5, k6, _, k8⟩ := ask_cells HE.out
  rw [hs] at k6
  clear hs
  go_wp2_with fail
  refine (HDL.out _).mono ?_
  rintro e w5 ⟨rfl, hb⟩
  replace HE := Lib.hid (HE.out.call hb)
  clear hb HDL k5 k6 k8 sX50 eX5
  obtain ⟨_, _, _, _, _, k5, _, _, k8⟩ := ask_cells HE.out
  go_wp2_with fail
  go_ret
  exact ⟨ret_string (by rw [HFin.out]), HE.out.below⟩
set_option maxHeartbeats 6400000 in
theorem request_tft (a : AskP) (vl : Value) (hp : 0 < a.port) (hs : a.sized = false) (hu : ¬ a.up = []) (hA : Fit a) (w : World) (hF : FL w vl a.fields) :
    Calls Tryd.prog 8 #[.agg (dcells a vl)] w fun e w' => e = .returned (.string (ofL (requestE a))) ∧ Below w.heap.size w w' := by
  have hF0 := hF
  obtain ⟨pl, cl, rfl, _, _⟩ := hF0
  have hE : ∃ W2, W2 = w.alloc (.cells #[.string (ofL a.method), .string (ofL a.target), .string (ofL a.host), .int .i64 a.port, .slice pl a.fields.length cl, .string (ofL a.body), .bool a.sized, .string (ofL a.from_), .string (ofL a.up)] AT) ∧ Bx w AT (dcells a (.slice pl a.fields.length cl)) W2 := ⟨_, rfl, Bx.start w AT _⟩
  obtain ⟨W2, hW2, hE⟩ := hE
  have HW2 := Lib.hid hW2
  have HE := Lib.hid hE
  have HON := Lib.hid (fun W (hb : Below w.heap.size w W) => R13On.on_any _ a.fields hA.fields hA.len true W (hF.below hb))
  have HJ1 := Lib.hid (fun W (hb : Below w.heap.size w W) => R13Join.joined_any _ a.fields hA.fields hA.len XFFN a.from_ (by decide) hA.from_ W (hF.below hb))
  have HJ2 := Lib.hid (fun W (hb : Below w.heap.size w W) => R13Join.joined_any _ a.fields hA.fields hA.len VIAN BARB (by decide) (by decide) W (hF.below hb))
  have HDP := Lib.hid (fun W => R13Dig.digits_any a.port hA.p0 hA.p1 W)
  have zON := onE_len hA.fields hA.len true
  have zJ1 := join_len hA.fields hA.len XFFN a.from_ (by decide) hA.from_
  have zJ2 := join_len hA.fields hA.len VIAN BARB (by decide) (by decide)
  have zDP := decZ_len hA.p0 hA.p1
  have hB0 : (ofL a.body).size = a.body.length := ofL_size _
  have zM := hA.method
  have zT := hA.target
  have zH := hA.host
  have zB := hA.body
  have zU := hA.up
  have HR : Hid (requestE a = a.method ++ [32] ++ a.target ++ [32, 72, 84, 84, 80, 47, 49, 46, 49, 13, 10, 72, 111, 115, 116, 58, 32] ++ a.host ++ [58] ++ decZ a.port ++ [13, 10] ++ (onE true a.fields).flatMap lineE ++ lineE (XFFN, joinV a.fields XFFN a.from_) ++ lineE (VIAN, joinV a.fields VIAN BARB) ++ [67, 111, 110, 110, 101, 99, 116, 105, 111, 110, 58, 32, 117, 112, 103, 114, 97, 100, 101, 13, 10, 85, 112, 103, 114, 97, 100, 101, 58, 32] ++ a.up ++ [13, 10] ++ [13, 10] ++ a.body) := Lib.hid (by
    simp [requestE, askF, HeadLines.startL, HeadWrit.HTTP11, hostE, lineE, hp, hs, hu, HOSTN, CLN, CONN, UPN, UPV])
  have eu : (ofL a.up).toList = a.up := by rw [ByteArray.toList_eq]; exact toL_ofL _
  have t2 : ¬ (ofL a.up).toList = [] := by rw [eu]; exact hu
  have t1 : (ofL a.up).toList.isEmpty = false := by
    rw [eu]
    cases hx : a.up with
    | nil => exact absurd hx hu
    | cons => rfl
  have HT := Lib.hid (And.intro t1 t2)
  have HS := Lib.hid hs
  obtain ⟨c0, c1, c2, c3, _⟩ := ask_cells hE
  clear hE hW2 t1 t2 eu hs hu
  have Z_M : Hid ((ofL (a.method)).size ≤ 1048576) := Lib.hid (by rw [ofL_size]; omega)
  have Z_T : Hid ((ofL (a.target)).size ≤ 1048576) := Lib.hid (by rw [ofL_size]; omega)
  have Z_H : Hid ((ofL (a.host)).size ≤ 1048576) := Lib.hid (by rw [ofL_size]; omega)
  have Z_B : Hid ((ofL (a.body)).size ≤ 1048576) := Lib.hid (by rw [ofL_size]; omega)
  have Z_U : Hid ((ofL (a.up)).size ≤ 1048576) := Lib.hid (by rw [ofL_size]; omega)
  have Z_ON : Hid ((ofL ((onE true a.fields).flatMap lineE)).size ≤ 2199027449856) := Lib.hid (by rw [ofL_size]; omega)
  have Z_J1 : Hid ((ofL (lineE (XFFN, joinV a.fields XFFN a.from_))).size ≤ 1099516870658) := Lib.hid (by rw [ofL_size]; omega)
  have Z_J2 : Hid ((ofL (lineE (VIAN, joinV a.fields VIAN BARB))).size ≤ 1099516870658) := Lib.hid (by rw [ofL_size]; omega)
  have Z_DP : Hid ((ofL (decZ a.port)).size ≤ 20) := Lib.hid (by rw [ofL_size]; omega)
  clear zM zT zH zB zU zON zJ1 zJ2 zDP hB0 hF
  unfold dcells
  generalize decZ a.port = DP at *
  generalize (onE true a.fields).flatMap lineE = ON at *
  generalize lineE (XFFN, joinV a.fields XFFN a.from_) = J1 at *
  generalize lineE (VIAN, joinV a.fields VIAN BARB) = J2 at *
  generalize requestE a = RES at *
  have sX10 : (ofL a.method).size + 1 ≤ 9223372036854775807 := by have := Z_M.out; have := Z_T.out; have := Z_H.out; omega
  have sX11 : (ofL a.method).size + 1 + (ofL a.target).size ≤ 9223372036854775807 := by have := Z_M.out; have := Z_T.out; have := Z_H.out; omega
  have sX12 : (ofL a.method).size + 1 + (ofL a.target).size + 17 ≤ 9223372036854775807 := by have := Z_M.out; have := Z_T.out; have := Z_H.out; omega
  have sX13 : (ofL a.method).size + 1 + (ofL a.target).size + 17 + (ofL a.host).size ≤ 9223372036854775807 := by have := Z_M.out; have := Z_T.out; have := Z_H.out; omega
  obtain ⟨X1, hX1⟩ : ∃ X1, X1 = a.method ++ [32] ++ a.target ++ [32, 72, 84, 84, 80, 47, 49, 46, 49, 13, 10, 72, 111, 115, 116, 58, 32] ++ a.host := ⟨_, rfl⟩
  have eX1 : ofL a.method ++ ⟨#[32]⟩ ++ ofL a.target ++ ⟨#[32, 72, 84, 84, 80, 47, 49, 46, 49, 13, 10, 72, 111, 115, 116, 58, 32]⟩ ++ ofL a.host = ofL X1 := by rw [hX1, show (⟨#[32]⟩ : ByteArray) = ofL [32] from rfl, show (⟨#[32, 72, 84, 84, 80, 47, 49, 46, 49, 13, 10, 72, 111, 115, 116, 58, 32]⟩ : ByteArray) = ofL [32, 72, 84, 84, 80, 47, 49, 46, 49, 13, 10, 72, 111, 115, 116, 58, 32] from rfl, str_app, str_app, str_app, str_app]
  have Z_X1 : Hid ((ofL X1).size ≤ 3145746) := Lib.hid (by rw [← eX1]; simp only [ByteArray.size_append]; have := Z_M.out; have := Z_T.out; have := Z_H.out; have : (⟨#[32]⟩ : ByteArray).size = 1 := rfl; have : (⟨#[32, 72, 84, 84, 80, 47, 49, 46, 49, 13, 10, 72, 111, 115, 116, 58, 32]⟩ : ByteArray).size = 17 := rfl; omega)
  have HX1 := Lib.hid hX1
  clear hX1
  have sX20 : (ofL X1).size + 1 ≤ 9223372036854775807 := by have := Z_X1.out; have := Z_DP.out; omega
  have sX21 : (ofL X1).size + 1 + (ofL DP).size ≤ 9223372036854775807 := by have := Z_X1.out; have := Z_DP.out; omega
  obtain ⟨X2, hX2⟩ : ∃ X2, X2 = X1 ++ [58] ++ DP := ⟨_, rfl⟩
  have eX2 : ofL X1 ++ ⟨#[58]⟩ ++ ofL DP = ofL X2 := by rw [hX2, show (⟨#[58]⟩ : ByteArray) = ofL [58] from rfl, str_app, str_app]
  have Z_X2 : Hid ((ofL X2).size ≤ 3145767) := Lib.hid (by rw [← eX2]; simp only [ByteArray.size_append]; have := Z_X1.out; have := Z_DP.out; have : (⟨#[58]⟩ : ByteArray).size = 1 := rfl; omega)
  have HX2 := Lib.hid hX2
  clear hX2
  have sX30 : (ofL X2).size + 2 ≤ 9223372036854775807 := by have := Z_X2.out; have := Z_ON.out; omega
  have sX31 : (ofL X2).size + 2 + (ofL ON).size ≤ 9223372036854775807 := by have := Z_X2.out; have := Z_ON.out; omega
  obtain ⟨X3, hX3⟩ : ∃ X3, X3 = X2 ++ [13, 10] ++ ON := ⟨_, rfl⟩
  have eX3 : ofL X2 ++ ⟨#[13, 10]⟩ ++ ofL ON = ofL X3 := by rw [hX3, show (⟨#[13, 10]⟩ : ByteArray) = ofL [13, 10] from rfl, str_app, str_app]
  have Z_X3 : Hid ((ofL X3).size ≤ 2199030595625) := Lib.hid (by rw [← eX3]; simp only [ByteArray.size_append]; have := Z_X2.out; have := Z_ON.out; have : (⟨#[13, 10]⟩ : ByteArray).size = 2 := rfl; omega)
  have HX3 := Lib.hid hX3
  clear hX3
  have sX40 : (ofL X3).size + (ofL J1).size ≤ 9223372036854775807 := by have := Z_X3.out; have := Z_J1.out; omega
  obtain ⟨X4, hX4⟩ : ∃ X4, X4 = X3 ++ J1 := ⟨_, rfl⟩
  have eX4 : ofL X3 ++ ofL J1 = ofL X4 := by rw [hX4, str_app]
  have Z_X4 : Hid ((ofL X4).size ≤ 3298547466283) := Lib.hid (by rw [← eX4]; simp only [ByteArray.size_append]; have := Z_X3.out; have := Z_J1.out; omega)
  have HX4 := Lib.hid hX4
  clear hX4
  have sX50 : (ofL X4).size + (ofL J2).size ≤ 9223372036854775807 := by have := Z_X4.out; have := Z_J2.out; omega
  obtain ⟨X5, hX5⟩ : ∃ X5, X5 = X4 ++ J2 := ⟨_, rfl⟩
  have eX5 : ofL X4 ++ ofL J2 = ofL X5 := by rw [hX5, str_app]
  have Z_X5 : Hid ((ofL X5).size ≤ 4398064336941) := Lib.hid (by rw [← eX5]; simp only [ByteArray.size_append]; have := Z_X4.out; have := Z_J2.out; omega)
  have HX5 := Lib.hid hX5
  clear hX5
  have sX70 : (ofL X5).size + 30 ≤ 9223372036854775807 := by have := Z_X5.out; have := Z_U.out; omega
  have sX71 : (ofL X5).size + 30 + (ofL a.up).size ≤ 9223372036854775807 := by have := Z_X5.out; have := Z_U.out; omega
  have sX72 : (ofL X5).size + 30 + (ofL a.up).size + 2 ≤ 9223372036854775807 := by have := Z_X5.out; have := Z_U.out; omega
  obtain ⟨X7, hX7⟩ : ∃ X7, X7 = X5 ++ [67, 111, 110, 110, 101, 99, 116, 105, 111, 110, 58, 32, 117, 112, 103, 114, 97, 100, 101, 13, 10, 85, 112, 103, 114, 97, 100, 101, 58, 32] ++ a.up ++ [13, 10] := ⟨_, rfl⟩
  have eX7 : ofL X5 ++ ⟨#[67, 111, 110, 110, 101, 99, 116, 105, 111, 110, 58, 32, 117, 112, 103, 114, 97, 100, 101, 13, 10, 85, 112, 103, 114, 97, 100, 101, 58, 32]⟩ ++ ofL a.up ++ ⟨#[13, 10]⟩ = ofL X7 := by rw [hX7, show (⟨#[67, 111, 110, 110, 101, 99, 116, 105, 111, 110, 58, 32, 117, 112, 103, 114, 97, 100, 101, 13, 10, 85, 112, 103, 114, 97, 100, 101, 58, 32]⟩ : ByteArray) = ofL [67, 111, 110, 110, 101, 99, 116, 105, 111, 110, 58, 32, 117, 112, 103, 114, 97, 100, 101, 13, 10, 85, 112, 103, 114, 97, 100, 101, 58, 32] from rfl, show (⟨#[13, 10]⟩ : ByteArray) = ofL [13, 10] from rfl, str_app, str_app, str_app]
  have Z_X7 : Hid ((ofL X7).size ≤ 4398065385549) := Lib.hid (by rw [← eX7]; simp only [ByteArray.size_append]; have := Z_X5.out; have := Z_U.out; have : (⟨#[67, 111, 110, 110, 101, 99, 116, 105, 111, 110, 58, 32, 117, 112, 103, 114, 97, 100, 101, 13, 10, 85, 112, 103, 114, 97, 100, 101, 58, 32]⟩ : ByteArray).size = 30 := rfl; have : (⟨#[13, 10]⟩ : ByteArray).size = 2 := rfl; omega)
  have HX7 := Lib.hid hX7
  clear hX7
  have sX80 : (ofL X7).size + 2 ≤ 9223372036854775807 := by have := Z_X7.out; have := Z_B.out; omega
  have sX81 : (ofL X7).size + 2 + (ofL a.body).size ≤ 9223372036854775807 := by have := Z_X7.out; have := Z_B.out; omega
  obtain ⟨X8, hX8⟩ : ∃ X8, X8 = X7 ++ [13, 10] ++ a.body := ⟨_, rfl⟩
  have eX8 : ofL X7 ++ ⟨#[13, 10]⟩ ++ ofL a.body = ofL X8 := by rw [hX8, show (⟨#[13, 10]⟩ : ByteArray) = ofL [13, 10] from rfl, str_app, str_app]
  have Z_X8 : Hid ((ofL X8).size ≤ 4398066434127) := Lib.hid (by rw [← eX8]; simp only [ByteArray.size_append]; have := Z_X7.out; have := Z_B.out; have : (⟨#[13, 10]⟩ : ByteArray).size = 2 := rfl; omega)
  have HX8 := Lib.hid hX8
  clear hX8
  have HFin : Hid (RES = X8) := Lib.hid (by rw [HR.out, HX8.out, HX7.out, HX5.out, HX4.out, HX3.out, HX2.out, HX1.out])
  clear HX8 HX7 HX5 HX4 HX3 HX2 HX1 HR
  go_enter Tryd.func8, Tryd.ntmps8
  iterate 12 go_step
  rw [← HW2.out]
  clear HW2
  have hpos : (0 : Int) < a.port := hp
  go_wp2_with fail
  refine (HDP.out _).mono ?_
  rintro e w1 ⟨rfl, hb⟩
  replace HE := Lib.hid (HE.out.call hb)
  clear hb HDP c0 c1 c2 c3
  obtain ⟨_, _, _, _, k4, _, _, _, _⟩ := ask_cells HE.out
  go_wp2_with fail
  refine (HON.out _ HE.out.below).mono ?_
  rintro e w2 ⟨rfl, hb⟩
  replace HE := Lib.hid (HE.out.call hb)
  clear hb HON k4 sX10 sX11 sX12 sX13 eX1 sX20 sX21 eX2
  obtain ⟨_, _, _, _, k4, _, _, k7, _⟩ := ask_cells HE.out
  go_wp2_with fail
  refine (HJ1.out _ HE.out.below).mono ?_
  rintro e w3 ⟨rfl, hb⟩
  replace HE := Lib.hid (HE.out.call hb)
  clear hb HJ1 k4 k7 sX30 sX31 eX3
  obtain ⟨_, _, _, _, k4, _, _, _, _⟩ := ask_cells HE.out
  go_wp2_with fail
  refine (HJ2.out _ HE.out.below).mono ?_
  rintro e w4 ⟨rfl, hb⟩
  replace HE := Lib.hid (HE.out.call hb)
  clear hb HJ2 k4 sX40 eX4
  have hs := HS.out
  have ht1 := HT.out.1
  have ht2 := HT.out.2
  obtain ⟨_, _, _, _, _, k5, k6, _, k8⟩ := ask_cells HE.out
  rw [hs] at k6
  clear hs
  go_wp2_with fail
  go_ret
  exact ⟨ret_string (by rw [HFin.out]), HE.out.below⟩
set_option maxHeartbeats 6400000 in
theorem request_tff (a : AskP) (vl : Value) (hp : 0 < a.port) (hs : a.sized = false) (hu : a.up = []) (hA : Fit a) (w : World) (hF : FL w vl a.fields) :
    Calls Tryd.prog 8 #[.agg (dcells a vl)] w fun e w' => e = .returned (.string (ofL (requestE a))) ∧ Below w.heap.size w w' := by
  have hF0 := hF
  obtain ⟨pl, cl, rfl, _, _⟩ := hF0
  have hE : ∃ W2, W2 = w.alloc (.cells #[.string (ofL a.method), .string (ofL a.target), .string (ofL a.host), .int .i64 a.port, .slice pl a.fields.length cl, .string (ofL a.body), .bool a.sized, .string (ofL a.from_), .string (ofL a.up)] AT) ∧ Bx w AT (dcells a (.slice pl a.fields.length cl)) W2 := ⟨_, rfl, Bx.start w AT _⟩
  obtain ⟨W2, hW2, hE⟩ := hE
  have HW2 := Lib.hid hW2
  have HE := Lib.hid hE
  have HON := Lib.hid (fun W (hb : Below w.heap.size w W) => R13On.on_any _ a.fields hA.fields hA.len true W (hF.below hb))
  have HJ1 := Lib.hid (fun W (hb : Below w.heap.size w W) => R13Join.joined_any _ a.fields hA.fields hA.len XFFN a.from_ (by decide) hA.from_ W (hF.below hb))
  have HJ2 := Lib.hid (fun W (hb : Below w.heap.size w W) => R13Join.joined_any _ a.fields hA.fields hA.len VIAN BARB (by decide) (by decide) W (hF.below hb))
  have HDP := Lib.hid (fun W => R13Dig.digits_any a.port hA.p0 hA.p1 W)
  have zON := onE_len hA.fields hA.len true
  have zJ1 := join_len hA.fields hA.len XFFN a.from_ (by decide) hA.from_
  have zJ2 := join_len hA.fields hA.len VIAN BARB (by decide) (by decide)
  have zDP := decZ_len hA.p0 hA.p1
  have hB0 : (ofL a.body).size = a.body.length := ofL_size _
  have zM := hA.method
  have zT := hA.target
  have zH := hA.host
  have zB := hA.body
  have zU := hA.up
  have HR : Hid (requestE a = a.method ++ [32] ++ a.target ++ [32, 72, 84, 84, 80, 47, 49, 46, 49, 13, 10, 72, 111, 115, 116, 58, 32] ++ a.host ++ [58] ++ decZ a.port ++ [13, 10] ++ (onE true a.fields).flatMap lineE ++ lineE (XFFN, joinV a.fields XFFN a.from_) ++ lineE (VIAN, joinV a.fields VIAN BARB) ++ [13, 10] ++ a.body) := Lib.hid (by
    simp [requestE, askF, HeadLines.startL, HeadWrit.HTTP11, hostE, lineE, hp, hs, hu, HOSTN, CLN, CONN, UPN, UPV])
  have eu : (ofL a.up).toList = a.up := by rw [ByteArray.toList_eq]; exact toL_ofL _
  have t2 : (ofL a.up).toList = [] := by rw [eu, hu]
  have t1 : (ofL a.up).toList.isEmpty = true := by rw [eu, hu]; rfl
  have HT := Lib.hid (And.intro t1 t2)
  have HS := Lib.hid hs
  obtain ⟨c0, c1, c2, c3, _⟩ := ask_cells hE
  clear hE hW2 t1 t2 eu hs hu
  have Z_M : Hid ((ofL (a.method)).size ≤ 1048576) := Lib.hid (by rw [ofL_size]; omega)
  have Z_T : Hid ((ofL (a.target)).size ≤ 1048576) := Lib.hid (by rw [ofL_size]; omega)
  have Z_H : Hid ((ofL (a.host)).size ≤ 1048576) := Lib.hid (by rw [ofL_size]; omega)
  have Z_B : Hid ((ofL (a.body)).size ≤ 1048576) := Lib.hid (by rw [ofL_size]; omega)
  have Z_U : Hid ((ofL (a.up)).size ≤ 1048576) := Lib.hid (by rw [ofL_size]; omega)
  have Z_ON : Hid ((ofL ((onE true a.fields).flatMap lineE)).size ≤ 2199027449856) := Lib.hid (by rw [ofL_size]; omega)
  have Z_J1 : Hid ((ofL (lineE (XFFN, joinV a.fields XFFN a.from_))).size ≤ 1099516870658) := Lib.hid (by rw [ofL_size]; omega)
  have Z_J2 : Hid ((ofL (lineE (VIAN, joinV a.fields VIAN BARB))).size ≤ 1099516870658) := Lib.hid (by rw [ofL_size]; omega)
  have Z_DP : Hid ((ofL (decZ a.port)).size ≤ 20) := Lib.hid (by rw [ofL_size]; omega)
  clear zM zT zH zB zU zON zJ1 zJ2 zDP hB0 hF
  unfold dcells
  generalize decZ a.port = DP at *
  generalize (onE true a.fields).flatMap lineE = ON at *
  generalize lineE (XFFN, joinV a.fields XFFN a.from_) = J1 at *
  generalize lineE (VIAN, joinV a.fields VIAN BARB) = J2 at *
  generalize requestE a = RES at *
  have sX10 : (ofL a.method).size + 1 ≤ 9223372036854775807 := by have := Z_M.out; have := Z_T.out; have := Z_H.out; omega
  have sX11 : (ofL a.method).size + 1 + (ofL a.target).size ≤ 9223372036854775807 := by have := Z_M.out; have := Z_T.out; have := Z_H.out; omega
  have sX12 : (ofL a.method).size + 1 + (ofL a.target).size + 17 ≤ 9223372036854775807 := by have := Z_M.out; have := Z_T.out; have := Z_H.out; omega
  have sX13 : (ofL a.method).size + 1 + (ofL a.target).size + 17 + (ofL a.host).size ≤ 9223372036854775807 := by have := Z_M.out; have := Z_T.out; have := Z_H.out; omega
  obtain ⟨X1, hX1⟩ : ∃ X1, X1 = a.method ++ [32] ++ a.target ++ [32, 72, 84, 84, 80, 47, 49, 46, 49, 13, 10, 72, 111, 115, 116, 58, 32] ++ a.host := ⟨_, rfl⟩
  have eX1 : ofL a.method ++ ⟨#[32]⟩ ++ ofL a.target ++ ⟨#[32, 72, 84, 84, 80, 47, 49, 46, 49, 13, 10, 72, 111, 115, 116, 58, 32]⟩ ++ ofL a.host = ofL X1 := by rw [hX1, show (⟨#[32]⟩ : ByteArray) = ofL [32] from rfl, show (⟨#[32, 72, 84, 84, 80, 47, 49, 46, 49, 13, 10, 72, 111, 115, 116, 58, 32]⟩ : ByteArray) = ofL [32, 72, 84, 84, 80, 47, 49, 46, 49, 13, 10, 72, 111, 115, 116, 58, 32] from rfl, str_app, str_app, str_app, str_app]
  have Z_X1 : Hid ((ofL X1).size ≤ 3145746) := Lib.hid (by rw [← eX1]; simp only [ByteArray.size_append]; have := Z_M.out; have := Z_T.out; have := Z_H.out; have : (⟨#[32]⟩ : ByteArray).size = 1 := rfl; have : (⟨#[32, 72, 84, 84, 80, 47, 49, 46, 49, 13, 10, 72, 111, 115, 116, 58, 32]⟩ : ByteArray).size = 17 := rfl; omega)
  have HX1 := Lib.hid hX1
  clear hX1
  have sX20 : (ofL X1).size + 1 ≤ 9223372036854775807 := by have := Z_X1.out; have := Z_DP.out; omega
  have sX21 : (ofL X1).size + 1 + (ofL DP).size ≤ 9223372036854775807 := by have := Z_X1.out; have := Z_DP.out; omega
  obtain ⟨X2, hX2⟩ : ∃ X2, X2 = X1 ++ [58] ++ DP := ⟨_, rfl⟩
  have eX2 : ofL X1 ++ ⟨#[58]⟩ ++ ofL DP = ofL X2 := by rw [hX2, show (⟨#[58]⟩ : ByteArray) = ofL [58] from rfl, str_app, str_app]
  have Z_X2 : Hid ((ofL X2).size ≤ 3145767) := Lib.hid (by rw [← eX2]; simp only [ByteArray.size_append]; have := Z_X1.out; have := Z_DP.out; have : (⟨#[58]⟩ : ByteArray).size = 1 := rfl; omega)
  have HX2 := Lib.hid hX2
  clear hX2
  have sX30 : (ofL X2).size + 2 ≤ 9223372036854775807 := by have := Z_X2.out; have := Z_ON.out; omega
  have sX31 : (ofL X2).size + 2 + (ofL ON).size ≤ 9223372036854775807 := by have := Z_X2.out; have := Z_ON.out; omega
  obtain ⟨X3, hX3⟩ : ∃ X3, X3 = X2 ++ [13, 10] ++ ON := ⟨_, rfl⟩
  have eX3 : ofL X2 ++ ⟨#[13, 10]⟩ ++ ofL ON = ofL X3 := by rw [hX3, show (⟨#[13, 10]⟩ : ByteArray) = ofL [13, 10] from rfl, str_app, str_app]
  have Z_X3 : Hid ((ofL X3).size ≤ 2199030595625) := Lib.hid (by rw [← eX3]; simp only [ByteArray.size_append]; have := Z_X2.out; have := Z_ON.out; have : (⟨#[13, 10]⟩ : ByteArray).size = 2 := rfl; omega)
  have HX3 := Lib.hid hX3
  clear hX3
  have sX40 : (ofL X3).size + (ofL J1).size ≤ 9223372036854775807 := by have := Z_X3.out; have := Z_J1.out; omega
  obtain ⟨X4, hX4⟩ : ∃ X4, X4 = X3 ++ J1 := ⟨_, rfl⟩
  have eX4 : ofL X3 ++ ofL J1 = ofL X4 := by rw [hX4, str_app]
  have Z_X4 : Hid ((ofL X4).size ≤ 3298547466283) := Lib.hid (by rw [← eX4]; simp only [ByteArray.size_append]; have := Z_X3.out; have := Z_J1.out; omega)
  have HX4 := Lib.hid hX4
  clear hX4
  have sX50 : (ofL X4).size + (ofL J2).size ≤ 9223372036854775807 := by have := Z_X4.out; have := Z_J2.out; omega
  obtain ⟨X5, hX5⟩ : ∃ X5, X5 = X4 ++ J2 := ⟨_, rfl⟩
  have eX5 : ofL X4 ++ ofL J2 = ofL X5 := by rw [hX5, str_app]
  have Z_X5 : Hid ((ofL X5).size ≤ 4398064336941) := Lib.hid (by rw [← eX5]; simp only [ByteArray.size_append]; have := Z_X4.out; have := Z_J2.out; omega)
  have HX5 := Lib.hid hX5
  clear hX5
  have sX80 : (ofL X5).size + 2 ≤ 9223372036854775807 := by have := Z_X5.out; have := Z_B.out; omega
  have sX81 : (ofL X5).size + 2 + (ofL a.body).size ≤ 9223372036854775807 := by have := Z_X5.out; have := Z_B.out; omega
  obtain ⟨X8, hX8⟩ : ∃ X8, X8 = X5 ++ [13, 10] ++ a.body := ⟨_, rfl⟩
  have eX8 : ofL X5 ++ ⟨#[13, 10]⟩ ++ ofL a.body = ofL X8 := by rw [hX8, show (⟨#[13, 10]⟩ : ByteArray) = ofL [13, 10] from rfl, str_app, str_app]
  have Z_X8 : Hid ((ofL X8).size ≤ 4398065385519) := Lib.hid (by rw [← eX8]; simp only [ByteArray.size_append]; have := Z_X5.out; have := Z_B.out; have : (⟨#[13, 10]⟩ : ByteArray).size = 2 := rfl; omega)
  have HX8 := Lib.hid hX8
  clear hX8
  have HFin : Hid (RES = X8) := Lib.hid (by rw [HR.out, HX8.out, HX5.out, HX4.out, HX3.out, HX2.out, HX1.out])
  clear HX8 HX5 HX4 HX3 HX2 HX1 HR
  go_enter Tryd.func8, Tryd.ntmps8
  iterate 12 go_step
  rw [← HW2.out]
  clear HW2
  have hpos : (0 : Int) < a.port := hp
  go_wp2_with fail
  refine (HDP.out _).mono ?_
  rintro e w1 ⟨rfl, hb⟩
  replace HE := Lib.hid (HE.out.call hb)
  clear hb HDP c0 c1 c2 c3
  obtain ⟨_, _, _, _, k4, _, _, _, _⟩ := ask_cells HE.out
  go_wp2_with fail
  refine (HON.out _ HE.out.below).mono ?_
  rintro e w2 ⟨rfl, hb⟩
  replace HE := Lib.hid (HE.out.call hb)
  clear hb HON k4 sX10 sX11 sX12 sX13 eX1 sX20 sX21 eX2
  obtain ⟨_, _, _, _, k4, _, _, k7, _⟩ := ask_cells HE.out
  go_wp2_with fail
  refine (HJ1.out _ HE.out.below).mono ?_
  rintro e w3 ⟨rfl, hb⟩
  replace HE := Lib.hid (HE.out.call hb)
  clear hb HJ1 k4 k7 sX30 sX31 eX3
  obtain ⟨_, _, _, _, k4, _, _, _, _⟩ := ask_cells HE.out
  go_wp2_with fail
  refine (HJ2.out _ HE.out.below).mono ?_
  rintro e w4 ⟨rfl, hb⟩
  replace HE := Lib.hid (HE.out.call hb)
  clear hb HJ2 k4 sX40 eX4
  have hs := HS.out
  have ht1 := HT.out.1
  have ht2 := HT.out.2
  obtain ⟨_, _, _, _, _, k5, k6, _, k8⟩ := ask_cells HE.out
  rw [hs] at k6
  clear hs
  go_wp2_with fail
  go_ret
  exact ⟨ret_string (by rw [HFin.out]), HE.out.below⟩
set_option maxHeartbeats 6400000 in
theorem request_ftt (a : AskP) (vl : Value) (hp : ¬ 0 < a.port) (hs : a.sized = true) (hu : ¬ a.up = []) (hA : Fit a) (w : World) (hF : FL w vl a.fields) :
    Calls Tryd.prog 8 #[.agg (dcells a vl)] w fun e w' => e = .returned (.string (ofL (requestE a))) ∧ Below w.heap.size w w' := by
  have hF0 := hF
  obtain ⟨pl, cl, rfl, _, _⟩ := hF0
  have hE : ∃ W2, W2 = w.alloc (.cells #[.string (ofL a.method), .string (ofL a.target), .string (ofL a.host), .int .i64 a.port, .slice pl a.fields.length cl, .string (ofL a.body), .bool a.sized, .string (ofL a.from_), .string (ofL a.up)] AT) ∧ Bx w AT (dcells a (.slice pl a.fields.length cl)) W2 := ⟨_, rfl, Bx.start w AT _⟩
  obtain ⟨W2, hW2, hE⟩ := hE
  have HW2 := Lib.hid hW2
  have HE := Lib.hid hE
  have HON := Lib.hid (fun W (hb : Below w.heap.size w W) => R13On.on_any _ a.fields hA.fields hA.len true W (hF.below hb))
  have HJ1 := Lib.hid (fun W (hb : Below w.heap.size w W) => R13Join.joined_any _ a.fields hA.fields hA.len XFFN a.from_ (by decide) hA.from_ W (hF.below hb))
  have HJ2 := Lib.hid (fun W (hb : Below w.heap.size w W) => R13Join.joined_any _ a.fields hA.fields hA.len VIAN BARB (by decide) (by decide) W (hF.below hb))
  have HDL := Lib.hid (fun W => R13Dig.digits_any ((ofL a.body).size : Int) (by omega) (by rw [ofL_size]; have := hA.body; omega) W)
  have zON := onE_len hA.fields hA.len true
  have zJ1 := join_len hA.fields hA.len XFFN a.from_ (by decide) hA.from_
  have zJ2 := join_len hA.fields hA.len VIAN BARB (by decide) (by decide)
  have zDL : (decZ ((ofL a.body).size : Int)).length ≤ 20 := decZ_len (by omega) (by rw [ofL_size]; have := hA.body; omega)
  have hB0 : (ofL a.body).size = a.body.length := ofL_size _
  have zM := hA.method
  have zT := hA.target
  have zH := hA.host
  have zB := hA.body
  have zU := hA.up
  have HR : Hid (requestE a = a.method ++ [32] ++ a.target ++ [32, 72, 84, 84, 80, 47, 49, 46, 49, 13, 10, 72, 111, 115, 116, 58, 32] ++ a.host ++ [13, 10] ++ (onE true a.fields).flatMap lineE ++ lineE (XFFN, joinV a.fields XFFN a.from_) ++ lineE (VIAN, joinV a.fields VIAN BARB) ++ [67, 111, 110, 116, 101, 110, 116, 45, 76, 101, 110, 103, 116, 104, 58, 32] ++ decZ ((ofL a.body).size : Int) ++ [13, 10] ++ [67, 111, 110, 110, 101, 99, 116, 105, 111, 110, 58, 32, 117, 112, 103, 114, 97, 100, 101, 13, 10, 85, 112, 103, 114, 97, 100, 101, 58, 32] ++ a.up ++ [13, 10] ++ [13, 10] ++ a.body) := Lib.hid (by
    rw [hB0]
    simp [requestE, askF, HeadLines.startL, HeadWrit.HTTP11, hostE, lineE, hp, hs, hu, HOSTN, CLN, CONN, UPN, UPV])
  have eu : (ofL a.up).toList = a.up := by rw [ByteArray.toList_eq]; exact toL_ofL _
  have t2 : ¬ (ofL a.up).toList = [] := by rw [eu]; exact hu
  have t1 : (ofL a.up).toList.isEmpty = false := by
    rw [eu]
    cases hx : a.up with
    | nil => exact absurd hx hu
    | cons => rfl
  have HT := Lib.hid (And.intro t1 t2)
  have HS := Lib.hid hs
  obtain ⟨c0, c1, c2, c3, _⟩ := ask_cells hE
  clear hE hW2 t1 t2 eu hs hu
  have Z_M : Hid ((ofL (a.method)).size ≤ 1048576) := Lib.hid (by rw [ofL_size]; omega)
  have Z_T : Hid ((ofL (a.target)).size ≤ 1048576) := Lib.hid (by rw [ofL_size]; omega)
  have Z_H : Hid ((ofL (a.host)).size ≤ 1048576) := Lib.hid (by rw [ofL_size]; omega)
  have Z_B : Hid ((ofL (a.body)).size ≤ 1048576) := Lib.hid (by rw [ofL_size]; omega)
  have Z_U : Hid ((ofL (a.up)).size ≤ 1048576) := Lib.hid (by rw [ofL_size]; omega)
  have Z_ON : Hid ((ofL ((onE true a.fields).flatMap lineE)).size ≤ 2199027449856) := Lib.hid (by rw [ofL_size]; omega)
  have Z_J1 : Hid ((ofL (lineE (XFFN, joinV a.fields XFFN a.from_))).size ≤ 1099516870658) := Lib.hid (by rw [ofL_size]; omega)
  have Z_J2 : Hid ((ofL (lineE (VIAN, joinV a.fields VIAN BARB))).size ≤ 1099516870658) := Lib.hid (by rw [ofL_size]; omega)
  have Z_DL : Hid ((ofL (decZ ((ofL a.body).size : Int))).size ≤ 20) := Lib.hid (by rw [ofL_size]; omega)
  clear zM zT zH zB zU zON zJ1 zJ2 zDL hB0 hF
  unfold dcells
  generalize decZ ((ofL a.body).size : Int) = DL at *
  generalize (onE true a.fields).flatMap lineE = ON at *
  generalize lineE (XFFN, joinV a.fields XFFN a.from_) = J1 at *
  generalize lineE (VIAN, joinV a.fields VIAN BARB) = J2 at *
  generalize requestE a = RES at *
  have sX10 : (ofL a.method).size + 1 ≤ 9223372036854775807 := by have := Z_M.out; have := Z_T.out; have := Z_H.out; omega
  have sX11 : (ofL a.method).size + 1 + (ofL a.target).size ≤ 9223372036854775807 := by have := Z_M.out; have := Z_T.out; have := Z_H.out; omega
  have sX12 : (ofL a.method).size + 1 + (ofL a.target).size + 17 ≤ 9223372036854775807 := by have := Z_M.out; have := Z_T.out; have := Z_H.out; omega
  have sX13 : (ofL a.method).size + 1 + (ofL a.target).size + 17 + (ofL a.host).size ≤ 9223372036854775807 := by have := Z_M.out; have := Z_T.out; have := Z_H.out; omega
  obtain ⟨X1, hX1⟩ : ∃ X1, X1 = a.method ++ [32] ++ a.target ++ [32, 72, 84, 84, 80, 47, 49, 46, 49, 13, 10, 72, 111, 115, 116, 58, 32] ++ a.host := ⟨_, rfl⟩
  have eX1 : ofL a.method ++ ⟨#[32]⟩ ++ ofL a.target ++ ⟨#[32, 72, 84, 84, 80, 47, 49, 46, 49, 13, 10, 72, 111, 115, 116, 58, 32]⟩ ++ ofL a.host = ofL X1 := by rw [hX1, show (⟨#[32]⟩ : ByteArray) = ofL [32] from rfl, show (⟨#[32, 72, 84, 84, 80, 47, 49, 46, 49, 13, 10, 72, 111, 115, 116, 58, 32]⟩ : ByteArray) = ofL [32, 72, 84, 84, 80, 47, 49, 46, 49, 13, 10, 72, 111, 115, 116, 58, 32] from rfl, str_app, str_app, str_app, str_app]
  have Z_X1 : Hid ((ofL X1).size ≤ 3145746) := Lib.hid (by rw [← eX1]; simp only [ByteArray.size_append]; have := Z_M.out; have := Z_T.out; have := Z_H.out; have : (⟨#[32]⟩ : ByteArray).size = 1 := rfl; have : (⟨#[32, 72, 84, 84, 80, 47, 49, 46, 49, 13, 10, 72, 111, 115, 116, 58, 32]⟩ : ByteArray).size = 17 := rfl; omega)
  have HX1 := Lib.hid hX1
  clear hX1
  have sX30 : (ofL X1).size + 2 ≤ 9223372036854775807 := by have := Z_X1.out; have := Z_ON.out; omega
  have sX31 : (ofL X1).size + 2 + (ofL ON).size ≤ 9223372036854775807 := by have := Z_X1.out; have := Z_ON.out; omega
  obtain ⟨X3, hX3⟩ : ∃ X3, X3 = X1 ++ [13, 10] ++ ON := ⟨_, rfl⟩
  have eX3 : ofL X1 ++ ⟨#[13, 10]⟩ ++ ofL ON = ofL X3 := by rw [hX3, show (⟨#[13, 10]⟩ : ByteArray) = ofL [13, 10] from rfl, str_app, str_app]
  have Z_X3 : Hid ((ofL X3).size ≤ 2199030595604) := Lib.hid (by rw [← eX3]; simp only [ByteArray.size_append]; have := Z_X1.out; have := Z_ON.out; have : (⟨#[13, 10]⟩ : ByteArray).size = 2 := rfl; omega)
  have HX3 := Lib.hid hX3
  clear hX3
  have sX40 : (ofL X3).size + (ofL J1).size ≤ 9223372036854775807 := by have := Z_X3.out; have := Z_J1.out; omega
  obtain ⟨X4, hX4⟩ : ∃ X4, X4 = X3 ++ J1 := ⟨_, rfl⟩
  have eX4 : ofL X3 ++ ofL J1 = ofL X4 := by rw [hX4, str_app]
  have Z_X4 : Hid ((ofL X4).size ≤ 3298547466262) := Lib.hid (by rw [← eX4]; simp only [ByteArray.size_append]; have := Z_X3.out; have := Z_J1.out; omega)
  have HX4 := Lib.hid hX4
  clear hX4
  have sX50 : (ofL X4).size + (ofL J2).size ≤ 9223372036854775807 := by have := Z_X4.out; have := Z_J2.out; omega
  obtain ⟨X5, hX5⟩ : ∃ X5, X5 = X4 ++ J2 := ⟨_, rfl⟩
  have eX5 : ofL X4 ++ ofL J2 = ofL X5 := by rw [hX5, str_app]
  have Z_X5 : Hid ((ofL X5).size ≤ 4398064336920) := Lib.hid (by rw [← eX5]; simp only [ByteArray.size_append]; have := Z_X4.out; have := Z_J2.out; omega)
  have HX5 := Lib.hid hX5
  clear hX5
  have sX60 : (ofL X5).size + 16 ≤ 9223372036854775807 := by have := Z_X5.out; have := Z_DL.out; omega
  have sX61 : (ofL X5).size + 16 + (ofL DL).size ≤ 9223372036854775807 := by have := Z_X5.out; have := Z_DL.out; omega
  have sX62 : (ofL X5).size + 16 + (ofL DL).size + 2 ≤ 9223372036854775807 := by have := Z_X5.out; have := Z_DL.out; omega
  obtain ⟨X6, hX6⟩ : ∃ X6, X6 = X5 ++ [67, 111, 110, 116, 101, 110, 116, 45, 76, 101, 110, 103, 116, 104, 58, 32] ++ DL ++ [13, 10] := ⟨_, rfl⟩
  have eX6 : ofL X5 ++ ⟨#[67, 111, 110, 116, 101, 110, 116, 45, 76, 101, 110, 103, 116, 104, 58, 32]⟩ ++ ofL DL ++ ⟨#[13, 10]⟩ = ofL X6 := by rw [hX6, show (⟨#[67, 111, 110, 116, 101, 110, 116, 45, 76, 101, 110, 103, 116, 104, 58, 32]⟩ : ByteArray) = ofL [67, 111, 110, 116, 101, 110, 116, 45, 76, 101, 110, 103, 116, 104, 58, 32] from rfl, show (⟨#[13, 10]⟩ : ByteArray) = ofL [13, 10] from rfl, str_app, str_app, str_app]
  have Z_X6 : Hid ((ofL X6).size ≤ 4398064336958) := Lib.hid (by rw [← eX6]; simp only [ByteArray.size_append]; have := Z_X5.out; have := Z_DL.out; have : (⟨#[67, 111, 110, 116, 101, 110, 116, 45, 76, 101, 110, 103, 116, 104, 58, 32]⟩ : ByteArray).size = 16 := rfl; have : (⟨#[13, 10]⟩ : ByteArray).size = 2 := rfl; omega)
  have HX6 := Lib.hid hX6
  clear hX6
  have sX70 : (ofL X6).size + 30 ≤ 9223372036854775807 := by have := Z_X6.out; have := Z_U.out; omega
  have sX71 : (ofL X6).size + 30 + (ofL a.up).size ≤ 9223372036854775807 := by have := Z_X6.out; have := Z_U.out; omega
  have sX72 : (ofL X6).size + 30 + (ofL a.up).size + 2 ≤ 9223372036854775807 := by have := Z_X6.out; have := Z_U.out; omega
  obtain ⟨X7, hX7⟩ : ∃ X7, X7 = X6 ++ [67, 111, 110, 110, 101, 99, 116, 105, 111, 110, 58, 32, 117, 112, 103, 114, 97, 100, 101, 13, 10, 85, 112, 103, 114, 97, 100, 101, 58, 32] ++ a.up ++ [13, 10] := ⟨_, rfl⟩
  have eX7 : ofL X6 ++ ⟨#[67, 111, 110, 110, 101, 99, 116, 105, 111, 110, 58, 32, 117, 112, 103, 114, 97, 100, 101, 13, 10, 85, 112, 103, 114, 97, 100, 101, 58, 32]⟩ ++ ofL a.up ++ ⟨#[13, 10]⟩ = ofL X7 := by rw [hX7, show (⟨#[67, 111, 110, 110, 101, 99, 116, 105, 111, 110, 58, 32, 117, 112, 103, 114, 97, 100, 101, 13, 10, 85, 112, 103, 114, 97, 100, 101, 58, 32]⟩ : ByteArray) = ofL [67, 111, 110, 110, 101, 99, 116, 105, 111, 110, 58, 32, 117, 112, 103, 114, 97, 100, 101, 13, 10, 85, 112, 103, 114, 97, 100, 101, 58, 32] from rfl, show (⟨#[13, 10]⟩ : ByteArray) = ofL [13, 10] from rfl, str_app, str_app, str_app]
  have Z_X7 : Hid ((ofL X7).size ≤ 4398065385566) := Lib.hid (by rw [← eX7]; simp only [ByteArray.size_append]; have := Z_X6.out; have := Z_U.out; have : (⟨#[67, 111, 110, 110, 101, 99, 116, 105, 111, 110, 58, 32, 117, 112, 103, 114, 97, 100, 101, 13, 10, 85, 112, 103, 114, 97, 100, 101, 58, 32]⟩ : ByteArray).size = 30 := rfl; have : (⟨#[13, 10]⟩ : ByteArray).size = 2 := rfl; omega)
  have HX7 := Lib.hid hX7
  clear hX7
  have sX80 : (ofL X7).size + 2 ≤ 9223372036854775807 := by have := Z_X7.out; have := Z_B.out; omega
  have sX81 : (ofL X7).size + 2 + (ofL a.body).size ≤ 9223372036854775807 := by have := Z_X7.out; have := Z_B.out; omega
  obtain ⟨X8, hX8⟩ : ∃ X8, X8 = X7 ++ [13, 10] ++ a.body := ⟨_, rfl⟩
  have eX8 : ofL X7 ++ ⟨#[13, 10]⟩ ++ ofL a.body = ofL X8 := by rw [hX8, show (⟨#[13, 10]⟩ : ByteArray) = ofL [13, 10] from rfl, str_app, str_app]
  have Z_X8 : Hid ((ofL X8).size ≤ 4398066434144) := Lib.hid (by rw [← eX8]; simp only [ByteArray.size_append]; have := Z_X7.out; have := Z_B.out; have : (⟨#[13, 10]⟩ : ByteArray).size = 2 := rfl; omega)
  have HX8 := Lib.hid hX8
  clear hX8
  have HFin : Hid (RES = X8) := Lib.hid (by rw [HR.out, HX8.out, HX7.out, HX6.out, HX5.out, HX4.out, HX3.out, HX1.out])
  clear HX8 HX7 HX6 HX5 HX4 HX3 HX1 HR
  go_enter Tryd.func8, Tryd.ntmps8
  iterate 12 go_step
  rw [← HW2.out]
  clear HW2
  have hpos : ¬ (0 : Int) < a.port := hp
  obtain ⟨_, _, _, _, k4, _, _, _, _⟩ := ask_cells HE.out
  go_wp2_with fail
  refine (HON.out _ HE.out.below).mono ?_
  rintro e w2 ⟨rfl, hb⟩
  replace HE := Lib.hid (HE.out.call hb)
  clear hb HON k4 c0 c1 c2 c3 sX10 sX11 sX12 sX13 eX1
  obtain ⟨_, _, _, _, k4, _, _, k7, _⟩ := ask_cells HE.out
  go_wp2_with fail
  refine (HJ1.out _ HE.out.below).mono ?_
  rintro e w3 ⟨rfl, hb⟩
  replace HE := Lib.hid (HE.out.call hb)
  clear hb HJ1 k4 k7 sX30 sX31 eX3
  obtain ⟨_, _, _, _, k4, _, _, _, _⟩ := ask_cells HE.out
  go_wp2_with fail
  refine (HJ2.out _ HE.out.below).mono ?_
  rintro e w4 ⟨rfl, hb⟩
  replace HE := Lib.hid (HE.out.call hb)
  clear hb HJ2 k4 sX40 eX4
  have hs := HS.out
  have ht1 := HT.out.1
  have ht2 := HT.out.2
  obtain ⟨_, _, _, _, _, k5, k6, _, k8⟩ := ask_cells HE.out
  rw [hs] at k6
  clear hs
  go_wp2_with fail
  refine (HDL.out _).mono ?_
  rintro e w5 ⟨rfl, hb⟩
  replace HE := Lib.hid (HE.out.call hb)
  clear hb HDL k5 k6 k8 sX50 eX5
  obtain ⟨_, _, _, _, _, k5, _, _, k8⟩ := ask_cells HE.out
  go_wp2_with fail
  go_ret
  exact ⟨ret_string (by rw [HFin.out]), HE.out.below⟩
set_option maxHeartbeats 6400000 in
theorem request_ftf (a : AskP) (vl : Value) (hp : ¬ 0 < a.port) (hs : a.sized = true) (hu : a.up = []) (hA : Fit a) (w : World) (hF : FL w vl a.fields) :
    Calls Tryd.prog 8 #[.agg (dcells a vl)] w fun e w' => e = .returned (.string (ofL (requestE a))) ∧ Below w.heap.size w w' := by
  have hF0 := hF
  obtain ⟨pl, cl, rfl, _, _⟩ := hF0
  have hE : ∃ W2, W2 = w.alloc (.cells #[.string (ofL a.method), .string (ofL a.target), .string (ofL a.host), .int .i64 a.port, .slice pl a.fields.length cl, .string (ofL a.body), .bool a.sized, .string (ofL a.from_), .string (ofL a.up)] AT) ∧ Bx w AT (dcells a (.slice pl a.fields.length cl)) W2 := ⟨_, rfl, Bx.start w AT _⟩
  obtain ⟨W2, hW2, hE⟩ := hE
  have HW2 := Lib.hid hW2
  have HE := Lib.hid hE
  have HON := Lib.hid (fun W (hb : Below w.heap.size w W) => R13On.on_any _ a.fields hA.fields hA.len true W (hF.below hb))
  have HJ1 := Lib.hid (fun W (hb : Below w.heap.size w W) => R13Join.joined_any _ a.fields hA.fields hA.len XFFN a.from_ (by decide) hA.from_ W (hF.below hb))
  have HJ2 := Lib.hid (fun W (hb : Below w.heap.size w W) => R13Join.joined_any _ a.fields hA.fields hA.len VIAN BARB (by decide) (by decide) W (hF.below hb))
  have HDL := Lib.hid (fun W => R13Dig.digits_any ((ofL a.body).size : Int) (by omega) (by rw [ofL_size]; have := hA.body; omega) W)
  have zON := onE_len hA.fields hA.len true
  have zJ1 := join_len hA.fields hA.len XFFN a.from_ (by decide) hA.from_
  have zJ2 := join_len hA.fields hA.len VIAN BARB (by decide) (by decide)
  have zDL : (decZ ((ofL a.body).size : Int)).length ≤ 20 := decZ_len (by omega) (by rw [ofL_size]; have := hA.body; omega)
  have hB0 : (ofL a.body).size = a.body.length := ofL_size _
  have zM := hA.method
  have zT := hA.target
  have zH := hA.host
  have zB := hA.body
  have zU := hA.up
  have HR : Hid (requestE a = a.method ++ [32] ++ a.target ++ [32, 72, 84, 84, 80, 47, 49, 46, 49, 13, 10, 72, 111, 115, 116, 58, 32] ++ a.host ++ [13, 10] ++ (onE true a.fields).flatMap lineE ++ lineE (XFFN, joinV a.fields XFFN a.from_) ++ lineE (VIAN, joinV a.fields VIAN BARB) ++ [67, 111, 110, 116, 101, 110, 116, 45, 76, 101, 110, 103, 116, 104, 58, 32] ++ decZ ((ofL a.body).size : Int) ++ [13, 10] ++ [13, 10] ++ a.body) := Lib.hid (by
    rw [hB0]
    simp [requestE, askF, HeadLines.startL, HeadWrit.HTTP11, hostE, lineE, hp, hs, hu, HOSTN, CLN, CONN, UPN, UPV])
  have eu : (ofL a.up).toList = a.up := by rw [ByteArray.toList_eq]; exact toL_ofL _
  have t2 : (ofL a.up).toList = [] := by rw [eu, hu]
  have t1 : (ofL a.up).toList.isEmpty = true := by rw [eu, hu]; rfl
  have HT := Lib.hid (And.intro t1 t2)
  have HS := Lib.hid hs
  obtain ⟨c0, c1, c2, c3, _⟩ := ask_cells hE
  clear hE hW2 t1 t2 eu hs hu
  have Z_M : Hid ((ofL (a.method)).size ≤ 1048576) := Lib.hid (by rw [ofL_size]; omega)
  have Z_T : Hid ((ofL (a.target)).size ≤ 1048576) := Lib.hid (by rw [ofL_size]; omega)
  have Z_H : Hid ((ofL (a.host)).size ≤ 1048576) := Lib.hid (by rw [ofL_size]; omega)
  have Z_B : Hid ((ofL (a.body)).size ≤ 1048576) := Lib.hid (by rw [ofL_size]; omega)
  have Z_U : Hid ((ofL (a.up)).size ≤ 1048576) := Lib.hid (by rw [ofL_size]; omega)
  have Z_ON : Hid ((ofL ((onE true a.fields).flatMap lineE)).size ≤ 2199027449856) := Lib.hid (by rw [ofL_size]; omega)
  have Z_J1 : Hid ((ofL (lineE (XFFN, joinV a.fields XFFN a.from_))).size ≤ 1099516870658) := Lib.hid (by rw [ofL_size]; omega)
  have Z_J2 : Hid ((ofL (lineE (VIAN, joinV a.fields VIAN BARB))).size ≤ 1099516870658) := Lib.hid (by rw [ofL_size]; omega)
  have Z_DL : Hid ((ofL (decZ ((ofL a.body).size : Int))).size ≤ 20) := Lib.hid (by rw [ofL_size]; omega)
  clear zM zT zH zB zU zON zJ1 zJ2 zDL hB0 hF
  unfold dcells
  generalize decZ ((ofL a.body).size : Int) = DL at *
  generalize (onE true a.fields).flatMap lineE = ON at *
  generalize lineE (XFFN, joinV a.fields XFFN a.from_) = J1 at *
  generalize lineE (VIAN, joinV a.fields VIAN BARB) = J2 at *
  generalize requestE a = RES at *
  have sX10 : (ofL a.method).size + 1 ≤ 9223372036854775807 := by have := Z_M.out; have := Z_T.out; have := Z_H.out; omega
  have sX11 : (ofL a.method).size + 1 + (ofL a.target).size ≤ 9223372036854775807 := by have := Z_M.out; have := Z_T.out; have := Z_H.out; omega
  have sX12 : (ofL a.method).size + 1 + (ofL a.target).size + 17 ≤ 9223372036854775807 := by have := Z_M.out; have := Z_T.out; have := Z_H.out; omega
  have sX13 : (ofL a.method).size + 1 + (ofL a.target).size + 17 + (ofL a.host).size ≤ 9223372036854775807 := by have := Z_M.out; have := Z_T.out; have := Z_H.out; omega
  obtain ⟨X1, hX1⟩ : ∃ X1, X1 = a.method ++ [32] ++ a.target ++ [32, 72, 84, 84, 80, 47, 49, 46, 49, 13, 10, 72, 111, 115, 116, 58, 32] ++ a.host := ⟨_, rfl⟩
  have eX1 : ofL a.method ++ ⟨#[32]⟩ ++ ofL a.target ++ ⟨#[32, 72, 84, 84, 80, 47, 49, 46, 49, 13, 10, 72, 111, 115, 116, 58, 32]⟩ ++ ofL a.host = ofL X1 := by rw [hX1, show (⟨#[32]⟩ : ByteArray) = ofL [32] from rfl, show (⟨#[32, 72, 84, 84, 80, 47, 49, 46, 49, 13, 10, 72, 111, 115, 116, 58, 32]⟩ : ByteArray) = ofL [32, 72, 84, 84, 80, 47, 49, 46, 49, 13, 10, 72, 111, 115, 116, 58, 32] from rfl, str_app, str_app, str_app, str_app]
  have Z_X1 : Hid ((ofL X1).size ≤ 3145746) := Lib.hid (by rw [← eX1]; simp only [ByteArray.size_append]; have := Z_M.out; have := Z_T.out; have := Z_H.out; have : (⟨#[32]⟩ : ByteArray).size = 1 := rfl; have : (⟨#[32, 72, 84, 84, 80, 47, 49, 46, 49, 13, 10, 72, 111, 115, 116, 58, 32]⟩ : ByteArray).size = 17 := rfl; omega)
  have HX1 := Lib.hid hX1
  clear hX1
  have sX30 : (ofL X1).size + 2 ≤ 9223372036854775807 := by have := Z_X1.out; have := Z_ON.out; omega
  have sX31 : (ofL X1).size + 2 + (ofL ON).size ≤ 9223372036854775807 := by have := Z_X1.out; have := Z_ON.out; omega
  obtain ⟨X3, hX3⟩ : ∃ X3, X3 = X1 ++ [13, 10] ++ ON := ⟨_, rfl⟩
  have eX3 : ofL X1 ++ ⟨#[13, 10]⟩ ++ ofL ON = ofL X3 := by rw [hX3, show (⟨#[13, 10]⟩ : ByteArray) = ofL [13, 10] from rfl, str_app, str_app]
  have Z_X3 : Hid ((ofL X3).size ≤ 2199030595604) := Lib.hid (by rw [← eX3]; simp only [ByteArray.size_append]; have := Z_X1.out; have := Z_ON.out; have : (⟨#[13, 10]⟩ : ByteArray).size = 2 := rfl; omega)
  have HX3 := Lib.hid hX3
  clear hX3
  have sX40 : (ofL X3).size + (ofL J1).size ≤ 9223372036854775807 := by have := Z_X3.out; have := Z_J1.out; omega
  obtain ⟨X4, hX4⟩ : ∃ X4, X4 = X3 ++ J1 := ⟨_, rfl⟩
  have eX4 : ofL X3 ++ ofL J1 = ofL X4 := by rw [hX4, str_app]
  have Z_X4 : Hid ((ofL X4).size ≤ 3298547466262) := Lib.hid (by rw [← eX4]; simp only [ByteArray.size_append]; have := Z_X3.out; have := Z_J1.out; omega)
  have HX4 := Lib.hid hX4
  clear hX4
  have sX50 : (ofL X4).size + (ofL J2).size ≤ 9223372036854775807 := by have := Z_X4.out; have := Z_J2.out; omega
  obtain ⟨X5, hX5⟩ : ∃ X5, X5 = X4 ++ J2 := ⟨_, rfl⟩
  have eX5 : ofL X4 ++ ofL J2 = ofL X5 := by rw [hX5, str_app]
  have Z_X5 : Hid ((ofL X5).size ≤ 4398064336920) := Lib.hid (by rw [← eX5]; simp only [ByteArray.size_append]; have := Z_X4.out; have := Z_J2.out; omega)
  have HX5 := Lib.hid hX5
  clear hX5
  have sX60 : (ofL X5).size + 16 ≤ 9223372036854775807 := by have := Z_X5.out; have := Z_DL.out; omega
  have sX61 : (ofL X5).size + 16 + (ofL DL).size ≤ 9223372036854775807 := by have := Z_X5.out; have := Z_DL.out; omega
  have sX62 : (ofL X5).size + 16 + (ofL DL).size + 2 ≤ 9223372036854775807 := by have := Z_X5.out; have := Z_DL.out; omega
  obtain ⟨X6, hX6⟩ : ∃ X6, X6 = X5 ++ [67, 111, 110, 116, 101, 110, 116, 45, 76, 101, 110, 103, 116, 104, 58, 32] ++ DL ++ [13, 10] := ⟨_, rfl⟩
  have eX6 : ofL X5 ++ ⟨#[67, 111, 110, 116, 101, 110, 116, 45, 76, 101, 110, 103, 116, 104, 58, 32]⟩ ++ ofL DL ++ ⟨#[13, 10]⟩ = ofL X6 := by rw [hX6, show (⟨#[67, 111, 110, 116, 101, 110, 116, 45, 76, 101, 110, 103, 116, 104, 58, 32]⟩ : ByteArray) = ofL [67, 111, 110, 116, 101, 110, 116, 45, 76, 101, 110, 103, 116, 104, 58, 32] from rfl, show (⟨#[13, 10]⟩ : ByteArray) = ofL [13, 10] from rfl, str_app, str_app, str_app]
  have Z_X6 : Hid ((ofL X6).size ≤ 4398064336958) := Lib.hid (by rw [← eX6]; simp only [ByteArray.size_append]; have := Z_X5.out; have := Z_DL.out; have : (⟨#[67, 111, 110, 116, 101, 110, 116, 45, 76, 101, 110, 103, 116, 104, 58, 32]⟩ : ByteArray).size = 16 := rfl; have : (⟨#[13, 10]⟩ : ByteArray).size = 2 := rfl; omega)
  have HX6 := Lib.hid hX6
  clear hX6
  have sX80 : (ofL X6).size + 2 ≤ 9223372036854775807 := by have := Z_X6.out; have := Z_B.out; omega
  have sX81 : (ofL X6).size + 2 + (ofL a.body).size ≤ 9223372036854775807 := by have := Z_X6.out; have := Z_B.out; omega
  obtain ⟨X8, hX8⟩ : ∃ X8, X8 = X6 ++ [13, 10] ++ a.body := ⟨_, rfl⟩
  have eX8 : ofL X6 ++ ⟨#[13, 10]⟩ ++ ofL a.body = ofL X8 := by rw [hX8, show (⟨#[13, 10]⟩ : ByteArray) = ofL [13, 10] from rfl, str_app, str_app]
  have Z_X8 : Hid ((ofL X8).size ≤ 4398065385536) := Lib.hid (by rw [← eX8]; simp only [ByteArray.size_append]; have := Z_X6.out; have := Z_B.out; have : (⟨#[13, 10]⟩ : ByteArray).size = 2 := rfl; omega)
  have HX8 := Lib.hid hX8
  clear hX8
  have HFin : Hid (RES = X8) := Lib.hid (by rw [HR.out, HX8.out, HX6.out, HX5.out, HX4.out, HX3.out, HX1.out])
  clear HX8 HX6 HX5 HX4 HX3 HX1 HR
  go_enter Tryd.func8, Tryd.ntmps8
  iterate 12 go_step
  rw [← HW2.out]
  clear HW2
  have hpos : ¬ (0 : Int) < a.port := hp
  obtain ⟨_, _, _, _, k4, _, _, _, _⟩ := ask_cells HE.out
  go_wp2_with fail
  refine (HON.out _ HE.out.below).mono ?_
  rintro e w2 ⟨rfl, hb⟩
  replace HE := Lib.hid (HE.out.call hb)
  clear hb HON k4 c0 c1 c2 c3 sX10 sX11 sX12 sX13 eX1
  obtain ⟨_, _, _, _, k4, _, _, k7, _⟩ := ask_cells HE.out
  go_wp2_with fail
  refine (HJ1.out _ HE.out.below).mono ?_
  rintro e w3 ⟨rfl, hb⟩
  replace HE := Lib.hid (HE.out.call hb)
  clear hb HJ1 k4 k7 sX30 sX31 eX3
  obtain ⟨_, _, _, _, k4, _, _, _, _⟩ := ask_cells HE.out
  go_wp2_with fail
  refine (HJ2.out _ HE.out.below).mono ?_
  rintro e w4 ⟨rfl, hb⟩
  replace HE := Lib.hid (HE.out.call hb)
  clear hb HJ2 k4 sX40 eX4
  have hs := HS.out
  have ht1 := HT.out.1
  have ht2 := HT.out.2
  obtain ⟨_, _, _, _, _, k5, k6, _, k8⟩ := ask_cells HE.out
  rw [hs] at k6
  clear hs
  go_wp2_with fail
  refine (HDL.out _).mono ?_
  rintro e w5 ⟨rfl, hb⟩
  replace HE := Lib.hid (HE.out.call hb)
  clear hb HDL k5 k6 k8 sX50 eX5
  obtain ⟨_, _, _, _, _, k5, _, _, k8⟩ := ask_cells HE.out
  go_wp2_with fail
  go_ret
  exact ⟨ret_string (by rw [HFin.out]), HE.out.below⟩
set_option maxHeartbeats 6400000 in
theorem request_fft (a : AskP) (vl : Value) (hp : ¬ 0 < a.port) (hs : a.sized = false) (hu : ¬ a.up = []) (hA : Fit a) (w : World) (hF : FL w vl a.fields) :
    Calls Tryd.prog 8 #[.agg (dcells a vl)] w fun e w' => e = .returned (.string (ofL (requestE a))) ∧ Below w.heap.size w w' := by
  have hF0 := hF
  obtain ⟨pl, cl, rfl, _, _⟩ := hF0
  have hE : ∃ W2, W2 = w.alloc (.cells #[.string (ofL a.method), .string (ofL a.target), .string (ofL a.host), .int .i64 a.port, .slice pl a.fields.length cl, .string (ofL a.body), .bool a.sized, .string (ofL a.from_), .string (ofL a.up)] AT) ∧ Bx w AT (dcells a (.slice pl a.fields.length cl)) W2 := ⟨_, rfl, Bx.start w AT _⟩
  obtain ⟨W2, hW2, hE⟩ := hE
  have HW2 := Lib.hid hW2
  have HE := Lib.hid hE
  have HON := Lib.hid (fun W (hb : Below w.heap.size w W) => R13On.on_any _ a.fields hA.fields hA.len true W (hF.below hb))
  have HJ1 := Lib.hid (fun W (hb : Below w.heap.size w W) => R13Join.joined_any _ a.fields hA.fields hA.len XFFN a.from_ (by decide) hA.from_ W (hF.below hb))
  have HJ2 := Lib.hid (fun W (hb : Below w.heap.size w W) => R13Join.joined_any _ a.fields hA.fields hA.len VIAN BARB (by decide) (by decide) W (hF.below hb))
  have zON := onE_len hA.fields hA.len true
  have zJ1 := join_len hA.fields hA.len XFFN a.from_ (by decide) hA.from_
  have zJ2 := join_len hA.fields hA.len VIAN BARB (by decide) (by decide)
  have hB0 : (ofL a.body).size = a.body.length := ofL_size _
  have zM := hA.method
  have zT := hA.target
  have zH := hA.host
  have zB := hA.body
  have zU := hA.up
  have HR : Hid (requestE a = a.method ++ [32] ++ a.target ++ [32, 72, 84, 84, 80, 47, 49, 46, 49, 13, 10, 72, 111, 115, 116, 58, 32] ++ a.host ++ [13, 10] ++ (onE true a.fields).flatMap lineE ++ lineE (XFFN, joinV a.fields XFFN a.from_) ++ lineE (VIAN, joinV a.fields VIAN BARB) ++ [67, 111, 110, 110, 101, 99, 116, 105, 111, 110, 58, 32, 117, 112, 103, 114, 97, 100, 101, 13, 10, 85, 112, 103, 114, 97, 100, 101, 58, 32] ++ a.up ++ [13, 10] ++ [13, 10] ++ a.body) := Lib.hid (by
    simp [requestE, askF, HeadLines.startL, HeadWrit.HTTP11, hostE, lineE, hp, hs, hu, HOSTN, CLN, CONN, UPN, UPV])
  have eu : (ofL a.up).toList = a.up := by rw [ByteArray.toList_eq]; exact toL_ofL _
  have t2 : ¬ (ofL a.up).toList = [] := by rw [eu]; exact hu
  have t1 : (ofL a.up).toList.isEmpty = false := by
    rw [eu]
    cases hx : a.up with
    | nil => exact absurd hx hu
    | cons => rfl
  have HT := Lib.hid (And.intro t1 t2)
  have HS := Lib.hid hs
  obtain ⟨c0, c1, c2, c3, _⟩ := ask_cells hE
  clear hE hW2 t1 t2 eu hs hu
  have Z_M : Hid ((ofL (a.method)).size ≤ 1048576) := Lib.hid (by rw [ofL_size]; omega)
  have Z_T : Hid ((ofL (a.target)).size ≤ 1048576) := Lib.hid (by rw [ofL_size]; omega)
  have Z_H : Hid ((ofL (a.host)).size ≤ 1048576) := Lib.hid (by rw [ofL_size]; omega)
  have Z_B : Hid ((ofL (a.body)).size ≤ 1048576) := Lib.hid (by rw [ofL_size]; omega)
  have Z_U : Hid ((ofL (a.up)).size ≤ 1048576) := Lib.hid (by rw [ofL_size]; omega)
  have Z_ON : Hid ((ofL ((onE true a.fields).flatMap lineE)).size ≤ 2199027449856) := Lib.hid (by rw [ofL_size]; omega)
  have Z_J1 : Hid ((ofL (lineE (XFFN, joinV a.fields XFFN a.from_))).size ≤ 1099516870658) := Lib.hid (by rw [ofL_size]; omega)
  have Z_J2 : Hid ((ofL (lineE (VIAN, joinV a.fields VIAN BARB))).size ≤ 1099516870658) := Lib.hid (by rw [ofL_size]; omega)
  clear zM zT zH zB zU zON zJ1 zJ2 hB0 hF
  unfold dcells
  generalize (onE true a.fields).flatMap lineE = ON at *
  generalize lineE (XFFN, joinV a.fields XFFN a.from_) = J1 at *
  generalize lineE (VIAN, joinV a.fields VIAN BARB) = J2 at *
  generalize requestE a = RES at *
  have sX10 : (ofL a.method).size + 1 ≤ 9223372036854775807 := by have := Z_M.out; have := Z_T.out; have := Z_H.out; omega
  have sX11 : (ofL a.method).size + 1 + (ofL a.target).size ≤ 9223372036854775807 := by have := Z_M.out; have := Z_T.out; have := Z_H.out; omega
  have sX12 : (ofL a.method).size + 1 + (ofL a.target).size + 17 ≤ 9223372036854775807 := by have := Z_M.out; have := Z_T.out; have := Z_H.out; omega
  have sX13 : (ofL a.method).size + 1 + (ofL a.target).size + 17 + (ofL a.host).size ≤ 9223372036854775807 := by have := Z_M.out; have := Z_T.out; have := Z_H.out; omega
  obtain ⟨X1, hX1⟩ : ∃ X1, X1 = a.method ++ [32] ++ a.target ++ [32, 72, 84, 84, 80, 47, 49, 46, 49, 13, 10, 72, 111, 115, 116, 58, 32] ++ a.host := ⟨_, rfl⟩
  have eX1 : ofL a.method ++ ⟨#[32]⟩ ++ ofL a.target ++ ⟨#[32, 72, 84, 84, 80, 47, 49, 46, 49, 13, 10, 72, 111, 115, 116, 58, 32]⟩ ++ ofL a.host = ofL X1 := by rw [hX1, show (⟨#[32]⟩ : ByteArray) = ofL [32] from rfl, show (⟨#[32, 72, 84, 84, 80, 47, 49, 46, 49, 13, 10, 72, 111, 115, 116, 58, 32]⟩ : ByteArray) = ofL [32, 72, 84, 84, 80, 47, 49, 46, 49, 13, 10, 72, 111, 115, 116, 58, 32] from rfl, str_app, str_app, str_app, str_app]
  have Z_X1 : Hid ((ofL X1).size ≤ 3145746) := Lib.hid (by rw [← eX1]; simp only [ByteArray.size_append]; have := Z_M.out; have := Z_T.out; have := Z_H.out; have : (⟨#[32]⟩ : ByteArray).size = 1 := rfl; have : (⟨#[32, 72, 84, 84, 80, 47, 49, 46, 49, 13, 10, 72, 111, 115, 116, 58, 32]⟩ : ByteArray).size = 17 := rfl; omega)
  have HX1 := Lib.hid hX1
  clear hX1
  have sX30 : (ofL X1).size + 2 ≤ 9223372036854775807 := by have := Z_X1.out; have := Z_ON.out; omega
  have sX31 : (ofL X1).size + 2 + (ofL ON).size ≤ 9223372036854775807 := by have := Z_X1.out; have := Z_ON.out; omega
  obtain ⟨X3, hX3⟩ : ∃ X3, X3 = X1 ++ [13, 10] ++ ON := ⟨_, rfl⟩
  have eX3 : ofL X1 ++ ⟨#[13, 10]⟩ ++ ofL ON = ofL X3 := by rw [hX3, show (⟨#[13, 10]⟩ : ByteArray) = ofL [13, 10] from rfl, str_app, str_app]
  have Z_X3 : Hid ((ofL X3).size ≤ 2199030595604) := Lib.hid (by rw [← eX3]; simp only [ByteArray.size_append]; have := Z_X1.out; have := Z_ON.out; have : (⟨#[13, 10]⟩ : ByteArray).size = 2 := rfl; omega)
  have HX3 := Lib.hid hX3
  clear hX3
  have sX40 : (ofL X3).size + (ofL J1).size ≤ 9223372036854775807 := by have := Z_X3.out; have := Z_J1.out; omega
  obtain ⟨X4, hX4⟩ : ∃ X4, X4 = X3 ++ J1 := ⟨_, rfl⟩
  have eX4 : ofL X3 ++ ofL J1 = ofL X4 := by rw [hX4, str_app]
  have Z_X4 : Hid ((ofL X4).size ≤ 3298547466262) := Lib.hid (by rw [← eX4]; simp only [ByteArray.size_append]; have := Z_X3.out; have := Z_J1.out; omega)
  have HX4 := Lib.hid hX4
  clear hX4
  have sX50 : (ofL X4).size + (ofL J2).size ≤ 9223372036854775807 := by have := Z_X4.out; have := Z_J2.out; omega
  obtain ⟨X5, hX5⟩ : ∃ X5, X5 = X4 ++ J2 := ⟨_, rfl⟩
  have eX5 : ofL X4 ++ ofL J2 = ofL X5 := by rw [hX5, str_app]
  have Z_X5 : Hid ((ofL X5).size ≤ 4398064336920) := Lib.hid (by rw [← eX5]; simp only [ByteArray.size_append]; have := Z_X4.out; have := Z_J2.out; omega)
  have HX5 := Lib.hid hX5
  clear hX5
  have sX70 : (ofL X5).size + 30 ≤ 9223372036854775807 := by have := Z_X5.out; have := Z_U.out; omega
  have sX71 : (ofL X5).size + 30 + (ofL a.up).size ≤ 9223372036854775807 := by have := Z_X5.out; have := Z_U.out; omega
  have sX72 : (ofL X5).size + 30 + (ofL a.up).size + 2 ≤ 9223372036854775807 := by have := Z_X5.out; have := Z_U.out; omega
  obtain ⟨X7, hX7⟩ : ∃ X7, X7 = X5 ++ [67, 111, 110, 110, 101, 99, 116, 105, 111, 110, 58, 32, 117, 112, 103, 114, 97, 100, 101, 13, 10, 85, 112, 103, 114, 97, 100, 101, 58, 32] ++ a.up ++ [13, 10] := ⟨_, rfl⟩
  have eX7 : ofL X5 ++ ⟨#[67, 111, 110, 110, 101, 99, 116, 105, 111, 110, 58, 32, 117, 112, 103, 114, 97, 100, 101, 13, 10, 85, 112, 103, 114, 97, 100, 101, 58, 32]⟩ ++ ofL a.up ++ ⟨#[13, 10]⟩ = ofL X7 := by rw [hX7, show (⟨#[67, 111, 110, 110, 101, 99, 116, 105, 111, 110, 58, 32, 117, 112, 103, 114, 97, 100, 101, 13, 10, 85, 112, 103, 114, 97, 100, 101, 58, 32]⟩ : ByteArray) = ofL [67, 111, 110, 110, 101, 99, 116, 105, 111, 110, 58, 32, 117, 112, 103, 114, 97, 100, 101, 13, 10, 85, 112, 103, 114, 97, 100, 101, 58, 32] from rfl, show (⟨#[13, 10]⟩ : ByteArray) = ofL [13, 10] from rfl, str_app, str_app, str_app]
  have Z_X7 : Hid ((ofL X7).size ≤ 4398065385528) := Lib.hid (by rw [← eX7]; simp only [ByteArray.size_append]; have := Z_X5.out; have := Z_U.out; have : (⟨#[67, 111, 110, 110, 101, 99, 116, 105, 111, 110, 58, 32, 117, 112, 103, 114, 97, 100, 101, 13, 10, 85, 112, 103, 114, 97, 100, 101, 58, 32]⟩ : ByteArray).size = 30 := rfl; have : (⟨#[13, 10]⟩ : ByteArray).size = 2 := rfl; omega)
  have HX7 := Lib.hid hX7
  clear hX7
  have sX80 : (ofL X7).size + 2 ≤ 9223372036854775807 := by have := Z_X7.out; have := Z_B.out; omega
  have sX81 : (ofL X7).size + 2 + (ofL a.body).size ≤ 9223372036854775807 := by have := Z_X7.out; have := Z_B.out; omega
  obtain ⟨X8, hX8⟩ : ∃ X8, X8 = X7 ++ [13, 10] ++ a.body := ⟨_, rfl⟩
  have eX8 : ofL X7 ++ ⟨#[13, 10]⟩ ++ ofL a.body = ofL X8 := by rw [hX8, show (⟨#[13, 10]⟩ : ByteArray) = ofL [13, 10] from rfl, str_app, str_app]
  have Z_X8 : Hid ((ofL X8).size ≤ 4398066434106) := Lib.hid (by rw [← eX8]; simp only [ByteArray.size_append]; have := Z_X7.out; have := Z_B.out; have : (⟨#[13, 10]⟩ : ByteArray).size = 2 := rfl; omega)
  have HX8 := Lib.hid hX8
  clear hX8
  have HFin : Hid (RES = X8) := Lib.hid (by rw [HR.out, HX8.out, HX7.out, HX5.out, HX4.out, HX3.out, HX1.out])
  clear HX8 HX7 HX5 HX4 HX3 HX1 HR
  go_enter Tryd.func8, Tryd.ntmps8
  iterate 12 go_step
  rw [← HW2.out]
  clear HW2
  have hpos : ¬ (0 : Int) < a.port := hp
  obtain ⟨_, _, _, _, k4, _, _, _, _⟩ := ask_cells HE.out
  go_wp2_with fail
  refine (HON.out _ HE.out.below).mono ?_
  rintro e w2 ⟨rfl, hb⟩
  replace HE := Lib.hid (HE.out.call hb)
  clear hb HON k4 c0 c1 c2 c3 sX10 sX11 sX12 sX13 eX1
  obtain ⟨_, _, _, _, k4, _, _, k7, _⟩ := ask_cells HE.out
  go_wp2_with fail
  refine (HJ1.out _ HE.out.below).mono ?_
  rintro e w3 ⟨rfl, hb⟩
  replace HE := Lib.hid (HE.out.call hb)
  clear hb HJ1 k4 k7 sX30 sX31 eX3
  obtain ⟨_, _, _, _, k4, _, _, _, _⟩ := ask_cells HE.out
  go_wp2_with fail
  refine (HJ2.out _ HE.out.below).mono ?_
  rintro e w4 ⟨rfl, hb⟩
  replace HE := Lib.hid (HE.out.call hb)
  clear hb HJ2 k4 sX40 eX4
  have hs := HS.out
  have ht1 := HT.out.1
  have ht2 := HT.out.2
  obtain ⟨_, _, _, _, _, k5, k6, _, k8⟩ := ask_cells HE.out
  rw [hs] at k6
  clear hs
  go_wp2_with fail
  go_ret
  exact ⟨ret_string (by rw [HFin.out]), HE.out.below⟩
set_option maxHeartbeats 6400000 in
theorem request_fff (a : AskP) (vl : Value) (hp : ¬ 0 < a.port) (hs : a.sized = false) (hu : a.up = []) (hA : Fit a) (w : World) (hF : FL w vl a.fields) :
    Calls Tryd.prog 8 #[.agg (dcells a vl)] w fun e w' => e = .returned (.string (ofL (requestE a))) ∧ Below w.heap.size w w' := by
  have hF0 := hF
  obtain ⟨pl, cl, rfl, _, _⟩ := hF0
  have hE : ∃ W2, W2 = w.alloc (.cells #[.string (ofL a.method), .string (ofL a.target), .string (ofL a.host), .int .i64 a.port, .slice pl a.fields.length cl, .string (ofL a.body), .bool a.sized, .string (ofL a.from_), .string (ofL a.up)] AT) ∧ Bx w AT (dcells a (.slice pl a.fields.length cl)) W2 := ⟨_, rfl, Bx.start w AT _⟩
  obtain ⟨W2, hW2, hE⟩ := hE
  have HW2 := Lib.hid hW2
  have HE := Lib.hid hE
  have HON := Lib.hid (fun W (hb : Below w.heap.size w W) => R13On.on_any _ a.fields hA.fields hA.len true W (hF.below hb))
  have HJ1 := Lib.hid (fun W (hb : Below w.heap.size w W) => R13Join.joined_any _ a.fields hA.fields hA.len XFFN a.from_ (by decide) hA.from_ W (hF.below hb))
  have HJ2 := Lib.hid (fun W (hb : Below w.heap.size w W) => R13Join.joined_any _ a.fields hA.fields hA.len VIAN BARB (by decide) (by decide) W (hF.below hb))
  have zON := onE_len hA.fields hA.len true
  have zJ1 := join_len hA.fields hA.len XFFN a.from_ (by decide) hA.from_
  have zJ2 := join_len hA.fields hA.len VIAN BARB (by decide) (by decide)
  have hB0 : (ofL a.body).size = a.body.length := ofL_size _
  have zM := hA.method
  have zT := hA.target
  have zH := hA.host
  have zB := hA.body
  have zU := hA.up
  have HR : Hid (requestE a = a.method ++ [32] ++ a.target ++ [32, 72, 84, 84, 80, 47, 49, 46, 49, 13, 10, 72, 111, 115, 116, 58, 32] ++ a.host ++ [13, 10] ++ (onE true a.fields).flatMap lineE ++ lineE (XFFN, joinV a.fields XFFN a.from_) ++ lineE (VIAN, joinV a.fields VIAN BARB) ++ [13, 10] ++ a.body) := Lib.hid (by
    simp [requestE, askF, HeadLines.startL, HeadWrit.HTTP11, hostE, lineE, hp, hs, hu, HOSTN, CLN, CONN, UPN, UPV])
  have eu : (ofL a.up).toList = a.up := by rw [ByteArray.toList_eq]; exact toL_ofL _
  have t2 : (ofL a.up).toList = [] := by rw [eu, hu]
  have t1 : (ofL a.up).toList.isEmpty = true := by rw [eu, hu]; rfl
  have HT := Lib.hid (And.intro t1 t2)
  have HS := Lib.hid hs
  obtain ⟨c0, c1, c2, c3, _⟩ := ask_cells hE
  clear hE hW2 t1 t2 eu hs hu
  have Z_M : Hid ((ofL (a.method)).size ≤ 1048576) := Lib.hid (by rw [ofL_size]; omega)
  have Z_T : Hid ((ofL (a.target)).size ≤ 1048576) := Lib.hid (by rw [ofL_size]; omega)
  have Z_H : Hid ((ofL (a.host)).size ≤ 1048576) := Lib.hid (by rw [ofL_size]; omega)
  have Z_B : Hid ((ofL (a.body)).size ≤ 1048576) := Lib.hid (by rw [ofL_size]; omega)
  have Z_U : Hid ((ofL (a.up)).size ≤ 1048576) := Lib.hid (by rw [ofL_size]; omega)
  have Z_ON : Hid ((ofL ((onE true a.fields).flatMap lineE)).size ≤ 2199027449856) := Lib.hid (by rw [ofL_size]; omega)
  have Z_J1 : Hid ((ofL (lineE (XFFN, joinV a.fields XFFN a.from_))).size ≤ 1099516870658) := Lib.hid (by rw [ofL_size]; omega)
  have Z_J2 : Hid ((ofL (lineE (VIAN, joinV a.fields VIAN BARB))).size ≤ 1099516870658) := Lib.hid (by rw [ofL_size]; omega)
  clear zM zT zH zB zU zON zJ1 zJ2 hB0 hF
  unfold dcells
  generalize (onE true a.fields).flatMap lineE = ON at *
  generalize lineE (XFFN, joinV a.fields XFFN a.from_) = J1 at *
  generalize lineE (VIAN, joinV a.fields VIAN BARB) = J2 at *
  generalize requestE a = RES at *
  have sX10 : (ofL a.method).size + 1 ≤ 9223372036854775807 := by have := Z_M.out; have := Z_T.out; have := Z_H.out; omega
  have sX11 : (ofL a.method).size + 1 + (ofL a.target).size ≤ 9223372036854775807 := by have := Z_M.out; have := Z_T.out; have := Z_H.out; omega
  have sX12 : (ofL a.method).size + 1 + (ofL a.target).size + 17 ≤ 9223372036854775807 := by have := Z_M.out; have := Z_T.out; have := Z_H.out; omega
  have sX13 : (ofL a.method).size + 1 + (ofL a.target).size + 17 + (ofL a.host).size ≤ 9223372036854775807 := by have := Z_M.out; have := Z_T.out; have := Z_H.out; omega
  obtain ⟨X1, hX1⟩ : ∃ X1, X1 = a.method ++ [32] ++ a.target ++ [32, 72, 84, 84, 80, 47, 49, 46, 49, 13, 10, 72, 111, 115, 116, 58, 32] ++ a.host := ⟨_, rfl⟩
  have eX1 : ofL a.method ++ ⟨#[32]⟩ ++ ofL a.target ++ ⟨#[32, 72, 84, 84, 80, 47, 49, 46, 49, 13, 10, 72, 111, 115, 116, 58, 32]⟩ ++ ofL a.host = ofL X1 := by rw [hX1, show (⟨#[32]⟩ : ByteArray) = ofL [32] from rfl, show (⟨#[32, 72, 84, 84, 80, 47, 49, 46, 49, 13, 10, 72, 111, 115, 116, 58, 32]⟩ : ByteArray) = ofL [32, 72, 84, 84, 80, 47, 49, 46, 49, 13, 10, 72, 111, 115, 116, 58, 32] from rfl, str_app, str_app, str_app, str_app]
  have Z_X1 : Hid ((ofL X1).size ≤ 3145746) := Lib.hid (by rw [← eX1]; simp only [ByteArray.size_append]; have := Z_M.out; have := Z_T.out; have := Z_H.out; have : (⟨#[32]⟩ : ByteArray).size = 1 := rfl; have : (⟨#[32, 72, 84, 84, 80, 47, 49, 46, 49, 13, 10, 72, 111, 115, 116, 58, 32]⟩ : ByteArray).size = 17 := rfl; omega)
  have HX1 := Lib.hid hX1
  clear hX1
  have sX30 : (ofL X1).size + 2 ≤ 9223372036854775807 := by have := Z_X1.out; have := Z_ON.out; omega
  have sX31 : (ofL X1).size + 2 + (ofL ON).size ≤ 9223372036854775807 := by have := Z_X1.out; have := Z_ON.out; omega
  obtain ⟨X3, hX3⟩ : ∃ X3, X3 = X1 ++ [13, 10] ++ ON := ⟨_, rfl⟩
  have eX3 : ofL X1 ++ ⟨#[13, 10]⟩ ++ ofL ON = ofL X3 := by rw [hX3, show (⟨#[13, 10]⟩ : ByteArray) = ofL [13, 10] from rfl, str_app, str_app]
  have Z_X3 : Hid ((ofL X3).size ≤ 2199030595604) := Lib.hid (by rw [← eX3]; simp only [ByteArray.size_append]; have := Z_X1.out; have := Z_ON.out; have : (⟨#[13, 10]⟩ : ByteArray).size = 2 := rfl; omega)
  have HX3 := Lib.hid hX3
  clear hX3
  have sX40 : (ofL X3).size + (ofL J1).size ≤ 9223372036854775807 := by have := Z_X3.out; have := Z_J1.out; omega
  obtain ⟨X4, hX4⟩ : ∃ X4, X4 = X3 ++ J1 := ⟨_, rfl⟩
  have eX4 : ofL X3 ++ ofL J1 = ofL X4 := by rw [hX4, str_app]
  have Z_X4 : Hid ((ofL X4).size ≤ 3298547466262) := Lib.hid (by rw [← eX4]; simp only [ByteArray.size_append]; have := Z_X3.out; have := Z_J1.out; omega)
  have HX4 := Lib.hid hX4
  clear hX4
  have sX50 : (ofL X4).size + (ofL J2).size ≤ 9223372036854775807 := by have := Z_X4.out; have := Z_J2.out; omega
  obtain ⟨X5, hX5⟩ : ∃ X5, X5 = X4 ++ J2 := ⟨_, rfl⟩
  have eX5 : ofL X4 ++ ofL J2 = ofL X5 := by rw [hX5, str_app]
  have Z_X5 : Hid ((ofL X5).size ≤ 4398064336920) := Lib.hid (by rw [← eX5]; simp only [ByteArray.size_append]; have := Z_X4.out; have := Z_J2.out; omega)
  have HX5 := Lib.hid hX5
  clear hX5
  have sX80 : (ofL X5).size + 2 ≤ 9223372036854775807 := by have := Z_X5.out; have := Z_B.out; omega
  have sX81 : (ofL X5).size + 2 + (ofL a.body).size ≤ 9223372036854775807 := by have := Z_X5.out; have := Z_B.out; omega
  obtain ⟨X8, hX8⟩ : ∃ X8, X8 = X5 ++ [13, 10] ++ a.body := ⟨_, rfl⟩
  have eX8 : ofL X5 ++ ⟨#[13, 10]⟩ ++ ofL a.body = ofL X8 := by rw [hX8, show (⟨#[13, 10]⟩ : ByteArray) = ofL [13, 10] from rfl, str_app, str_app]
  have Z_X8 : Hid ((ofL X8).size ≤ 4398065385498) := Lib.hid (by rw [← eX8]; simp only [ByteArray.size_append]; have := Z_X5.out; have := Z_B.out; have : (⟨#[13, 10]⟩ : ByteArray).size = 2 := rfl; omega)
  have HX8 := Lib.hid hX8
  clear hX8
  have HFin : Hid (RES = X8) := Lib.hid (by rw [HR.out, HX8.out, HX5.out, HX4.out, HX3.out, HX1.out])
  clear HX8 HX5 HX4 HX3 HX1 HR
  go_enter Tryd.func8, Tryd.ntmps8
  iterate 12 go_step
  rw [← HW2.out]
  clear HW2
  have hpos : ¬ (0 : Int) < a.port := hp
  obtain ⟨_, _, _, _, k4, _, _, _, _⟩ := ask_cells HE.out
  go_wp2_with fail
  refine (HON.out _ HE.out.below).mono ?_
  rintro e w2 ⟨rfl, hb⟩
  replace HE := Lib.hid (HE.out.call hb)
  clear hb HON k4 c0 c1 c2 c3 sX10 sX11 sX12 sX13 eX1
  obtain ⟨_, _, _, _, k4, _, _, k7, _⟩ := ask_cells HE.out
  go_wp2_with fail
  refine (HJ1.out _ HE.out.below).mono ?_
  rintro e w3 ⟨rfl, hb⟩
  replace HE := Lib.hid (HE.out.call hb)
  clear hb HJ1 k4 k7 sX30 sX31 eX3
  obtain ⟨_, _, _, _, k4, _, _, _, _⟩ := ask_cells HE.out
  go_wp2_with fail
  refine (HJ2.out _ HE.out.below).mono ?_
  rintro e w4 ⟨rfl, hb⟩
  replace HE := Lib.hid (HE.out.call hb)
  clear hb HJ2 k4 sX40 eX4
  have hs := HS.out
  have ht1 := HT.out.1
  have ht2 := HT.out.2
  obtain ⟨_, _, _, _, _, k5, k6, _, k8⟩ := ask_cells HE.out
  rw [hs] at k6
  clear hs
  go_wp2_with fail
  go_ret
  exact ⟨ret_string (by rw [HFin.out]), HE.out.below⟩
theorem request_any (a : AskP) (vl : Value) (hA : Fit a) (w : World) (hF : FL w vl a.fields) :
    Calls Tryd.prog 8 #[.agg (dcells a vl)] w fun e w' => e = .returned (.string (ofL (requestE a))) ∧ Below w.heap.size w w' := by
  by_cases hp : 0 < a.port
  · cases hs : a.sized with
    | true =>
      by_cases hu : a.up = []
      · exact request_ttf a vl hp hs hu hA w hF
      · exact request_ttt a vl hp hs hu hA w hF
    | false =>
      by_cases hu : a.up = []
      · exact request_tff a vl hp hs hu hA w hF
      · exact request_tft a vl hp hs hu hA w hF
  · cases hs : a.sized with
    | true =>
      by_cases hu : a.up = []
      · exact request_ftf a vl hp hs hu hA w hF
      · exact request_ftt a vl hp hs hu hA w hF
    | false =>
      by_cases hu : a.up = []
      · exact request_fff a vl hp hs hu hA w hF
      · exact request_fft a vl hp hs hu hA w hF
end Go.Proofs.YtblpooddamkfdaaDoor.R13Req
