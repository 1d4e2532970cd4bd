/- Texts of this seat, one behind another: R9Has, R9Code, RNumber, RDecimal, R9Len, R9Req. -/
import Derived.Lib.Hide
import Derived.Below
import Derived.Outline
import Derived.LoopTactic
import Derived.Handy
import Derived.Test.YtmlpdhmafmdkcaaGreatDoorA4
import Derived.Test.YtmlpdhmafmdkcaaGreatDoorA3
import Derived.Test.YtmlpdhmafmdkcaaGreatDoorA6
import Derived.Test.YtmlpdhmafmdkcaaGreatDoorA2
import Derived.Test.YtmlpdhmafmdkcaaGreatDoorA1
import Derived.Test.YtmlpdhmafmdkcaaGreatDoorA5
/- Layer 9, the document's own Has. -/
namespace Go.Proofs.YtmlpdhmafmdkcaaGreatDoor.R9Has
open Go.ChangeShapes Go.WideShapes Go.ChangeAt Go.RowKit LexPure Bytes Ret FieldsPure HeadPure Flds R7Get HBox Mem
set_option maxRecDepth 20000
end Go.Proofs.YtmlpdhmafmdkcaaGreatDoor.R9Has

/- Layer 9, the document's own Coding. -/
namespace Go.Proofs.YtmlpdhmafmdkcaaGreatDoor.R9Code
open Go.ChangeShapes Go.WideShapes Go.ChangeAt Go.RowKit LexPure Bytes Ret Rows1 Texts FieldsPure HeadPure FramePure Flds R7Elements R7Has RLower HBox Mem
set_option maxRecDepth 20000
theorem code_nil : codeN [] = 3 := rfl
theorem code_say (I : List (List UInt8)) (x : List UInt8) : codeN (I ++ [x]) = if lower x = CHUNKED ∧ I.all (fun y => !(lower y == CHUNKED)) = true then (if I = [] then 1 else 2) else 3 := by
  unfold codeN
  rw [List.reverse_append, List.reverse_singleton, List.singleton_append]
  simp only [List.all_reverse, List.reverse_eq_nil_iff]
/-- none of the first k is chunked -/
def Fore (I : List (List UInt8)) (k : Nat) : Prop := (I.take k).all (fun y => !(lower y == CHUNKED)) = true
theorem ret_code {a b : Int} (h : a = b) : Ending.returned (.int .i64 a) = .returned (.int .i64 b) := by rw [h]
theorem chunked_at (y : List UInt8) : ((ofL (lower y)).toList == [99, 104, 117, 110, 107, 101, 100]) = (lower y == CHUNKED) := by
  rw [ByteArray.toList_eq, show (ofL (lower y)).data.toList = lower y from toL_ofL _]
  rfl
end Go.Proofs.YtmlpdhmafmdkcaaGreatDoor.R9Code

/- Layer 4, the document's own number. -/
namespace Go.Proofs.YtmlpdhmafmdkcaaGreatDoor.RNumber
open Go.ChangeShapes Go.WideShapes Go.ChangeAt Go.RowKit LexPure Bytes Ret LexNum
set_option maxRecDepth 20000
end Go.Proofs.YtmlpdhmafmdkcaaGreatDoor.RNumber

/- Layer 4, the document's own Decimal. -/
namespace Go.Proofs.YtmlpdhmafmdkcaaGreatDoor.RDecimal
open Go.ChangeShapes Go.WideShapes Go.ChangeAt Go.RowKit LexPure Bytes Ret LexNum RNumber
set_option maxRecDepth 20000
end Go.Proofs.YtmlpdhmafmdkcaaGreatDoor.RDecimal

/- Layer 9, the document's own Length. -/
namespace Go.Proofs.YtmlpdhmafmdkcaaGreatDoor.R9Len
open Go.ChangeShapes Go.WideShapes Go.ChangeAt Go.RowKit LexPure Bytes Ret Rows1 LexList LexNum FieldsPure HeadPure FramePure Flds RLower RTrim RDecimal HBox Mem
set_option maxRecDepth 20000
/-- the lengths of a value from a place on -/
def lrest (s : ByteArray) (f : Nat) : List (List UInt8) := if f ≤ s.size then (pieces ((toL s).drop f)).map trim else []
/-- behind k bytes of a value, the last comma ahead of f; C is what the whole comes to, m the number so far -/
structure NInv (s : ByteArray) (more : List (List UInt8)) (C m : Int) (k f : Nat) : Prop where
  all_ : C = lenFrom m (lrest s f ++ more)
  le : f ≤ k
  in_ : k ≤ s.size → f ≤ s.size
  out_ : s.size < k → s.size < f
  no : noComma (((toL s).drop f).take (k - f)) = true
  least : -1 ≤ m
theorem lrest_end {s : ByteArray} {f : Nat} (hf : f ≤ s.size) (h : noComma (((toL s).drop f).take (s.size - f)) = true) : lrest s f = trim (((toL s).drop f).take (s.size - f)) :: lrest s (s.size + 1) := by
  unfold lrest
  have e : ((toL s).drop f).take (s.size - f) = (toL s).drop f := List.take_of_length_le (by rw [List.length_drop, toL_length]; omega)
  rw [if_pos hf, if_neg (by omega)]
  rw [e] at h ⊢
  rw [pieces_plain h]
  rfl
theorem lrest_cut {s : ByteArray} {f k : Nat} (hf : f ≤ k) (hk : k < s.size) (h : noComma (((toL s).drop f).take (k - f)) = true) (hc : s[k] = 44) : lrest s f = trim (((toL s).drop f).take (k - f)) :: lrest s (k + 1) := by
  unfold lrest
  rw [if_pos (by omega), if_pos (by omega)]
  have e : (toL s).drop f = ((toL s).drop f).take (k - f) ++ 44 :: (toL s).drop (k + 1) := by
    have h1 := List.take_append_drop (k - f) ((toL s).drop f)
    rw [List.drop_drop, show f + (k - f) = k by omega, toL_drop s k hk, hc] at h1
    exact h1.symm
  conv => lhs; rw [e]
  rw [pieces_cut h]
  rfl
theorem piece_eq9 (s : ByteArray) (f k : Nat) : toL (s.extract f k) = ((toL s).drop f).take (k - f) := by
  rw [toL_extract, List.drop_take]
theorem clen_at (f : HField) : ((ofL (lower f.1)).toList == [99, 111, 110, 116, 101, 110, 116, 45, 108, 101, 110, 103, 116, 104]) = hit CLEN f := by
  rw [ByteArray.toList_eq, show (ofL (lower f.1)).data.toList = lower f.1 from toL_ofL _]
  unfold hit alike
  rw [show lower CLEN = CLEN by decide]
  rfl
theorem ret_len {a b : Int} (h : a = b) : Ending.returned (.int .i64 a) = .returned (.int .i64 b) := by rw [h]
end Go.Proofs.YtmlpdhmafmdkcaaGreatDoor.R9Len

/- Layer 9, the document's own Request. -/
namespace Go.Proofs.YtmlpdhmafmdkcaaGreatDoor.R9Req
open Go.ChangeShapes Go.WideShapes Go.ChangeAt Go.RowKit LexPure Bytes Ret Rows1 FieldsPure HeadPure FramePure Flds HBox Held R9Has R9Code R9Len Mem
set_option maxRecDepth 20000
def trip (r : Int × Int × Int) : Value := .tuple #[.int .i64 r.1, .int .i64 r.2.1, .int .i64 r.2.2]
theorem ret_trip {a b c : Int} {r : Int × Int × Int} (h : r = (a, b, c)) : Ending.returned (.tuple #[.int .i64 a, .int .i64 b, .int .i64 c]) = .returned (trip r) := by rw [h]; rfl
end Go.Proofs.YtmlpdhmafmdkcaaGreatDoor.R9Req
