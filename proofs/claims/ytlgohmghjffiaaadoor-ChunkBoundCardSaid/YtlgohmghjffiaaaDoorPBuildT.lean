/- A strings.Builder that a call has made itself: its writes and its text, in the words of lists of bytes. -/
import Derived.Test.YtlgohmghjffiaaaDoorBytes
import Derived.Test.YtlgohmghjffiaaaDoorLawBase
import Derived.Test.YtlgohmghjffiaaaDoorBuildLays
import Derived.Lib.Hide
import Derived.Below
namespace Go.Proofs.YtlgohmghjffiaaaDoor.PBuildT
open Go.ChangeShapes Go.WideShapes Go.ChangeAt Go.RowKit Bytes
theorem extra166 : Builder.Extra Tryd.prog Tryd.lays166_ren := {
  sizeBuilder := by kernel_rfl
  liesBuilder := by kernel_rfl
  t5 := Tryd.underlying5
  a5 := Tryd.isAgg5
  z5 := Tryd.sizeOf5
  v5 := Tryd.zeroValue5
  infoByte := by kernel_rfl
  cellsByte := by kernel_rfl
  sizeByte := by kernel_rfl
  neB5 := by decide }
theorem extra169 : Builder.Extra Tryd.prog Tryd.lays169_ren := {
  sizeBuilder := by kernel_rfl
  liesBuilder := by kernel_rfl
  t5 := Tryd.underlying5
  a5 := Tryd.isAgg5
  z5 := Tryd.sizeOf5
  v5 := Tryd.zeroValue5
  infoByte := by kernel_rfl
  cellsByte := by kernel_rfl
  sizeByte := by kernel_rfl
  neB5 := by decide }
/-- the builder in block b, made by the call that began in world w, holds acc -/
def Bld (w : World) (b : Nat) (acc : List UInt8) (wr : World) : Prop := Lib.IsBuilder 42 5 w.heap.size b (Lib.byteCells acc) wr ∧ Below w.heap.size w wr
theorem Bld.start (w : World) : Bld w w.heap.size [] (w.alloc (.cells #[.pointer none, .slice none 0 0] 42)) :=
  ⟨Lib.fresh_isBuilder _ _ w, (Below.refl _ w).alloc (Nat.le_refl _) _⟩
theorem at_below {T e : TypeId} {B b : Nat} {p : Value} {bs : List Value} {w w' : World} (h : Lib.BuilderAt T e B b p bs w) (hb : Below w.heap.size w w') : Lib.BuilderAt T e B b p bs w' := by
  obtain ⟨hB, v, hv, hown, hne⟩ := h
  have hlt : b < w.heap.size := (Array.getElem?_eq_some_iff.1 hv).1
  refine ⟨hB, v, by rw [hb.block b hlt]; exact hv, ⟨hown.1, ?_⟩, hne⟩
  rcases hown.2 with h0 | ⟨g, cap, cur, h1, h2, h3, h4⟩
  · exact .inl h0
  · exact .inr ⟨g, cap, cur, h1, h2, by rw [hb.block g (Array.getElem?_eq_some_iff.1 h3).1]; exact h3, h4⟩
theorem Bld.keep {w wr w' : World} {b : Nat} {acc : List UInt8} (h : Bld w b acc wr) (hb : Below wr.heap.size wr w') : Bld w b acc w' :=
  ⟨h.1.elim (fun x => .inl (at_below x hb)) (fun x => .inr (at_below x hb)), ⟨hb.os.trans h.2.os, hb.tape.trans h.2.tape, hb.output.trans h.2.output, Nat.le_trans h.2.size hb.size, fun i hi => (hb.block i (Nat.lt_of_lt_of_le hi h.2.size)).trans (h.2.block i hi)⟩⟩
theorem bld_text {w wr : World} {b : Nat} {acc : List UInt8} (h : Bld w b acc wr) (s : ByteArray) (hl : acc.length + s.size ≤ 140737488355328) :
    Calls Tryd.prog 15 #[.pointer (some ⟨b, 0, none⟩), .string s] wr fun e w' => e = .returned (.tuple #[.int .i64 s.size, .nilIface]) ∧ Bld w b (acc ++ toL s) w' := by
  refine (Any.Builder_WriteString Tryd.lays166 extra166 w.heap.size b _ s wr h.1 (by rw [Lib.byteCells_length]; exact hl) h.2.size).mono ?_
  rintro e w' ⟨rfl, h1, h2⟩
  refine ⟨rfl, ?_, h.2.trans h2⟩
  rw [Lib.byteCells_append]
  exact .inr h1
theorem bld_out {w wr : World} {b : Nat} {acc : List UInt8} (h : Bld w b acc wr) :
    Calls Tryd.prog 18 #[.pointer (some ⟨b, 0, none⟩)] wr fun e w' => e = .returned (.string (ofL acc)) ∧ Below w.heap.size w w' := by
  refine (Any.Builder_String_any Tryd.lays169 extra169 w.heap.size b acc wr h.1 h.2.size).mono ?_
  rintro e w' ⟨rfl, h2⟩
  exact ⟨rfl, h.2.trans h2⟩
end Go.Proofs.YtlgohmghjffiaaaDoor.PBuildT
