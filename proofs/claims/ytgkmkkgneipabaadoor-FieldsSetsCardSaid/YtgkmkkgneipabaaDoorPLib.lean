/- Layer 4 of the program: what the library's calls answer it (strings.Trim at blanks, strings.IndexByte at the marks, strings.Split at a comma), off the shelf's contracts. -/
import Derived.Test.YtgkmkkgneipabaaDoorLexSplit
import Derived.Test.YtgkmkkgneipabaaDoorLexLays
import Derived.Test.YtgkmkkgneipabaaDoorLawBase
import Derived.Test.YtgkmkkgneipabaaDoorRet
import Derived.Test.YtgkmkkgneipabaaDoorTexts
import Derived.Lib.Hide
import Derived.Shelf.Vars
namespace Go.Proofs.YtgkmkkgneipabaaDoor.PLib
open Go.ChangeShapes Go.WideShapes Go.ChangeAt Go.RowKit LexPure Bytes Ret LexSplit Texts Rows1
theorem lib_trim (s : ByteArray) (hs : s.size ≤ maxLen) (w : World) :
    Calls Tryd.prog 58 #[.string s, .string ⟨#[32, 9]⟩] w fun e w' => e = .returned (.string (ofL (trim (toL s)))) ∧ Below w.heap.size w w' := by
  have h := Any.strings_Trim_laid Tryd.lays160 (by kernel_rfl) s ⟨#[32, 9]⟩ w (by unfold maxLen at hs; omega) (by decide) (ascii_of_all (by decide))
  rw [show (⟨#[32, 9]⟩ : ByteArray).data.toList = [32, 9] from rfl, trim_shelf] at h
  exact h
theorem lib_mark (b : UInt8) (w : World) :
    Calls Tryd.prog 59 #[.string marksA, .int .u8 (b.toNat : Int)] w fun e w' => e = .returned (.int .i64 (markI b)) ∧ w' = w := by
  have h := Any.strings_IndexByte Tryd.lays137 marksA (b.toNat : Int) w
  rw [show ((b.toNat : Int)).toNat.toUInt8 = b from by simp] at h
  exact h
/-- internal/bytealg.MaxLen holds an int -/
def MaxInt (w : World) : Prop := ∃ m, w.cell? ⟨0, 0, none⟩ = some (.int .i64 m)
theorem MaxInt.of_shape {w : World} (h : w.ShapedOpen Tryd.prog) : MaxInt w :=
  cell_of_shapedOpen_int (t := 3) (zero := #[.int .i64 0]) h (of_decide_eq_true (by kernel_rfl)) (by kernel_rfl) rfl (by kernel_rfl) (by kernel_rfl) Tryd.underlying3
theorem MaxInt.below {w w' : World} (h : MaxInt w) (hb : Below w.heap.size w w') : MaxInt w' := by
  obtain ⟨m, hm⟩ := h
  exact ⟨m, (hb.cell (p := ⟨0, 0, none⟩) (World.block_lt_of_cell? _ _ hm)).trans hm⟩
theorem lib_split (s : ByteArray) (hs : s.size < 4294967281) (w : World) (hm : MaxInt w) :
    Calls Tryd.prog 50 #[.string s, .string ⟨#[44]⟩] w fun e w' => ∃ v, e = .returned v ∧ Texts w' v (pieces (toL s)) ∧ Below w.heap.size w w' := by
  obtain ⟨m, hm⟩ := hm
  refine (Any.strings_Split Tryd.lays146 (by kernel_rfl) s ⟨#[44]⟩ m w hs hm (by decide)).mono ?_
  rintro e w' ⟨rfl, rfl⟩
  have hl : (Go.Lib.splitB ⟨#[44]⟩ 0 (Go.Lib.countB s ⟨#[44]⟩) s).map (·.data.toList) = pieces (toL s) := by
    rw [Go.Lib.splitB_data, show Go.Lib.countB s ⟨#[44]⟩ = s.data.toList.count 44 from Go.Lib.count_one 44 _]
    exact split_pieces _
  have hn : (pieces (toL s)).length = Go.Lib.countB s ⟨#[44]⟩ + 1 := by
    rw [← hl, List.length_map]
    exact Go.Lib.splitB_all ⟨#[44]⟩ (by decide) 0 _ s rfl
  have hle := Go.Lib.countB_le ⟨#[44]⟩ (by decide) s.size s (Nat.le_refl _)
  generalize Go.Lib.splitB ⟨#[44]⟩ 0 (Go.Lib.countB s ⟨#[44]⟩) s = B at *
  refine ⟨_, rfl, ?_, (Below.refl _ _).alloc (Nat.le_refl _) _⟩
  rw [← hn]
  refine ⟨_, _, rfl, by omega, fun h0 => ⟨w.heap.size, 0, rfl, by simp, fun j hj => ?_⟩⟩
  rw [Nat.zero_add]
  have hB : (pieces (toL s))[j]? = (B[j]?).map (·.data.toList) := by rw [← hl, List.getElem?_map]
  rw [List.getElem?_eq_getElem hj] at hB
  cases hx : B[j]? with
  | none => rw [hx] at hB; cases hB
  | some x =>
    rw [hx] at hB
    have hq : (pieces (toL s))[j] = x.data.toList := by simpa using hB
    rw [World.cell?_alloc_at _ _ _ _ (by simp)]
    rw [hq, show ofL x.data.toList = x from toL_inj (toL_ofL _)]
    simp [hx]
end Go.Proofs.YtgkmkkgneipabaaDoor.PLib
