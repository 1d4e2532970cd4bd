/- Layer 5 of the program: Under and Cut. -/
import Derived.Test.YtlhpjinajaociaaDoorPathPure
import Derived.Test.YtlhpjinajaociaaDoorCutsSplit
import Derived.Test.YtlhpjinajaociaaDoorPathLays
import Derived.Test.YtlhpjinajaociaaDoorLawBase
import Derived.Test.YtlhpjinajaociaaDoorRet
import Derived.Test.YtlhpjinajaociaaDoorMem
import Derived.Lib.Hide
import Derived.Shelf.Vars
import Derived.Handy
import Derived.OwnWalk
import Derived.Test.YtlhpjinajaociaaDoorPDecode
namespace Go.Proofs.YtlhpjinajaociaaDoor.PUnder
open Go.ChangeShapes Go.WideShapes Go.ChangeAt Go.RowKit LexPure Bytes Ret PathPure
/-- internal/bytealg.MaxLen holds an int -/
def MaxInt (w : World) : Prop := ∃ m, w.cell? ⟨0, 0, none⟩ = some (.int .i64 m)
theorem MaxInt.of_shape {w : World} (h : w.ShapedOpen Tryd.prog) : MaxInt w :=
  cell_of_shapedOpen_int (t := 3) (zero := #[.int .i64 0]) h (of_decide_eq_true (by kernel_rfl)) (by kernel_rfl) rfl (by kernel_rfl) (by kernel_rfl) Tryd.underlying3
theorem MaxInt.below {w w' : World} (h : MaxInt w) (hb : Below w.heap.size w w') : MaxInt w' := by
  obtain ⟨m, hm⟩ := h
  exact ⟨m, (hb.cell (p := ⟨0, 0, none⟩) (World.block_lt_of_cell? _ _ hm)).trans hm⟩
def cutA (s : List UInt8) : List UInt8 := s.takeWhile (fun c => c != 63)
def cutB (s : List UInt8) : List UInt8 := (s.dropWhile (fun c => c != 63)).tail
def cutQ (s : List UInt8) : Bool := s.any (fun c => c == 63)
theorem lib_cutp (s p : ByteArray) (w : World) :
    Calls Tryd.prog 28 #[.string s, .string p] w fun e w' => e = .returned (.tuple #[.string (ofL (if (toL p).isPrefixOf (toL s) then (toL s).drop p.size else toL s)), .bool ((toL p).isPrefixOf (toL s))]) ∧ w' = w := by
  have h := Any.strings_CutPrefix Tryd.lays103 s p w
  unfold Lib.trimPrefix Lib.hasPrefix at h
  rw [show p.data.toList.length = p.size from toL_length p] at h
  exact h
theorem lib_has (s p : ByteArray) (w : World) :
    Calls Tryd.prog 20 #[.string s, .string p] w fun e w' => e = .returned (.bool ((toL p).isPrefixOf (toL s))) ∧ w' = w :=
  Any.strings_HasPrefix Tryd.lays99 s p w
theorem lib_ends (s p : ByteArray) (hs : s.size ≤ 9223372036854775807) (w : World) :
    Calls Tryd.prog 29 #[.string s, .string p] w fun e w' => e = .returned (.bool ((toL p).isSuffixOf (toL s))) ∧ w' = w :=
  Any.strings_HasSuffix Tryd.lays100 s p w hs
theorem starts_one (s : List UInt8) (c : UInt8) : ([c] : List UInt8).isPrefixOf s = (s.head? == some c) := by
  cases s with
  | nil => rfl
  | cons a t =>
    rw [Bool.eq_iff_iff]
    simp only [List.isPrefixOf, List.head?_cons, Bool.and_true, beq_iff_eq, Option.some.injEq]
    exact eq_comm
theorem ends_one (s : List UInt8) (c : UInt8) : ([c] : List UInt8).isSuffixOf s = (s.getLast? == some c) := by
  unfold List.isSuffixOf
  rw [List.reverse_singleton, starts_one, List.head?_reverse]
theorem under_say (p q : List UInt8) : under p q = (q.isPrefixOf p && ((p.drop q.length).isEmpty || ([47] : List UInt8).isSuffixOf q || ([47] : List UInt8).isPrefixOf (p.drop q.length))) := by
  rw [starts_one, ends_one]
  unfold under
  by_cases h : q <+: p
  · have h1 : q.isPrefixOf p = true := by rw [List.isPrefixOf_iff_prefix]; exact h
    have h2 : (p.take q.length == q) = true := by rw [beq_iff_eq]; exact (List.prefix_iff_eq_take.1 h).symm
    rw [h1, h2, Bool.true_and, Bool.true_and, List.head?_drop]
    have h3 : (p.drop q.length).isEmpty = (p.length == q.length) := by
      have := h.length_le
      rw [Bool.eq_iff_iff, List.isEmpty_iff, List.drop_eq_nil_iff, beq_iff_eq]
      omega
    rw [h3]
    cases (p.length == q.length) <;> cases (p[q.length]? == some 47) <;> cases (q.getLast? == some 47) <;> rfl
  · have h1 : q.isPrefixOf p = false := by rw [Bool.eq_false_iff, ne_eq, List.isPrefixOf_iff_prefix]; exact h
    have h2 : (p.take q.length == q) = false := by
      rw [beq_eq_false_iff_ne]
      intro e
      exact h (by rw [← e]; exact List.take_prefix _ _)
    rw [h1, h2]
    rfl
theorem punder_any (p q : ByteArray) (hq : q.size ≤ 9223372036854775807) (w : World) :
    Calls Tryd.prog 17 #[.string p, .string q] w fun e w' => e = .returned (.bool (under (toL p) (toL q))) ∧ w = w' := by
  have HU := Lib.hid (under_say (toL p) (toL q))
  rw [toL_length] at HU
  by_cases h : (toL q).isPrefixOf (toL p) = true
  · have HC := Lib.hid (fun w => lib_cutp p q w)
    rw [h, if_pos rfl] at HC
    rw [h, Bool.true_and] at HU
    have HS := Lib.hid (fun w => lib_ends q ⟨#[47]⟩ hq w)
    rw [show toL ⟨#[47]⟩ = [47] from rfl] at HS
    have HP := Lib.hid (fun w => lib_has (ofL ((toL p).drop q.size)) ⟨#[47]⟩ w)
    rw [show toL ⟨#[47]⟩ = [47] from rfl, toL_ofL] at HP
    have he : (ofL ((toL p).drop q.size)).toList.isEmpty = ((toL p).drop q.size).isEmpty := by
      rw [ByteArray.toList_eq, show (ofL ((toL p).drop q.size)).data.toList = (toL p).drop q.size from toL_ofL _]
    generalize ofL ((toL p).drop q.size) = R at *
    generalize ([47] : List UInt8).isSuffixOf (toL q) = x at *
    generalize ([47] : List UInt8).isPrefixOf ((toL p).drop q.size) = y at *
    generalize ((toL p).drop q.size).isEmpty = z at *
    rw [HU.out]
    clear h HU
    cases z
    · have he2 : ¬ R.toList = [] := fun e => by rw [e] at he; cases he
      cases x
      · go_enter Tryd.func17, Tryd.ntmps17
        go_wp2_with fail
        refine (HC.out _).mono ?_
        rintro e w' ⟨rfl, rfl⟩
        go_wp2_with fail
        refine (HS.out _).mono ?_
        rintro e w' ⟨rfl, rfl⟩
        go_wp2_with fail
        refine (HP.out _).mono ?_
        rintro e w' ⟨rfl, rfl⟩
        go_wp2_with fail
        go_ret
        exact ⟨rfl, rfl⟩
      · go_enter Tryd.func17, Tryd.ntmps17
        go_wp2_with fail
        refine (HC.out _).mono ?_
        rintro e w' ⟨rfl, rfl⟩
        go_wp2_with fail
        refine (HS.out _).mono ?_
        rintro e w' ⟨rfl, rfl⟩
        go_wp2_with fail
        go_ret
        exact ⟨rfl, rfl⟩
    · have he2 : R.toList = [] := List.isEmpty_iff.1 he
      go_enter Tryd.func17, Tryd.ntmps17
      go_wp2_with fail
      refine (HC.out _).mono ?_
      rintro e w' ⟨rfl, rfl⟩
      go_wp2_with fail
      go_ret
      exact ⟨rfl, rfl⟩
  · have hf : (toL q).isPrefixOf (toL p) = false := by simpa using h
    have HC := Lib.hid (fun w => lib_cutp p q w)
    rw [hf, if_neg (by simp)] at HC
    rw [hf, Bool.false_and] at HU
    rw [HU.out]
    clear h hf
    go_enter Tryd.func17, Tryd.ntmps17
    go_wp2_with fail
    refine (HC.out _).mono ?_
    rintro e w' ⟨rfl, rfl⟩
    go_wp2_with fail
    go_ret
    exact ⟨rfl, rfl⟩
theorem index_tail (c : UInt8) (l : List UInt8) (h : (c == 63) = false) : Go.Lib.index (c :: l) [63] = if Go.Lib.index l [63] == -1 then -1 else Go.Lib.index l [63] + 1 := by
  have hp : ([63] : List UInt8).isPrefixOf (c :: l) = false := by
    have : ¬ (63 : UInt8) = c := fun e => by rw [← e] at h; cases h
    simp [List.isPrefixOf, this]
  rw [Go.Lib.index, hp]
  rfl
theorem cut_say (s : List UInt8) : (Go.Lib.cut s [63]).1 = cutA s ∧ (Go.Lib.cut s [63]).2.1 = cutB s ∧ (Go.Lib.cut s [63]).2.2 = cutQ s := by
  unfold cutA cutB cutQ Go.Lib.cut
  induction s with
  | nil =>
    have : Go.Lib.index [] [63] = -1 := by decide
    rw [this]
    exact ⟨rfl, rfl, rfl⟩
  | cons c l ih =>
    by_cases hc : c = 63
    · subst hc
      have hix : Go.Lib.index (63 :: l) [63] = 0 := by rw [Go.Lib.index]; simp [List.isPrefixOf]
      rw [hix]
      simp
    · have hq : (c == 63) = false := by simpa using hc
      have hn : (c != 63) = true := by simp [hc]
      rw [index_tail c l hq, List.takeWhile_cons, hn, List.dropWhile_cons, hn, List.any_cons, hq]
      have hge := Go.Lib.index_ge l [63]
      by_cases hm : Go.Lib.index l [63] = -1
      · rw [hm] at ih ⊢
        simp at ih ⊢
        exact ⟨ih.1, ih.2⟩
      · obtain ⟨i, hi⟩ : ∃ i : Nat, Go.Lib.index l [63] = i := ⟨(Go.Lib.index l [63]).toNat, by omega⟩
        rw [hi] at ih ⊢
        have h1 : ((i : Int) == -1) = false := beq_eq_false_iff_ne.2 (by omega)
        have h3 : ((i : Int) + 1).toNat = i + 1 := by omega
        have h4 : (0 : Int) ≤ (i : Int) + 1 := by omega
        have h5 : (0 : Int) ≤ (i : Int) := by omega
        simp only [h1, h3, h4, h5, if_true, Bool.false_eq_true, if_false, Bool.false_or] at ih ⊢
        rw [show i + 1 + ([63] : List UInt8).length = (i + [63].length) + 1 from rfl, List.take_succ_cons, List.drop_succ_cons]
        exact ⟨by rw [← ih.1]; simp, ih.2.1, ih.2.2⟩
theorem pcut_any (s : ByteArray) (hs : s.size < 4294967281) (w : World) (hm : MaxInt w) :
    Calls Tryd.prog 19 #[.string s] w fun e w' => e = .returned (.tuple #[.string (ofL (cutA (toL s))), .string (ofL (cutB (toL s))), .bool (cutQ (toL s))]) ∧ Below w.heap.size w w' := by
  obtain ⟨m, hm⟩ := hm
  have h := Any.strings_Cut Tryd.lays145 s ⟨#[63]⟩ m w hs hm
  rw [show (⟨#[63]⟩ : ByteArray).data.toList = [63] from rfl] at h
  obtain ⟨h1, h2, h3⟩ := cut_say (toL s)
  rw [show Lib.cut s.data.toList [63] = Lib.cut (toL s) [63] from rfl, h1, h2, h3] at h
  have H := Lib.hid h
  clear h h1 h2 h3 hm hs
  go_enter Tryd.func19, Tryd.ntmps19
  go_wp2_with fail
  refine H.out.mono ?_
  rintro e w' ⟨rfl, n, rfl⟩
  go_wp2_with fail
  go_ret3
  exact ⟨rfl, ⟨rfl, rfl, rfl, Nat.le_refl _, fun _ _ => rfl⟩⟩
end Go.Proofs.YtlhpjinajaociaaDoor.PUnder
