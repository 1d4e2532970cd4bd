/- The shelf's words for strings.Trim, strings.Split and strings.IndexByte, and the grammar's: they say one thing. No program is named. -/
import Derived.Test.YtlgohmghjffiaaaDoorLexPure
import Derived.Test.YtlgohmghjffiaaaDoorLexList
import Derived.Lib.SlTrimSet
import Derived.Lib.SplitLaws
import Derived.Lib.Bytealg
namespace Go.Proofs.YtlgohmghjffiaaaDoor.LexSplit
open LexPure Bytes LexList
/-! ### Trim -/
def rdrop (s : List UInt8) : List UInt8 := (s.reverse.dropWhile blankB).reverse
theorem rdrop_cons (c : UInt8) (r : List UInt8) : rdrop (c :: r) = if (rdrop r).isEmpty then (if blankB c then [] else [c]) else c :: rdrop r := by
  unfold rdrop
  rw [List.reverse_cons, List.dropWhile_append]
  cases h : (r.reverse.dropWhile blankB).isEmpty with
  | true =>
    have h2 : r.reverse.dropWhile blankB = [] := List.isEmpty_iff.1 h
    rw [h2]
    cases hb : blankB c <;> simp [hb]
  | false =>
    have h2 : ((r.reverse.dropWhile blankB).reverse).isEmpty = false := by
      cases hx : r.reverse.dropWhile blankB with
      | nil => rw [hx] at h; cases h
      | cons a t => simp
    rw [h2]
    simp
theorem drop_rdrop : ∀ s : List UInt8, (rdrop s).dropWhile blankB = rdrop (s.dropWhile blankB)
  | [] => rfl
  | c :: r => by
    cases hb : blankB c with
    | true =>
      rw [List.dropWhile_cons, if_pos hb, rdrop_cons, ← drop_rdrop r]
      cases h : (rdrop r).isEmpty with
      | true => rw [List.isEmpty_iff.1 h]; simp [hb]
      | false => simp [hb]
    | false =>
      rw [List.dropWhile_cons, hb]
      simp only [Bool.false_eq_true, if_false]
      rw [rdrop_cons]
      cases h : (rdrop r).isEmpty <;> simp [hb]
theorem blank_set (b : UInt8) : ([32, 9] : List UInt8).contains b = blankB b := by
  have := all_bytes (p := fun b => ([32, 9] : List UInt8).contains b == blankB b) (by decide +kernel) b
  simpa using this
theorem trim_shelf (s : List UInt8) : Go.Lib.trimS s [32, 9] = trim s := by
  have e : (fun b => ([32, 9] : List UInt8).contains b) = blankB := funext blank_set
  unfold Go.Lib.trimS Go.Lib.trimLeftS Go.Lib.trimRightS
  rw [e]
  exact drop_rdrop s
/-! ### Split -/
theorem index_cons (c : UInt8) (l : List UInt8) (h : (c == 44) = false) : Go.Lib.index (c :: l) [44] = if Go.Lib.index l [44] == -1 then -1 else Go.Lib.index l [44] + 1 := by
  have hp : ([44] : List UInt8).isPrefixOf (c :: l) = false := by
    have : ¬ (44 : UInt8) = c := fun e => by rw [← e] at h; cases h
    simp [List.isPrefixOf, this]
  rw [Go.Lib.index, hp]
  rfl
theorem split_pieces : ∀ s : List UInt8, Go.Lib.splitK [44] 0 (s.count 44) s = pieces s
  | [] => rfl
  | c :: l => by
    by_cases hc : c = 44
    · subst hc
      have hix : Go.Lib.index (44 :: l) [44] = 0 := by rw [Go.Lib.index]; simp [List.isPrefixOf]
      rw [List.count_cons_self, Go.Lib.splitK, hix, if_neg (by decide), pieces, if_pos (by decide), ← split_pieces l]
      rfl
    · have hq : (c == 44) = false := by simpa using hc
      have ih := split_pieces l
      rw [List.count_cons_of_ne (by simpa using hc), pieces, if_neg (by simp [hq]), ← ih]
      cases hk : l.count 44 with
      | zero => rfl
      | succ k =>
        unfold Go.Lib.splitK
        rw [index_cons c l hq]
        by_cases hm : Go.Lib.index l [44] = -1
        · rw [hm]; rfl
        · have hge := Go.Lib.index_ge l [44]
          obtain ⟨i, hi⟩ : ∃ i : Nat, Go.Lib.index l [44] = i := ⟨(Go.Lib.index l [44]).toNat, by omega⟩
          rw [hi]
          have h1 : ((i : Int) == -1) = false := beq_eq_false_iff_ne.2 (by omega)
          have h2 : (((i : Int) + 1) == -1) = false := beq_eq_false_iff_ne.2 (by omega)
          have h3 : ((i : Int) + 1).toNat = i + 1 := by omega
          have h4 : ((i : Int)).toNat = i := by omega
          simp [h1, h2, h3, h4]
/-- the marks of a token -/
def marksA : ByteArray := ⟨#[33, 35, 36, 37, 38, 39, 42, 43, 45, 46, 94, 95, 124, 126, 96]⟩
def markI (b : UInt8) : Int := Go.Lib.indexByte marksA.data.toList b
theorem mark_cases (b : UInt8) : markB b = (decide (48 ≤ (b.toNat : Int) ∧ (b.toNat : Int) ≤ 57) || decide (65 ≤ (b.toNat : Int) ∧ (b.toNat : Int) ≤ 90) || decide (97 ≤ (b.toNat : Int) ∧ (b.toNat : Int) ≤ 122) || decide (0 ≤ markI b)) := by
  have := all_bytes (p := fun b => markB b == (decide (48 ≤ (b.toNat : Int) ∧ (b.toNat : Int) ≤ 57) || decide (65 ≤ (b.toNat : Int) ∧ (b.toNat : Int) ≤ 90) || decide (97 ≤ (b.toNat : Int) ∧ (b.toNat : Int) ≤ 122) || decide (0 ≤ markI b))) (by decide +kernel) b
  simpa using this
end Go.Proofs.YtlgohmghjffiaaaDoor.LexSplit
