/- Texts of this seat, one behind another: RowKeep, Step, DiceMath, DiceWalks, DiceHigh, DiceObj, BucketObj, BucketOps, FiltBox, RLower, RAlike7, R7Get, PWithout, PLsmall, PAlike, PValsW, PRemoveW, PSetW, PFwd0. -/
import Derived.OwnWalk
import Derived.Maps.AppendAt
import Derived.Laws.AppendOwn
import Derived.Maps.OwnSet
import Derived.Laws.Bits64
import Derived.Laws.Bits64b
import Derived.IntWalk
import Derived.Test.YtfdpoibmlggfbaaRows
import Derived.WalkKit
import Derived.ProofKit
import Derived.OpenShut
import Derived.Below
import Derived.Lib.Hide
import Derived.Outline
import Derived.LoopTactic
import Derived.Laws.BitsAllLaws
import Derived.Deep.QuietTactic
import Derived.BigQuiet
import Derived.Laws.Tables
import Derived.Laws.ResultCell
import Derived.Handy
import Derived.RangeFuncNested
import Derived.RangeFuncBound
import Derived.RangeFuncCalls
import Derived.RangeFuncLeaves
import Derived.Shelf.Abstract
import Derived.Shelf.RegionOpen
import Derived.OwnWalkIn
import Derived.TacticsInMore
import Derived.LoopNIn
import Derived.LoopIn
import Derived.Deep.RegionHeld3
import Derived.Test.YtfdpoibmlggfbaaA1
/- An own row, later on. No program is named. -/
namespace Go.Proofs.Ytfdpoibmlggfbaa.RowKeep
open Go.RowKit Mem
theorem row_below {w w' : World} {base n size : Nat} {e : TypeId} {v : Value} {xs : List Value} (h : w.ownsRow base e size v n xs) (hb : Below w.heap.size w w') : w'.ownsRow base e size v n xs := by
  refine ⟨h.1, ?_⟩
  rcases h.2 with h0 | ⟨g, cap, cur, hv, h1, hg, rest⟩
  · exact .inl h0
  · exact .inr ⟨g, cap, cur, hv, h1, (hb.block g (Array.getElem?_eq_some_iff.1 hg).1).trans hg, rest⟩
theorem row_mono {w : World} {base base' n size : Nat} {e : TypeId} {v : Value} {xs : List Value} (h : w.ownsRow base e size v n xs) (hb : base' ≤ base) : w.ownsRow base' e size v n xs := by
  refine ⟨h.1, ?_⟩
  rcases h.2 with h0 | ⟨g, cap, cur, h1, h2, h3⟩
  · exact .inl h0
  · exact .inr ⟨g, cap, cur, h1, Nat.le_trans hb h2, h3⟩
theorem row_form {w : World} {base n size : Nat} {e : TypeId} {v : Value} {xs : List Value} (h : w.ownsRow base e size v n xs) : ∃ p cap, v = .slice p n cap ∧ n ≤ cap := by
  rcases h.2 with ⟨hv, hn⟩ | ⟨g, cap, cur, hv, _, _, hc, _⟩
  · exact ⟨none, 0, by rw [hv, hn], by omega⟩
  · exact ⟨_, cap, hv, hc⟩
/-- its cells -/
theorem row_at {w : World} {base n size : Nat} {e : TypeId} {v : Value} {xs : List Value} (h : w.ownsRow base e size v n xs) (hn : 0 < n) : ∃ g cap, v = .slice (some ⟨g, 0, none⟩) n cap ∧ base ≤ g ∧ g < w.heap.size ∧ n ≤ cap ∧ ∀ j, j < n * size → w.cell? ⟨g, j, none⟩ = xs[j]? := by
  have h0 := h
  rcases h.2 with ⟨_, h1⟩ | ⟨g, cap, cur, hv, hb, hg, hc, _⟩
  · omega
  · subst hv
    exact ⟨g, cap, rfl, hb, (Array.getElem?_eq_some_iff.1 hg).1, hc, fun j hj => h0.cellAt j hj⟩
end Go.Proofs.Ytfdpoibmlggfbaa.RowKeep

/- Words for memory, of my own: an object that holds several blocks (F: which), and a world in which only these, and what is new, have turned. No program is named. -/
namespace Go.Proofs.Ytfdpoibmlggfbaa.Step
open Go.RowKit Mem

/-- w' is w but for the blocks of F and new ones; F' is F and perhaps some of the new ones -/
structure Step (w w' : World) (F F' : Nat → Prop) : Prop where
  os : w'.os = w.os
  tape : w'.tape = w.tape
  output : w'.output = w.output
  size : w.heap.size ≤ w'.heap.size
  block : ∀ k, k < w.heap.size → ¬ F k → w'.heap[k]? = w.heap[k]?
  grow : ∀ k, F' k → F k ∨ (w.heap.size ≤ k ∧ k < w'.heap.size)

section
variable {w w1 w2 w' : World} {F F1 F2 F' : Nat → Prop}
theorem Step.refl (w : World) (F : Nat → Prop) : Step w w F F := ⟨rfl, rfl, rfl, Nat.le_refl _, fun _ _ _ => rfl, fun _ h => .inl h⟩
theorem Step.trans (h : Step w w1 F F1) (k : Step w1 w2 F1 F2) : Step w w2 F F2 :=
  ⟨k.os.trans h.os, k.tape.trans h.tape, k.output.trans h.output, Nat.le_trans h.size k.size,
    fun i hi hn => (k.block i (Nat.lt_of_lt_of_le hi h.size) (fun hf => (h.grow i hf).elim hn (fun ⟨a, _⟩ => by omega))).trans (h.block i hi hn),
    fun i hi => (k.grow i hi).elim (fun hf => (h.grow i hf).elim .inl (fun ⟨a, b⟩ => .inr ⟨a, Nat.lt_of_lt_of_le b k.size⟩)) (fun ⟨a, b⟩ => .inr ⟨Nat.le_trans h.size a, b⟩)⟩
/-- a wider F -/
theorem Step.widen (h : Step w w' F F') {G : Nat → Prop} (hG : ∀ k, F k → G k) : Step w w' G (fun k => F' k ∨ G k) :=
  ⟨h.os, h.tape, h.output, h.size, fun k hk hn => h.block k hk (fun hf => hn (hG k hf)), fun k hk => hk.elim (fun hf => (h.grow k hf).imp (hG k) id) .inl⟩
theorem Step.less (h : Step w w' F F') {G : Nat → Prop} (hG : ∀ k, G k → F' k) : Step w w' F G := { h with grow := fun k hk => h.grow k (hG k hk) }
theorem Step.regrow (h : Step w w' F F') {G : Nat → Prop} (hG : ∀ k, G k → F k ∨ (w.heap.size ≤ k ∧ k < w'.heap.size)) : Step w w' F G := { h with grow := hG }
theorem Step.more (h : Step w w' F F') {G : Nat → Prop} (hG : ∀ k, F k → G k) (hG' : ∀ k, F' k → G k ∨ (w.heap.size ≤ k ∧ k < w'.heap.size)) : Step w w' G F' :=
  ⟨h.os, h.tape, h.output, h.size, fun k hk hn => h.block k hk (fun hf => hn (hG k hf)), hG'⟩
theorem Step.up (h : Step w w' F F') {G : Nat → Prop} (hG : ∀ k, F k → G k) : Step w w' G G :=
  ⟨h.os, h.tape, h.output, h.size, fun k hk hn => h.block k hk (fun hf => hn (hG k hf)), fun _ hk => .inl hk⟩
theorem Step.up2 (h : Step w w' F F') {G : Nat → Prop} (hG : ∀ k, F k → G k) : Step w w' G F' :=
  ⟨h.os, h.tape, h.output, h.size, fun k hk hn => h.block k hk (fun hf => hn (hG k hf)), fun k hk => (h.grow k hk).imp (hG k) id⟩
theorem Step.beyond (h : Step w w1 F F') {G G' : Nat → Prop} (k : Step w1 w2 G G') (hG : ∀ j, G j → w.heap.size ≤ j) : Step w w2 F F' :=
  ⟨k.os.trans h.os, k.tape.trans h.tape, k.output.trans h.output, Nat.le_trans h.size k.size,
    fun i hi hn => (k.block i (Nat.lt_of_lt_of_le hi h.size) (fun hg => by have := hG i hg; omega)).trans (h.block i hi hn),
    fun i hi => (h.grow i hi).imp id (fun ⟨a, b⟩ => ⟨a, Nat.lt_of_lt_of_le b k.size⟩)⟩
theorem Step.of_grown {row : Option Nat} (h : w.grownBy w' row) (hF : ∀ k, row = some k → F k) : Step w w' F F :=
  ⟨h.os, h.tape, h.output, h.size, fun k hk hn => h.block k hk (fun e => hn (hF k e.symm)), fun _ h => .inl h⟩
theorem Step.alloc (w : World) (o : Obj) (F : Nat → Prop) : Step w (w.alloc o) F F := Step.of_grown (World.grownBy_alloc w o none) (fun _ e => by cases e)
theorem Step.drew (w : World) (F : Nat → Prop) : Step w w.drew F F := ⟨rfl, rfl, rfl, Nat.le_refl _, fun _ _ _ => rfl, fun _ h => .inl h⟩
theorem Step.drewN (w : World) (n : Nat) (F : Nat → Prop) : Step w (w.drewN n) F F := ⟨rfl, rfl, rfl, Nat.le_refl _, fun _ _ _ => rfl, fun _ h => .inl h⟩
theorem Step.set_ (w : World) {g : Nat} (hg : F g) (i : Nat) (u : Value) : Step w (w.setCell ⟨g, i, none⟩ u) F F :=
  ⟨rfl, rfl, rfl, by simp [World.setCell], fun k _ hn => Below.heap_setCell w _ u k (fun e => hn (by rw [e]; exact hg)), fun _ h => .inl h⟩
theorem Step.of_below (h : Below w.heap.size w w') (F : Nat → Prop) : Step w w' F F := ⟨h.os, h.tape, h.output, h.size, fun k hk _ => h.block k hk, fun _ h => .inl h⟩
theorem Step.cell (h : Step w w' F F') {b i : Nat} (hb : b < w.heap.size) (hn : ¬ F b) : w'.cell? ⟨b, i, none⟩ = w.cell? ⟨b, i, none⟩ :=
  World.cell?_of_block (w := w) (h.block b hb hn)
theorem Step.has {g : Nat} {t : TypeId} {cs : Array Value} (h : Step w w' F F') (hh : Has w g t cs) (hn : ¬ F g) : Has w' g t cs := ⟨(h.block g hh.lt hn).trans hh.at_⟩
theorem Step.row {base n size : Nat} {e : TypeId} {v : Value} {xs : List Value} (h : Step w w' F F') (hr : w.ownsRow base e size v n xs) (hn : ∀ b, v.ownBlock = some b → ¬ F b) : w'.ownsRow base e size v n xs := by
  refine ⟨hr.1, ?_⟩
  rcases hr.2 with hx | ⟨g, cap, cur, rfl, hb, hgg, rest⟩
  · exact .inl hx
  · refine .inr ⟨g, cap, cur, rfl, hb, ?_, rest⟩
    rw [h.block g (Array.getElem?_eq_some_iff.1 hgg).1 (hn g rfl)]
    exact hgg
theorem Step.map {H : Type} {P : Program} {k : TypeId} {R : Value → Option (DataW H × List MemPlace)} {b n : Nat} {D : DataW H} (h : Step w w' F F') (hm : w.ownsMap P k R b n D) (hn : ¬ F b) : w'.ownsMap P k R b n D := by
  have hlt := hm.lt
  obtain ⟨es, clock, hb, rest⟩ := hm
  exact ⟨es, clock, (h.block b hlt hn).trans hb, rest⟩
theorem Step.below (h : Step w w' F F') {B : Nat} (hB : B ≤ w.heap.size) (hF : ∀ k, F k → B ≤ k) : Below B w w' :=
  ⟨h.os, h.tape, h.output, Nat.le_trans hB h.size |> fun _ => h.size, fun k hk => h.block k (by omega) (fun hf => by have := hF k hf; omega)⟩
end

/-- F, and one block more -/
def plus (F : Nat → Prop) (m : Nat) : Nat → Prop := fun k => F k ∨ k = m
theorem Step.with_ {w w' : World} {F F' : Nat → Prop} (h : Step w w' F F') (m : Nat) : Step w w' (plus F m) (plus F' m) :=
  ⟨h.os, h.tape, h.output, h.size, fun k hk hn => h.block k hk (fun hf => hn (.inl hf)), fun k hk => hk.elim (fun hf => (h.grow k hf).imp .inl id) (fun e => .inl (.inr e))⟩
theorem Step.with2 {w w' : World} {F F' : Nat → Prop} {m : Nat} (h : Step w w' (plus F m) F') : Step w w' (plus F m) (plus F' m) :=
  h.regrow (fun k hk => hk.elim (h.grow k) (fun e => .inl (.inr e)))
theorem Step.only {w w' : World} {G : Nat → Prop} (h : Step w w' G G) (F : Nat → Prop) {m : Nat} (hG : ∀ k, G k → k = m) : Step w w' (plus F m) (plus F m) := h.up (fun k hk => .inr (hG k hk))
theorem Step.none {w w' : World} {G : Nat → Prop} (h : Step w w' G G) (F : Nat → Prop) (hG : ∀ k, ¬ G k) : Step w w' F F := h.up (fun k hk => (hG k hk).elim)
theorem new_cell {W : World} {cs : Array Value} {t : TypeId} {n : Nat} (h : W.heap.size = n) (i : Nat) : (W.alloc (.cells cs t)).cell? ⟨n, i, none⟩ = cs[i]? := by
  subst h
  exact (Has.new W t cs).cell i
theorem row_lt {w : World} {base n size : Nat} {e : TypeId} {v : Value} {xs : List Value} (hr : w.ownsRow base e size v n xs) {b : Nat} (h : v.ownBlock = some b) : b < w.heap.size := (hr.lt b h).2
end Go.Proofs.Ytfdpoibmlggfbaa.Step

/- Plain numbers behind layer 1: the stirring of a number, that it can be undone, the hash, the high half of a product. No program is named. -/
namespace Go.Proofs.Ytfdpoibmlggfbaa.DiceMath

/-- the stirring, on natural numbers below 2^64 -/
def mixN (x : Nat) : Nat :=
  let y := (x ^^^ x / 1073741824) * 13787848793156543929 % 18446744073709551616
  let z := (y ^^^ y / 134217728) * 10723151780598845931 % 18446744073709551616
  z ^^^ z / 2147483648
/-- the same, from an integer -/
def mixI (a : Int) : Int := (mixN a.toNat : Nat)

theorem xor_div_lt (x k : Nat) (h : x < 18446744073709551616) : x ^^^ x / k < 18446744073709551616 := by
  have := Nat.xor_lt_two_pow (x := x) (y := x / k) (n := 64) h (Nat.lt_of_le_of_lt (Nat.div_le_self _ _) h)
  exact this
theorem mixN_lt (x : Nat) : mixN x < 18446744073709551616 := xor_div_lt _ _ (Nat.mod_lt _ (by decide))
theorem mixI_bd (a : Int) : 0 ≤ mixI a ∧ mixI a ≤ 18446744073709551615 := by
  have := mixN_lt a.toNat
  unfold mixI
  omega

/-- what the program reckons is the stirring -/
theorem walk_mix (a : Int) (h0 : 0 ≤ a) (h1 : a ≤ 18446744073709551615) :
    bits .xor .u64 (IntKind.u64.wrap (bits .xor .u64 (IntKind.u64.wrap (bits .xor .u64 a (a / 1073741824) * 13787848793156543929)) (IntKind.u64.wrap (bits .xor .u64 a (a / 1073741824) * 13787848793156543929) / 134217728) * 10723151780598845931))
      (IntKind.u64.wrap (bits .xor .u64 (IntKind.u64.wrap (bits .xor .u64 a (a / 1073741824) * 13787848793156543929)) (IntKind.u64.wrap (bits .xor .u64 a (a / 1073741824) * 13787848793156543929) / 134217728) * 10723151780598845931) / 2147483648) = mixI a := by
  obtain ⟨n, rfl⟩ := Int.eq_ofNat_of_zero_le h0
  have hn : n < 18446744073709551616 := by omega
  have e1 : IntKind.u64.wrap (bits .xor .u64 (n : Int) ((n : Int) / 1073741824) * 13787848793156543929) = (((n ^^^ n / 1073741824) * 13787848793156543929 % 18446744073709551616 : Nat) : Int) := mixStep_u64 n 1073741824 13787848793156543929 hn
  rw [e1]
  generalize hy : (n ^^^ n / 1073741824) * 13787848793156543929 % 18446744073709551616 = y
  have hyl : y < 18446744073709551616 := by rw [← hy]; exact Nat.mod_lt _ (by decide)
  have e2 : IntKind.u64.wrap (bits .xor .u64 (y : Int) ((y : Int) / 134217728) * 10723151780598845931) = (((y ^^^ y / 134217728) * 10723151780598845931 % 18446744073709551616 : Nat) : Int) := mixStep_u64 y 134217728 10723151780598845931 hyl
  rw [e2]
  generalize hz : (y ^^^ y / 134217728) * 10723151780598845931 % 18446744073709551616 = z
  have hzl : z < 18446744073709551616 := by rw [← hz]; exact Nat.mod_lt _ (by decide)
  have e3 : bits .xor .u64 (z : Int) ((z : Int) / 2147483648) = ((z ^^^ z / 2147483648 : Nat) : Int) := xorShift_u64 z 2147483648 hzl
  rw [e3]
  simp only [mixI, mixN, Int.toNat_natCast, hy, hz]

/-! ### It can be undone -/
theorem div_pow (x k : Nat) : x / 2 ^ k = x >>> k := (Nat.shiftRight_eq_div_pow x k).symm
/-- one shift and exclusive or, undone -/
theorem undo (x k : Nat) (hx : x < 2 ^ 64) (hk : 64 ≤ 3 * k) :
    (x ^^^ x >>> k) ^^^ ((x ^^^ x >>> k) >>> k ^^^ (x ^^^ x >>> k) >>> (k + k)) = x := by
  apply Nat.eq_of_testBit_eq
  intro i
  simp only [Nat.testBit_xor, Nat.testBit_shiftRight]
  have h3 : x.testBit (k + (k + k + i)) = false := Nat.testBit_lt_two_pow (Nat.lt_of_lt_of_le hx (Nat.pow_le_pow_right (by decide) (by omega)))
  have e1 : k + k + (k + i) = k + (k + k + i) := by omega
  have e2 : k + (k + i) = k + k + i := by omega
  simp only [e2, h3]
  cases x.testBit i <;> cases x.testBit (k + i) <;> cases x.testBit (k + k + i) <;> rfl
theorem undo_mul (x c d : Nat) (hx : x < 18446744073709551616) (h : c * d % 18446744073709551616 = 1) : x * c % 18446744073709551616 * d % 18446744073709551616 = x := by
  rw [Nat.mod_mul_mod, Nat.mul_assoc, ← Nat.mul_mod_mod, h, Nat.mul_one]
  exact Nat.mod_eq_of_lt hx
def back1 (y : Nat) : Nat := y ^^^ (y / 2147483648 ^^^ y / 4611686018427387904)
def back2 (y : Nat) : Nat := y * 3573116690164977347 % 18446744073709551616
def back3 (y : Nat) : Nat := y ^^^ (y / 134217728 ^^^ y / 18014398509481984)
def back4 (y : Nat) : Nat := y * 10871156337175269513 % 18446744073709551616
def back5 (y : Nat) : Nat := y ^^^ (y / 1073741824 ^^^ y / 1152921504606846976)
theorem undo31 (x : Nat) (hx : x < 18446744073709551616) : back1 (x ^^^ x / 2147483648) = x := by
  have := undo x 31 hx (by decide)
  simp only [← div_pow] at this
  exact this
theorem undo27 (x : Nat) (hx : x < 18446744073709551616) : back3 (x ^^^ x / 134217728) = x := by
  have := undo x 27 hx (by decide)
  simp only [← div_pow] at this
  exact this
theorem undo30 (x : Nat) (hx : x < 18446744073709551616) : back5 (x ^^^ x / 1073741824) = x := by
  have := undo x 30 hx (by decide)
  simp only [← div_pow] at this
  exact this
theorem unmix (x : Nat) (hx : x < 18446744073709551616) : back5 (back4 (back3 (back2 (back1 (mixN x))))) = x := by
  unfold mixN
  simp only []
  rw [undo31 _ (Nat.mod_lt _ (by decide))]
  unfold back2
  rw [undo_mul _ _ _ (xor_div_lt _ _ (Nat.mod_lt _ (by decide))) (by decide)]
  rw [undo27 _ (Nat.mod_lt _ (by decide))]
  unfold back4
  rw [undo_mul _ _ _ (xor_div_lt _ _ hx) (by decide)]
  exact undo30 x hx
theorem xor2 (y k l : Nat) (hy : y < 18446744073709551616) :
    bits .xor .u64 (y : Int) (bits .xor .u64 ((y : Int) / (k : Int)) ((y : Int) / (l : Int))) = ((y ^^^ (y / k ^^^ y / l) : Nat) : Int) := by
  have hk : y / k < 18446744073709551616 := Nat.lt_of_le_of_lt (Nat.div_le_self _ _) hy
  have hl : y / l < 18446744073709551616 := Nat.lt_of_le_of_lt (Nat.div_le_self _ _) hy
  rw [← Int.natCast_ediv, ← Int.natCast_ediv, bits_xor_u64_nat _ _ hk hl]
  exact bits_xor_u64_nat _ _ hy (Nat.xor_lt_two_pow (n := 64) hk hl)
theorem xor2_lt (y k l : Nat) (hy : y < 18446744073709551616) : y ^^^ (y / k ^^^ y / l) < 18446744073709551616 :=
  Nat.xor_lt_two_pow (n := 64) hy (Nat.xor_lt_two_pow (n := 64) (Nat.lt_of_le_of_lt (Nat.div_le_self _ _) hy) (Nat.lt_of_le_of_lt (Nat.div_le_self _ _) hy))
theorem wrap_mul (y c : Nat) : IntKind.u64.wrap ((y : Int) * (c : Int)) = ((y * c % 18446744073709551616 : Nat) : Int) := by
  rw [IntKind.wrap_u64, ← Int.natCast_mul]; rfl
/-- what the law reckons of a number: taken back step by step -/
def backI (y : Int) : Int :=
  bits .xor .u64 (IntKind.u64.wrap (bits .xor .u64 (IntKind.u64.wrap (bits .xor .u64 y (bits .xor .u64 (y / 2147483648) (y / 4611686018427387904)) * 3573116690164977347))
      (bits .xor .u64 (IntKind.u64.wrap (bits .xor .u64 y (bits .xor .u64 (y / 2147483648) (y / 4611686018427387904)) * 3573116690164977347) / 134217728)
        (IntKind.u64.wrap (bits .xor .u64 y (bits .xor .u64 (y / 2147483648) (y / 4611686018427387904)) * 3573116690164977347) / 18014398509481984)) * 10871156337175269513))
    (bits .xor .u64 (IntKind.u64.wrap (bits .xor .u64 (IntKind.u64.wrap (bits .xor .u64 y (bits .xor .u64 (y / 2147483648) (y / 4611686018427387904)) * 3573116690164977347))
      (bits .xor .u64 (IntKind.u64.wrap (bits .xor .u64 y (bits .xor .u64 (y / 2147483648) (y / 4611686018427387904)) * 3573116690164977347) / 134217728)
        (IntKind.u64.wrap (bits .xor .u64 y (bits .xor .u64 (y / 2147483648) (y / 4611686018427387904)) * 3573116690164977347) / 18014398509481984)) * 10871156337175269513) / 1073741824)
      (IntKind.u64.wrap (bits .xor .u64 (IntKind.u64.wrap (bits .xor .u64 y (bits .xor .u64 (y / 2147483648) (y / 4611686018427387904)) * 3573116690164977347))
      (bits .xor .u64 (IntKind.u64.wrap (bits .xor .u64 y (bits .xor .u64 (y / 2147483648) (y / 4611686018427387904)) * 3573116690164977347) / 134217728)
        (IntKind.u64.wrap (bits .xor .u64 y (bits .xor .u64 (y / 2147483648) (y / 4611686018427387904)) * 3573116690164977347) / 18014398509481984)) * 10871156337175269513) / 1152921504606846976))
theorem backI_mix (a : Int) (h0 : 0 ≤ a) (h1 : a ≤ 18446744073709551615) : backI (mixI a) = a := by
  obtain ⟨n, rfl⟩ := Int.eq_ofNat_of_zero_le h0
  have hn : n < 18446744073709551616 := by omega
  have hu := unmix n hn
  have hm := mixN_lt n
  unfold mixI
  rw [Int.toNat_natCast]
  generalize mixN n = m at *
  unfold backI
  have e1 : bits .xor .u64 (m : Int) (bits .xor .u64 ((m : Int) / 2147483648) ((m : Int) / 4611686018427387904)) = ((back1 m : Nat) : Int) := xor2 m 2147483648 4611686018427387904 hm
  rw [e1]
  have l1 : back1 m < 18446744073709551616 := xor2_lt _ _ _ hm
  generalize back1 m = m1 at *
  have e2 : IntKind.u64.wrap ((m1 : Int) * 3573116690164977347) = ((back2 m1 : Nat) : Int) := wrap_mul m1 3573116690164977347
  rw [e2]
  have l2 : back2 m1 < 18446744073709551616 := Nat.mod_lt _ (by decide)
  generalize back2 m1 = m2 at *
  have e3 : bits .xor .u64 (m2 : Int) (bits .xor .u64 ((m2 : Int) / 134217728) ((m2 : Int) / 18014398509481984)) = ((back3 m2 : Nat) : Int) := xor2 m2 134217728 18014398509481984 l2
  rw [e3]
  have l3 : back3 m2 < 18446744073709551616 := xor2_lt _ _ _ l2
  generalize back3 m2 = m3 at *
  have e4 : IntKind.u64.wrap ((m3 : Int) * 10871156337175269513) = ((back4 m3 : Nat) : Int) := wrap_mul m3 10871156337175269513
  rw [e4]
  have l4 : back4 m3 < 18446744073709551616 := Nat.mod_lt _ (by decide)
  generalize back4 m3 = m4 at *
  have e5 : bits .xor .u64 (m4 : Int) (bits .xor .u64 ((m4 : Int) / 1073741824) ((m4 : Int) / 1152921504606846976)) = ((back5 m4 : Nat) : Int) := xor2 m4 1073741824 1152921504606846976 l4
  rw [e5, hu]
theorem backI_beq (a : Int) (h0 : 0 ≤ a) (h1 : a ≤ 18446744073709551615) : (backI (mixI a) == a) = true := by
  rw [backI_mix a h0 h1]; exact beq_self_eq_true a

/-! ### A text's hash -/
def hstep (h : Nat) (b : UInt8) : Nat := (h ^^^ b.toNat) * 1099511628211 % 18446744073709551616
theorem hstep_lt (h : Nat) (b : UInt8) : hstep h b < 18446744073709551616 := Nat.mod_lt _ (by decide)
def hashN (l : List UInt8) : Nat := l.foldl hstep 14695981039346656037
def hashI (l : List UInt8) : Int := (hashN l : Nat)
theorem foldl_lt : ∀ (l : List UInt8) (h : Nat), h < 18446744073709551616 → l.foldl hstep h < 18446744073709551616
  | [], _, hh => hh
  | b :: l, h, _ => by rw [List.foldl_cons]; exact foldl_lt l _ (hstep_lt h b)
theorem hashN_lt (l : List UInt8) : hashN l < 18446744073709551616 := foldl_lt l _ (by decide)
theorem hashI_bd (l : List UInt8) : 0 ≤ hashI l ∧ hashI l ≤ 18446744073709551615 := by
  have := hashN_lt l
  unfold hashI
  omega
theorem hashN_snoc (l : List UInt8) (b : UInt8) : hashN (l ++ [b]) = hstep (hashN l) b := by
  unfold hashN
  rw [List.foldl_append, List.foldl_cons, List.foldl_nil]
theorem hash_step (l : List UInt8) (b : UInt8) :
    IntKind.u64.wrap (bits .xor .u64 (hashI l) (b.toNat : Int) * 1099511628211) = hashI (l ++ [b]) := by
  have hb : b.toNat < 18446744073709551616 := Nat.lt_trans b.toNat_lt (by decide)
  unfold hashI
  rw [bits_xor_u64_nat _ _ (hashN_lt l) hb, hashN_snoc]
  unfold hstep
  generalize hashN l ^^^ b.toNat = m
  have h : IntKind.u64.wrap ((m : Int) * 1099511628211) = ((m * 1099511628211 % 18446744073709551616 : Nat) : Int) := wrap_mul m 1099511628211
  rw [h]
theorem take_snoc (s : ByteArray) (k : Nat) (h : k < s.size) : s.data.toList.take (k + 1) = s.data.toList.take k ++ [s[k]] := by
  rw [List.take_succ_eq_append_getElem (by simpa using h)]; rfl
theorem wrap_byte (b : UInt8) : IntKind.u64.wrap (b.toNat : Int) = (b.toNat : Int) :=
  IntWalk.u64_in _ ⟨by omega, by have := b.toNat_lt; omega⟩
theorem hash_at (s : ByteArray) (k : Nat) (h : k < s.size) :
    IntKind.u64.wrap (bits .xor .u64 (hashI (s.data.toList.take k)) (IntKind.u64.wrap (s[k].toNat : Int)) * 1099511628211) = hashI (s.data.toList.take (k + 1)) := by
  rw [wrap_byte, hash_step, take_snoc s k h]
end Go.Proofs.Ytfdpoibmlggfbaa.DiceMath

/- Layer 1's functions, one contract each: Mix (the program's and the document's) stirs; the anchor holds. -/
namespace Go.Proofs.Ytfdpoibmlggfbaa.DiceWalks
open Go.ChangeShapes Go.WideShapes Go.ChangeAt Go.RowKit DiceMath

theorem mix_any (a : Int) (h0 : 0 ≤ a) (h1 : a ≤ 18446744073709551615) (w : World) :
    Calls Try.prog 97 #[.int .u64 a] w fun e w' => e = .returned (.int .u64 (mixI a)) ∧ w = w' := by
  go_enter Try.func97, Try.ntmps97
  go_wp2
  go_ret
  exact ⟨congrArg (fun n => Ending.returned (.int .u64 n)) (walk_mix a h0 h1), rfl⟩
theorem rmix_any (a : Int) (h0 : 0 ≤ a) (h1 : a ≤ 18446744073709551615) (w : World) :
    Calls Try.prog 53 #[.int .u64 a] w fun e w' => e = .returned (.int .u64 (mixI a)) ∧ w = w' := by
  go_enter Try.func53, Try.ntmps53
  go_wp2
  go_ret
  exact ⟨congrArg (fun n => Ending.returned (.int .u64 n)) (walk_mix a h0 h1), rfl⟩
theorem ret_u64 {a b : Int} (h : a = b) : Ending.returned (.int .u64 a) = .returned (.int .u64 b) := by rw [h]
end Go.Proofs.Ytfdpoibmlggfbaa.DiceWalks

/- The highest 64 bits of a product, reckoned in halves of 32 bits, are those of the product. No program is named. -/
namespace Go.Proofs.Ytfdpoibmlggfbaa.DiceHigh
theorem and32 (a : Int) (h0 : 0 ≤ a) (h1 : a ≤ 18446744073709551615) : bits .and .u64 a 4294967295 = a % 4294967296 := by
  obtain ⟨n, rfl⟩ := Int.eq_ofNat_of_zero_le h0
  have h : bits .and .u64 (n : Int) ((4294967295 : Nat) : Int) = ((n &&& 4294967295 : Nat) : Int) := u64_and_nat n 4294967295 (by omega) (by decide)
  have e : n &&& 4294967295 = n % 4294967296 := Nat.and_two_pow_sub_one_eq_mod n 32
  rw [e] at h
  rw [Int.natCast_emod] at h
  exact h
def highI (a b : Int) : Int := a * b / 18446744073709551616
theorem mul_bd (x y : Int) (h0 : 0 ≤ x) (h1 : x ≤ 4294967295) (k0 : 0 ≤ y) (k1 : y ≤ 4294967295) : 0 ≤ x * y ∧ x * y ≤ 18446744065119617025 := by
  refine ⟨Int.mul_nonneg h0 k0, ?_⟩
  have := Int.mul_le_mul h1 k1 k0 (by decide)
  omega
theorem parts (a b : Int) : a * b = (a / 4294967296 * (b / 4294967296)) * 18446744073709551616 + (a / 4294967296 * (b % 4294967296)) * 4294967296 + (a % 4294967296 * (b / 4294967296)) * 4294967296 + a % 4294967296 * (b % 4294967296) := by
  have ha : a = a / 4294967296 * 4294967296 + a % 4294967296 := by omega
  have hb : b = b / 4294967296 * 4294967296 + b % 4294967296 := by omega
  generalize a / 4294967296 = x at *
  generalize a % 4294967296 = y at *
  generalize b / 4294967296 = z at *
  generalize b % 4294967296 = t at *
  subst ha hb
  simp only [Int.add_mul, Int.mul_add]
  have e1 : x * 4294967296 * (z * 4294967296) = x * z * 18446744073709551616 := by
    rw [Int.mul_assoc, Int.mul_left_comm 4294967296 z, ← Int.mul_assoc]; rfl
  have e2 : x * 4294967296 * t = x * t * 4294967296 := by rw [Int.mul_assoc, Int.mul_comm 4294967296 t, ← Int.mul_assoc]
  have e3 : y * (z * 4294967296) = y * z * 4294967296 := by rw [← Int.mul_assoc]
  rw [e1, e2, e3]
  omega
theorem high_eq (a b : Int) (h0 : 0 ≤ a) (h1 : a ≤ 18446744073709551615) (k0 : 0 ≤ b) (k1 : b ≤ 18446744073709551615) :
    IntKind.u64.wrap (IntKind.u64.wrap (IntKind.u64.wrap (a / 4294967296 * (b / 4294967296)) +
        IntKind.u64.wrap (IntKind.u64.wrap (a / 4294967296 * bits .and .u64 b 4294967295) + IntKind.u64.wrap (bits .and .u64 a 4294967295 * bits .and .u64 b 4294967295) / 4294967296) / 4294967296) +
      IntKind.u64.wrap (IntKind.u64.wrap (bits .and .u64 a 4294967295 * (b / 4294967296)) +
        bits .and .u64 (IntKind.u64.wrap (IntKind.u64.wrap (a / 4294967296 * bits .and .u64 b 4294967295) + IntKind.u64.wrap (bits .and .u64 a 4294967295 * bits .and .u64 b 4294967295) / 4294967296)) 4294967295) / 4294967296) = highI a b := by
  rw [and32 a h0 h1, and32 b k0 k1]
  have hp := parts a b
  obtain ⟨p0, p1⟩ := mul_bd (a % 4294967296) (b % 4294967296) (by omega) (by omega) (by omega) (by omega)
  obtain ⟨q0, q1⟩ := mul_bd (a / 4294967296) (b % 4294967296) (by omega) (by omega) (by omega) (by omega)
  obtain ⟨r0, r1⟩ := mul_bd (a % 4294967296) (b / 4294967296) (by omega) (by omega) (by omega) (by omega)
  obtain ⟨s0, s1⟩ := mul_bd (a / 4294967296) (b / 4294967296) (by omega) (by omega) (by omega) (by omega)
  have hh : highI a b = a * b / 18446744073709551616 := rfl
  rw [hh, hp]
  clear hh hp
  generalize a % 4294967296 * (b % 4294967296) = P at *
  generalize a / 4294967296 * (b % 4294967296) = Q at *
  generalize a % 4294967296 * (b / 4294967296) = R at *
  generalize a / 4294967296 * (b / 4294967296) = T at *
  rw [IntWalk.u64_in P ⟨by omega, by omega⟩, IntWalk.u64_in Q ⟨by omega, by omega⟩, IntWalk.u64_in R ⟨by omega, by omega⟩, IntWalk.u64_in T ⟨by omega, by omega⟩]
  rw [IntWalk.u64_in (Q + P / 4294967296) ⟨by omega, by omega⟩, and32 (Q + P / 4294967296) (by omega) (by omega)]
  rw [IntWalk.u64_in (T + _) ⟨by omega, by omega⟩, IntWalk.u64_in (R + _) ⟨by omega, by omega⟩]
  rw [IntWalk.u64_in _ ⟨by omega, by omega⟩]
  omega
theorem high_eq' (a b : Int) (h0 : 0 ≤ a) (h1 : a ≤ 18446744073709551615) (k0 : 0 ≤ b) (k1 : b ≤ 18446744073709551615) :
    IntKind.u64.wrap (IntKind.u64.wrap (IntKind.u64.wrap (a / 4294967296 * (b / 4294967296)) +
        IntKind.u64.wrap (IntKind.u64.wrap (a / 4294967296 * bits .and .u64 b 4294967295) + IntKind.u64.wrap (bits .and .u64 a 4294967295 * bits .and .u64 b 4294967295) / 4294967296) / 4294967296) +
      IntKind.u64.wrap (bits .and .u64 (IntKind.u64.wrap (IntKind.u64.wrap (a / 4294967296 * bits .and .u64 b 4294967295) + IntKind.u64.wrap (bits .and .u64 a 4294967295 * bits .and .u64 b 4294967295) / 4294967296)) 4294967295 +
        IntKind.u64.wrap (bits .and .u64 a 4294967295 * (b / 4294967296))) / 4294967296) = highI a b := by
  rw [← high_eq a b h0 h1 k0 k1]
  generalize IntKind.u64.wrap (bits .and .u64 a 4294967295 * (b / 4294967296)) = x
  generalize bits .and .u64 (IntKind.u64.wrap (IntKind.u64.wrap (a / 4294967296 * bits .and .u64 b 4294967295) + IntKind.u64.wrap (bits .and .u64 a 4294967295 * bits .and .u64 b 4294967295) / 4294967296)) 4294967295 = y
  rw [Int.add_comm x y]
/-- it is below the second factor -/
theorem highI_lt (a b : Int) (h0 : 0 ≤ a) (h1 : a ≤ 18446744073709551615) (k0 : 1 ≤ b) : 0 ≤ highI a b ∧ highI a b < b := by
  have h : a * b ≤ 18446744073709551615 * b := Int.mul_le_mul_of_nonneg_right h1 (by omega)
  have h' : 0 ≤ a * b := Int.mul_nonneg h0 (by omega)
  unfold highI
  omega
end Go.Proofs.Ytfdpoibmlggfbaa.DiceHigh

/- Layer 1's dice, the program's and the document's: what each call does to its state. -/
namespace Go.Proofs.Ytfdpoibmlggfbaa.DiceObj
open Go.ChangeShapes Go.WideShapes Go.ChangeAt Go.RowKit DiceMath DiceWalks DiceHigh Mem

theorem mul_any (a b : Int) (h0 : 0 ≤ a) (h1 : a ≤ 18446744073709551615) (k0 : 0 ≤ b) (k1 : b ≤ 18446744073709551615) (w : World) :
    Calls Try.prog 95 #[.int .u64 a, .int .u64 b] w fun e w' => e = .returned (.tuple #[.int .u64 (highI a b), .int .u64 (IntKind.u64.wrap (a * b))]) ∧ w = w' := by
  go_enter Try.func95, Try.ntmps95
  go_wp2
  go_ret2
  exact ⟨congrArg (fun n => Ending.returned (.tuple #[.int .u64 n, .int .u64 (IntKind.u64.wrap (a * b))])) (high_eq' a b h0 h1 k0 k1), rfl⟩
theorem high_any (a b : Int) (h0 : 0 ≤ a) (h1 : a ≤ 18446744073709551615) (k0 : 0 ≤ b) (k1 : b ≤ 18446744073709551615) (w : World) :
    Calls Try.prog 49 #[.int .u64 a, .int .u64 b] w fun e w' => e = .returned (.int .u64 (highI a b)) ∧ w = w' := by
  go_enter Try.func49, Try.ntmps49
  go_wp2
  go_ret
  exact ⟨ret_u64 (high_eq a b h0 h1 k0 k1), rfl⟩
theorem new_any (s : Int) (w : World) :
    Calls Try.prog 23 #[.int .i64 s] w fun e w' => e = .returned (.pointer (some ⟨w.heap.size, 0, none⟩)) ∧ w.alloc (.cells #[.int .u64 (IntKind.u64.wrap s), .int .i64 0] 94) = w' := by
  go_enter Try.func23, Try.ntmps23
  go_wp2
  go_ret
  exact ⟨rfl, rfl⟩
/-- the next state -/
def stepI (s : Int) : Int := IntKind.u64.wrap (s + 11400714819323198485)
theorem stepI_bd (s : Int) : 0 ≤ stepI s ∧ stepI s ≤ 18446744073709551615 := by
  unfold stepI
  rw [IntKind.wrap_u64]
  omega
def upI (n : Int) : Int := wrap64 (n + 1)
/-- what a draw does to the program's dice, and to the document's -/
theorem next_any (g : Nat) (s n : Int) (w : World) (h : Has w g 94 #[.int .u64 s, .int .i64 n]) :
    Calls Try.prog 96 #[.pointer (some ⟨g, 0, none⟩)] w fun e w' => e = .returned (.int .u64 (mixI (stepI s))) ∧ Has w' g 94 #[.int .u64 (stepI s), .int .i64 (upI n)] ∧ w.grownBy w' (some g) := by
  have c0 := h.cell 0
  have c1 := h.cell 1
  have f0 := h.free 0
  have f1 := h.free 1
  have b := stepI_bd s
  go_enter Try.func96, Try.ntmps96
  go_wp2_with fail
  refine (mix_any (stepI s) b.1 b.2 _).mono ?_
  rintro e w' ⟨rfl, rfl⟩
  go_wp2_with fail
  go_ret
  exact ⟨rfl, (h.set_ 0 _).set_ 1 _, own_set (own_set (World.grownBy.refl w _) 0 _) 1 _⟩
theorem rnext_any (g : Nat) (s n : Int) (w : World) (h : Has w g 71 #[.int .u64 s, .int .i64 n]) :
    Calls Try.prog 48 #[.pointer (some ⟨g, 0, none⟩)] w fun e w' => e = .returned (.int .u64 (mixI (stepI s))) ∧ Has w' g 71 #[.int .u64 (stepI s), .int .i64 (upI n)] ∧ w.grownBy w' (some g) := by
  have c0 := h.cell 0
  have c1 := h.cell 1
  have f0 := h.free 0
  have f1 := h.free 1
  have b := stepI_bd s
  go_enter Try.func48, Try.ntmps48
  go_wp2_with fail
  refine (rmix_any (stepI s) b.1 b.2 _).mono ?_
  rintro e w' ⟨rfl, rfl⟩
  go_wp2_with fail
  go_ret
  exact ⟨rfl, (h.set_ 0 _).set_ 1 _, own_set (own_set (World.grownBy.refl w _) 0 _) 1 _⟩
/-- a draw below n, and what it leaves -/
def belowI (s n : Int) : Int := if n < 1 then 0 else highI (mixI (stepI s)) n
def bS (s n : Int) : Int := if n < 1 then s else stepI s
def bN (k n : Int) : Int := if n < 1 then k else upI k
theorem bS_bd (s n : Int) (h0 : 0 ≤ s) (h1 : s ≤ 18446744073709551615) : 0 ≤ bS s n ∧ bS s n ≤ 18446744073709551615 := by
  unfold bS
  split
  · exact ⟨h0, h1⟩
  · exact stepI_bd s
theorem belowI_bd (s n : Int) : 0 ≤ belowI s n ∧ (1 ≤ n → belowI s n < n) ∧ (n < 1 → belowI s n = 0) := by
  unfold belowI
  have b := mixI_bd (stepI s)
  split
  · exact ⟨by omega, by omega, fun _ => rfl⟩
  · have := highI_lt (mixI (stepI s)) n b.1 b.2 (by omega)
    exact ⟨this.1, fun _ => this.2, by omega⟩
theorem below_any (g : Nat) (s k n : Int) (hn : n ≤ 9223372036854775807) (w : World) (h : Has w g 94 #[.int .u64 s, .int .i64 k]) :
    Calls Try.prog 94 #[.pointer (some ⟨g, 0, none⟩), .int .i64 n] w fun e w' => e = .returned (.int .i64 (belowI s n)) ∧ Has w' g 94 #[.int .u64 (bS s n), .int .i64 (bN k n)] ∧ w.grownBy w' (some g) := by
  by_cases hlt : n < 1
  · unfold belowI bS bN
    rw [if_pos hlt, if_pos hlt, if_pos hlt]
    go_enter Try.func94, Try.ntmps94
    go_wp2_with fail
    go_ret
    exact ⟨rfl, h, World.grownBy.refl w _⟩
  · have b := mixI_bd (stepI s)
    have bb := highI_lt (mixI (stepI s)) n b.1 b.2 (by omega)
    unfold belowI bS bN
    rw [if_neg hlt, if_neg hlt, if_neg hlt]
    have hge : 1 ≤ n := by omega
    go_enter Try.func94, Try.ntmps94
    go_wp2_with fail
    refine (next_any g s k _ h).mono ?_
    rintro e w' ⟨rfl, h', hg⟩
    go_wp2_with fail
    refine (mul_any _ _ b.1 b.2 (by omega) (by omega) _).mono ?_
    rintro e w' ⟨rfl, rfl⟩
    go_wp2_with fail
    go_ret
    exact ⟨rfl, h', hg⟩
theorem rbelow_any (g : Nat) (s k n : Int) (hn : n ≤ 9223372036854775807) (w : World) (h : Has w g 71 #[.int .u64 s, .int .i64 k]) :
    Calls Try.prog 41 #[.pointer (some ⟨g, 0, none⟩), .int .i64 n] w fun e w' => e = .returned (.int .i64 (belowI s n)) ∧ Has w' g 71 #[.int .u64 (bS s n), .int .i64 (bN k n)] ∧ w.grownBy w' (some g) := by
  by_cases hlt : n < 1
  · unfold belowI bS bN
    rw [if_pos hlt, if_pos hlt, if_pos hlt]
    go_enter Try.func41, Try.ntmps41
    go_wp2_with fail
    go_ret
    exact ⟨rfl, h, World.grownBy.refl w _⟩
  · have b := mixI_bd (stepI s)
    have bb := highI_lt (mixI (stepI s)) n b.1 b.2 (by omega)
    unfold belowI bS bN
    rw [if_neg hlt, if_neg hlt, if_neg hlt]
    have hge : 1 ≤ n := by omega
    go_enter Try.func41, Try.ntmps41
    go_wp2_with fail
    refine (rnext_any g s k _ h).mono ?_
    rintro e w' ⟨rfl, h', hg⟩
    go_wp2_with fail
    refine (high_any _ _ b.1 b.2 (by omega) (by omega) _).mono ?_
    rintro e w' ⟨rfl, rfl⟩
    go_wp2_with fail
    go_ret
    exact ⟨rfl, h', hg⟩
/-- some percent off, at random -/
def inJ (b p : Int) : Bool := decide (1 ≤ b ∧ b ≤ 1099511627776 ∧ 1 ≤ p ∧ p ≤ 100)
def jitI (s b p : Int) : Int := if inJ b p then b - belowI s (b * p / 100 + 1) else b
def jS (s b p : Int) : Int := if inJ b p then stepI s else s
def jN (k b p : Int) : Int := if inJ b p then upI k else k
theorem jS_bd (s b p : Int) (h0 : 0 ≤ s) (h1 : s ≤ 18446744073709551615) : 0 ≤ jS s b p ∧ jS s b p ≤ 18446744073709551615 := by
  unfold jS
  split
  · exact stepI_bd s
  · exact ⟨h0, h1⟩
theorem prod_bd (b p : Int) (h1 : 1 ≤ b) (h2 : b ≤ 1099511627776) (h3 : 1 ≤ p) (h4 : p ≤ 100) : 1 ≤ b * p ∧ b * p ≤ 109951162777600 := by
  have e1 := Int.mul_le_mul h2 h4 (by omega) (by decide)
  have e2 := Int.mul_le_mul h1 h3 (by decide) (by omega)
  omega
theorem jitI_bd (s b p : Int) : jitI s b p ≤ b ∧ (inJ b p = true → b - b * p / 100 ≤ jitI s b p) ∧ (inJ b p = false → jitI s b p = b) := by
  unfold jitI
  have hb := belowI_bd s (b * p / 100 + 1)
  refine ⟨by split <;> omega, fun h => ?_, fun h => by simp [h]⟩
  have := of_decide_eq_true h
  have := prod_bd b p (by omega) (by omega) (by omega) (by omega)
  rw [if_pos h]
  omega
end Go.Proofs.Ytfdpoibmlggfbaa.DiceObj

/- Layer 3's bucket: what each call of the program's does to its state. -/
namespace Go.Proofs.Ytfdpoibmlggfbaa.BucketObj
open Go.ChangeShapes Go.WideShapes Go.ChangeAt Go.RowKit BucketPure Mem

/-- block g is the bucket b -/
def Bk (w : World) (g : Nat) (t : TypeId) (b : B) : Prop := Has w g t #[.int .i64 b.most, .int .i64 b.fill, .int .i64 b.every, .int .i64 b.tokens, .int .i64 b.filled, .int .i64 b.told]

theorem bounded_any (n : Int) (w : World) :
    Calls Try.prog 46 #[.int .i64 n] w fun e w' => e = .returned (.bool (fits n)) ∧ w = w' := by
  unfold fits
  by_cases h1 : 1 ≤ n
  · by_cases h2 : n ≤ 1073741824
    · rw [decide_eq_true ⟨h1, h2⟩]
      go_enter Try.func46, Try.ntmps46
      go_wp2_with fail
      go_ret
      exact ⟨rfl, rfl⟩
    · rw [decide_eq_false (by omega)]
      go_enter Try.func46, Try.ntmps46
      go_wp2_with fail
      go_ret
      exact ⟨rfl, rfl⟩
  · rw [decide_eq_false (by omega)]
    go_enter Try.func46, Try.ntmps46
    go_wp2_with fail
    go_ret
    exact ⟨rfl, rfl⟩
theorem missing_any (g : Nat) (b : B) (n : Int) (hf1 : 1 ≤ b.fill) (hf2 : b.fill ≤ 1073741824) (ht1 : 0 ≤ b.tokens) (hn1 : b.tokens ≤ n) (hn2 : n ≤ 1073741824) (w : World) (h : Bk w g 124 b) :
    Calls Try.prog 81 #[.pointer (some ⟨g, 0, none⟩), .int .i64 n] w fun e w' => e = .returned (.int .i64 (missing b n)) ∧ ∃ m, w' = w.drewN m := by
  have c1 := h.cell 1
  have c3 := h.cell 3
  have hz : ¬ b.fill = 0 := by omega
  have hq : (n - b.tokens + b.fill - 1) / b.fill ≤ n - b.tokens := (missing_bd hf1 hn1).2
  have hq0 : 0 ≤ (n - b.tokens + b.fill - 1) / b.fill := (missing_bd hf1 hn1).1
  go_enter Try.func81, Try.ntmps81
  go_wp2_with fail
  go_quiet (fail)
  go_wp2_with fail
  go_ret
  exact ⟨rfl, _, rfl⟩
/-- is a time refused? -/
def late (b : B) (now : Int) : Prop := now < b.told ∨ 1099511627776 < now
instance (b : B) (now : Int) : Decidable (late b now) := by unfold late; infer_instance
def passE (b : B) (now : Int) : Int := if late b now then 20 else 0
def passB (b : B) (now : Int) : B := if late b now then b else pass b now
theorem passB_ok {b : B} (h : Ok b) (now : Int) : Ok (passB b now) := by
  unfold passB
  split
  · exact h
  · rename_i hl
    unfold late at hl
    exact pass_ok h (by omega) (by omega)
theorem pass_any (g : Nat) (b : B) (now : Int) (ok : Ok b) (w : World) (h : Bk w g 124 b) :
    Calls Try.prog 85 #[.pointer (some ⟨g, 0, none⟩), .int .i64 now] w fun e w' => e = .returned (.int .i64 (passE b now)) ∧ Bk w' g 124 (passB b now) ∧ w.grownBy w' (some g) := by
  have c0 := h.cell 0
  have c1 := h.cell 1
  have c2 := h.cell 2
  have c3 := h.cell 3
  have c4 := h.cell 4
  have c5 := h.cell 5
  have f0 := h.free 0
  have f3 := h.free 3
  have f4 := h.free 4
  have f5 := h.free 5
  unfold passE passB
  by_cases hl : late b now
  · rw [if_pos hl, if_pos hl]
    have hx : now < b.told ∨ (¬ now < b.told ∧ 1099511627776 < now) := by unfold late at hl; omega
    clear hl
    rcases hx with hx | ⟨h1, hx⟩
    all_goals
      go_enter Try.func85, Try.ntmps85
      go_wp2_with fail
      go_ret
      exact ⟨rfl, h, World.grownBy.refl w _⟩
  · rw [if_neg hl, if_neg hl]
    have h1 : ¬ now < b.told := by unfold late at hl; omega
    have h2 : ¬ 1099511627776 < now := by unfold late at hl; omega
    clear hl
    have hl1 := ok.l1
    have hl2 := ok.l2
    have he1 := ok.e1
    have hz : ¬ b.every = 0 := by omega
    have hk0 : 0 ≤ (now - b.filled) / b.every := fillings_nonneg he1 (by omega)
    have hk1 : (now - b.filled) / b.every ≤ now - b.filled := fillings_le (by omega)
    have hs := fillings_spec he1 now
    have hP : pass b now = after b ((now - b.filled) / b.every) now := rfl
    unfold fillings at hs
    have HP := Lib.hid hP
    have HS := Lib.hid hs
    clear hP hs
    go_enter Try.func85, Try.ntmps85
    go_wp2_with fail
    have H1 : Bk (w.setCell ⟨g, 5, none⟩ (.int .i64 now)) g 124 { b with told := now } := h.set_ 5 _
    have G1 := own_set (World.grownBy.refl w (some g)) 5 (.int .i64 now)
    clear c0 c1 c2 c3 c4 c5 f0 f3 f4 f5 h
    generalize (w.setCell _ _) = w1 at *
    have c2 := H1.cell 2
    have c4 := H1.cell 4
    go_quiet (fail)
    have G2 := own_drewN G1 nq
    have H2 := H1.drewN nq
    clear H1 G1 c2 c4
    generalize (w1.drewN nq) = w2 at *
    have HK := Lib.hid hk1
    generalize (now - b.filled) / b.every = k at *
    have hs : k * b.every ≤ now - b.filled := HS.out.1
    have hs0 : 0 ≤ k * b.every := Int.mul_nonneg hk0 (by omega)
    have c2 := H2.cell 2
    have c4 := H2.cell 4
    have f4 := H2.free 4
    go_wp2_with fail
    go_region
    have H3 : Bk (w2.setCell ⟨g, 4, none⟩ (.int .i64 (b.filled + k * b.every))).drew g 124 { b with filled := b.filled + k * b.every, told := now } := (H2.set_ 4 _).drew
    have G3 := own_drew (own_set G2 4 (.int .i64 (b.filled + k * b.every)))
    clear c2 c4 f4 H2 G2
    generalize (w2.setCell _ _).drew = w3 at *
    have c0 := H3.cell 0
    have hm : missing { b with filled := b.filled + k * b.every, told := now } b.most = missing b b.most := rfl
    have hi := missing_iff ok.f1 b.most k
    have HI := Lib.hid hi
    have HM := Lib.hid hm
    clear hi hm hs0 hs hk1 hl1 hl2 hz he1 h2 h1
    go_wp2_with fail
    refine (missing_any g { b with filled := b.filled + k * b.every, told := now } _ ok.f1 ok.f2 ok.t1 ok.t2 ok.m2 _ H3).mono ?_
    rintro e w' ⟨rfl, nq, rfl⟩
    rw [HM.out]
    have G4 := own_drewN G3 nq
    have H4 := H3.drewN nq
    clear H3 G3 c0
    generalize (w3.drewN nq) = w4 at *
    have c0 := H4.cell 0
    have c1 := H4.cell 1
    have c3 := H4.cell 3
    have f3 := H4.free 3
    have hT := ok.t1
    have hM := ok.m2
    by_cases hc : missing b b.most ≤ k
    · have hx := HI.out.1 hc
      have e : pass b now = { b with tokens := b.most, filled := b.filled + k * b.every, told := now } := by
        rw [HP.out]
        unfold after
        congr 1
        omega
      have HE := Lib.hid e
      clear e hx
      go_wp2_with fail
      go_ret
      rw [HE.out]
      exact ⟨rfl, H4.set_ 3 _, own_set G4 3 _⟩
    · have hx : ¬ b.most ≤ b.tokens + k * b.fill := fun h => hc (HI.out.2 h)
      have hy : b.tokens + k * b.fill < b.most := by omega
      have hk : 0 ≤ k * b.fill := Int.mul_nonneg hk0 (by have := ok.f1; omega)
      have e : pass b now = { b with tokens := b.tokens + k * b.fill, filled := b.filled + k * b.every, told := now } := by
        rw [HP.out]
        unfold after
        congr 1
        omega
      have HE := Lib.hid e
      clear e hx
      go_wp2_with fail
      go_region
      go_wp2_with fail
      go_ret
      rw [HE.out]
      exact ⟨rfl, (H4.set_ 3 _).drew, own_drew (own_set G4 3 _)⟩
end Go.Proofs.Ytfdpoibmlggfbaa.BucketObj

/- Layer 3's bucket: New, Take, Tokens, Wait of the program's. -/
namespace Go.Proofs.Ytfdpoibmlggfbaa.BucketOps
open Go.ChangeShapes Go.WideShapes Go.ChangeAt Go.RowKit BucketPure BucketObj Mem

/-- why no bucket is made (0: it is made) -/
def newE (m f e now : Int) : Int := if fits m && fits f && fits e then (if 0 ≤ now ∧ now ≤ 1099511627776 then 0 else 20) else 30
theorem new_ok (m f e now : Int) (hE : newE m f e now = 0) (w : World) :
    Calls Try.prog 35 #[.int .i64 m, .int .i64 f, .int .i64 e, .int .i64 now] w fun x w' => x = .returned (.tuple #[.pointer (some ⟨w.heap.size, 0, none⟩), .int .i64 0]) ∧
      w.alloc (.cells #[.int .i64 m, .int .i64 f, .int .i64 e, .int .i64 m, .int .i64 now, .int .i64 now] 124) = w' := by
  unfold newE at hE
  by_cases hm : fits m = true
  · by_cases hf : fits f = true
    · by_cases he : fits e = true
      · rw [hm, hf, he] at hE
        have h0 : 0 ≤ now := by simp at hE; omega
        have h1 : now ≤ 1099511627776 := by simp at hE; omega
        clear hE
        go_enter Try.func35, Try.ntmps35
        go_wp2_with (first | (go_at_call 46; refine (bounded_any _ _).mono ?_; rintro e w' ⟨rfl, rfl⟩; first | rw [hm] | rw [hf] | rw [he]))
        go_ret2
        exact ⟨rfl, rfl⟩
      · simp [he] at hE
    · simp [hf] at hE
  · simp [hm] at hE
theorem new_bad (m f e now : Int) (hE : newE m f e now ≠ 0) (w : World) :
    Calls Try.prog 35 #[.int .i64 m, .int .i64 f, .int .i64 e, .int .i64 now] w fun x w' => x = .returned (.tuple #[.pointer none, .int .i64 (newE m f e now)]) ∧ w = w' := by
  unfold newE at hE ⊢
  by_cases hm : fits m = true
  · by_cases hf : fits f = true
    · by_cases he : fits e = true
      · rw [hm, hf, he] at hE ⊢
        have h0 : now < 0 ∨ (0 ≤ now ∧ 1099511627776 < now) := by simp at hE; omega
        have e0 : (if (true && true && true) = true then (if 0 ≤ now ∧ now ≤ 1099511627776 then 0 else 20) else 30) = (20 : Int) := by rw [if_pos (by rfl), if_neg (by omega)]
        rw [e0]
        clear e0 hE
        rcases h0 with h0 | ⟨h0, h1⟩
        all_goals
          go_enter Try.func35, Try.ntmps35
          go_wp2_with (first | (go_at_call 46; refine (bounded_any _ _).mono ?_; rintro e w' ⟨rfl, rfl⟩; first | rw [hm] | rw [hf] | rw [he]))
          go_ret2
          exact ⟨rfl, rfl⟩
      · have he : fits e = false := by simpa using he
        rw [hm, hf, he]
        clear hE
        go_enter Try.func35, Try.ntmps35
        go_wp2_with (first | (go_at_call 46; refine (bounded_any _ _).mono ?_; rintro e w' ⟨rfl, rfl⟩; first | rw [hm] | rw [hf] | rw [he]))
        go_ret2
        exact ⟨rfl, rfl⟩
    · have hf : fits f = false := by simpa using hf
      rw [hm, hf]
      clear hE
      go_enter Try.func35, Try.ntmps35
      go_wp2_with (first | (go_at_call 46; refine (bounded_any _ _).mono ?_; rintro e w' ⟨rfl, rfl⟩; first | rw [hm] | rw [hf]))
      go_ret2
      exact ⟨rfl, rfl⟩
  · have hm : fits m = false := by simpa using hm
    rw [hm]
    clear hE
    go_enter Try.func35, Try.ntmps35
    go_wp2_with (first | (go_at_call 46; refine (bounded_any _ _).mono ?_; rintro e w' ⟨rfl, rfl⟩; rw [hm]))
    go_ret2
    exact ⟨rfl, rfl⟩
/-- Take: what it says, and the bucket behind it -/
def takeR (b : B) (now n : Int) : Bool := if late b now then false else can (pass b now) n
def takeB (b : B) (now n : Int) : B := if late b now then b else less (pass b now) n
theorem takeB_ok {b : B} (h : Ok b) (now n : Int) : Ok (takeB b now n) := by
  have := passB_ok h now
  unfold takeB
  unfold passB at this
  split
  · exact h
  · rename_i hl
    rw [if_neg hl] at this
    exact less_ok this n
def tokR (b : B) (now : Int) : Int := if late b now then 0 else (pass b now).tokens
def waitR (b : B) (now n : Int) : Int := if late b now then 0 else wait (pass b now) n
theorem take_any (g : Nat) (b : B) (now n : Int) (ok : Ok b) (w : World) (h : Bk w g 124 b) :
    Calls Try.prog 83 #[.pointer (some ⟨g, 0, none⟩), .int .i64 now, .int .i64 n] w fun e w' => e = .returned (.tuple #[.bool (takeR b now n), .int .i64 (passE b now)]) ∧ Bk w' g 124 (takeB b now n) ∧ w.grownBy w' (some g) := by
  by_cases hl : late b now
  · have e1 : passE b now = 20 := by unfold passE; rw [if_pos hl]
    have e2 : takeR b now n = false := by unfold takeR; rw [if_pos hl]
    have e3 : takeB b now n = passB b now := by unfold takeB passB; rw [if_pos hl, if_pos hl]
    rw [e1, e2, e3]
    go_enter Try.func83, Try.ntmps83
    go_wp2_with fail
    refine (pass_any g b now ok _ h).mono ?_
    rintro e w' ⟨rfl, h', hg⟩
    rw [e1]
    go_wp2_with fail
    go_ret2
    exact ⟨rfl, h', hg⟩
  · have e1 : passE b now = 0 := by unfold passE; rw [if_neg hl]
    have e2 : takeR b now n = can (passB b now) n := by unfold takeR passB; rw [if_neg hl, if_neg hl]
    have e3 : takeB b now n = less (passB b now) n := by unfold takeB passB; rw [if_neg hl, if_neg hl]
    rw [e1, e2, e3]
    have ok' := passB_ok ok now
    clear e2 e3
    generalize hB : passB b now = b' at *
    have HB := Lib.hid hB
    clear hB hl
    go_enter Try.func83, Try.ntmps83
    go_wp2_with fail
    refine (pass_any g b _ ok _ h).mono ?_
    rintro e w' ⟨rfl, h', hg⟩
    rw [e1]
    rw [HB.out] at h'
    clear e1
    have c3 := h'.cell 3
    have f3 := h'.free 3
    by_cases h1 : 1 ≤ n
    · by_cases h2 : n ≤ b'.tokens
      · have e4 : can b' n = true := decide_eq_true ⟨h1, h2⟩
        have e5 : less b' n = { b' with tokens := b'.tokens - n } := by unfold less; rw [if_pos e4]
        have E4 := Lib.hid e4
        have E5 := Lib.hid e5
        have hm2 := ok'.m2
        have ht2 := ok'.t2
        clear e4 e5
        go_wp2_with fail
        go_ret2
        rw [E4.out, E5.out]
        exact ⟨rfl, h'.set_ 3 _, own_set hg 3 _⟩
      · have e4 : can b' n = false := decide_eq_false (by omega)
        have e5 : less b' n = b' := by unfold less; rw [if_neg (by simp [e4])]
        have E4 := Lib.hid e4
        have E5 := Lib.hid e5
        clear e4 e5
        go_wp2_with fail
        go_ret2
        rw [E4.out, E5.out]
        exact ⟨rfl, h', hg⟩
    · have e4 : can b' n = false := decide_eq_false (by omega)
      have e5 : less b' n = b' := by unfold less; rw [if_neg (by simp [e4])]
      have E4 := Lib.hid e4
      have E5 := Lib.hid e5
      clear e4 e5
      go_wp2_with fail
      go_ret2
      rw [E4.out, E5.out]
      exact ⟨rfl, h', hg⟩
end Go.Proofs.Ytfdpoibmlggfbaa.BucketOps

/- Layer 16 of the program: a chain in memory, and the values of its filters. -/
namespace Go.Proofs.Ytfdpoibmlggfbaa.FiltObj
open Go.ChangeShapes Go.WideShapes Go.ChangeAt Go.RowKit Bytes ConfPure ConfMem FieldsPure Flds FilterPure FiltState FiltKeep BucketPure BucketObj Mem Step
set_option maxRecDepth 20000
set_option linter.unusedVariables false
/-- what the dice draws below 100, and its next state -/
def dv16 (d : Int) : Int := DiceObj.belowI d 100
def dn16 (d : Int) : Int := DiceObj.bS d 100
def seed16 (s : Int) : Int := IntKind.u64.wrap s
/-- two values that share no block -/
def Apart16 (v u : Value) : Prop := ∀ k, v.ownBlock = some k → u.ownBlock ≠ some k
/-- a list of a call's own -/
def Lst (w : World) (base : Nat) (v : Value) (G : List HField) : Prop := w.ownsRow base 54 2 v G.length (encFs G)
def vrdA (v : Verd) (fl pl : Value) : Array Value := #[.bool v.stop, .int .i64 v.status, fl, .string (ofL v.body), pl]
def inI (n : Int) : Prop := -9223372036854775808 ≤ n ∧ n ≤ 9223372036854775807
/-- a filter's cells, as the program embeds them -/
def cf (f : Filt) : Array Value := #[.int .i64 f.kind, .string (ofL f.name), .string (ofL f.value), .int .i64 f.n, .int .i64 f.m, .int .i64 f.k]
def cf1 (f : Filt) (p : Nat) : Array Value := #[.int .i64 f.kind, .string (ofL f.name), .string (ofL f.value), .int .i64 f.n, .int .i64 f.m, .int .i64 f.k, .pointer (some ⟨p, 0, none⟩)]
/-- a filter at work: its dynamic type and its value -/
def kT (f : Filt) : TypeId := if f.kind = 1 then 98 else if f.kind = 2 then 99 else if f.kind = 3 then 104 else if f.kind = 4 then 105 else if f.kind = 5 then 106 else if f.kind = 6 then 107 else if f.kind = 7 then 109 else 110
def kA (f : Filt) (b d : Nat) : Array Value := if f.kind = 3 then cf1 f b else if f.kind = 7 then cf1 f d else cf f
def ifv (f : Filt) (b d : Nat) : Value := .iface (kT f) (.agg (kA f b d))
/-- the values of a chain's filters; bl: where the buckets lie -/
def vals : List Filt → List Nat → Nat → List Value
  | [], _, _ => []
  | f :: fs, bl, d => ifv f (bl.headD 0) d :: vals fs bl.tail d
theorem vals_len : ∀ (fs : List Filt) (bl : List Nat) (d : Nat), (vals fs bl d).length = fs.length
  | [], _, _ => rfl
  | _ :: fs, bl, d => by unfold vals; rw [List.length_cons, vals_len fs bl.tail d, List.length_cons]
theorem vals_at : ∀ (fs : List Filt) (bl : List Nat) (d i : Nat) (hi : i < fs.length), (vals fs bl d)[i]? = some (ifv fs[i] (bl.getD i 0) d)
  | [], _, _, i, hi => by simp at hi
  | f :: fs, bl, d, 0, _ => by cases bl <;> rfl
  | f :: fs, bl, d, i + 1, hi => by
    unfold vals
    rw [List.getElem?_cons_succ, vals_at fs bl.tail d i (by simpa using hi)]
    cases bl <;> rfl
theorem vals_snoc : ∀ (fs : List Filt) (bl : List Nat) (d : Nat) (f : Filt) (b : Nat), bl.length = fs.length → vals (fs ++ [f]) (bl ++ [b]) d = vals fs bl d ++ [ifv f b d]
  | [], [], d, f, b, _ => rfl
  | [], _ :: _, d, f, b, h => by simp at h
  | _ :: _, [], d, f, b, h => by simp at h
  | x :: fs, y :: bl, d, f, b, h => by
    show ifv x y d :: vals (fs ++ [f]) (bl ++ [b]) d = _
    rw [vals_snoc fs bl d f b (by simpa using h)]
    rfl
/-- the parts of a chain: block g; rv its filters; bl its buckets; dg its dice -/
structure Parts (w : World) (g : Nat) (rv : Value) (bl : List Nat) (dg : Nat) (fs : List Filt) (bs : List B) (d seen : Int) : Prop where
  hd : Has w g 62 #[rv, .int .i64 seen]
  row : w.ownsRow 0 66 1 rv fs.length (vals fs bl dg)
  lb : bl.length = fs.length
  ls : bs.length = fs.length
  di : ∃ dk, Has w dg 94 #[.int .u64 d, .int .i64 dk]
  bk : ∀ i (hi : i < fs.length), fs[i].kind = 3 → Bk w (bl.getD i 0) 124 (bs.getD i zB)
  ap : ∀ i j (hj : j < fs.length) (hij : i < j), (fs[i]'(Nat.lt_trans hij hj)).kind = 3 → fs[j].kind = 3 → bl.getD i 0 ≠ bl.getD j 0
/-- its blocks lie in F -/
structure InF (F : Nat → Prop) (g : Nat) (rv : Value) (bl : List Nat) (dg : Nat) (fs : List Filt) : Prop where
  mine : F g
  row : ∀ b, rv.ownBlock = some b → F b
  di : F dg
  bk : ∀ i (hi : i < fs.length), fs[i].kind = 3 → F (bl.getD i 0)
theorem Parts.step {w w' : World} {F G G' : Nat → Prop} {g : Nat} {rv : Value} {bl : List Nat} {dg : Nat} {fs : List Filt} {bs : List B} {d seen : Int} (h : Parts w g rv bl dg fs bs d seen) (hi : InF F g rv bl dg fs) (hs : Step w w' G G') (hf : ∀ k, F k → ¬ G k) : Parts w' g rv bl dg fs bs d seen :=
  ⟨hs.has h.hd (hf _ hi.mine), hs.row h.row (fun b hb => hf _ (hi.row b hb)), h.lb, h.ls, h.di.imp (fun dk hd => hs.has hd (hf _ hi.di)), fun i hx hk => hs.has (h.bk i hx hk) (hf _ (hi.bk i hx hk)), h.ap⟩
/-- block g, and those of F, hold a chain -/
structure Ch (w : World) (F : Nat → Prop) (g : Nat) (s : Cn) : Prop where
  mine : F g
  lt : ∀ k, F k → k < w.heap.size
  good : Good16 s
  parts : ∃ rv bl dg, Parts w g rv bl dg s.fs s.bs s.d s.seen ∧ InF F g rv bl dg s.fs
theorem Ch.step {w w' : World} {F G G' : Nat → Prop} {g : Nat} {s : Cn} (h : Ch w F g s) (hs : Step w w' G G') (hf : ∀ k, F k → ¬ G k) : Ch w' F g s := by
  obtain ⟨rv, bl, dg, hp, hi⟩ := h.parts
  exact ⟨h.mine, fun k hk => Nat.lt_of_lt_of_le (h.lt k hk) hs.size, h.good, rv, bl, dg, hp.step hi hs hf, hi⟩
def NewC (w w' : World) (e : Ending) (s : Cn) : Prop := ∃ g F, e = .returned (.pointer (some ⟨g, 0, none⟩)) ∧ Ch w' F g s ∧ ∀ k, F k → w.heap.size ≤ k
def ReqC (w w' : World) (e : Ending) (F : Nat → Prop) (g : Nat) (r : Verd × Int) (s' : Cn) : Prop :=
  ∃ fl pl F', e = .returned (.tuple #[.agg (vrdA r.1 fl pl), .int .i64 r.2]) ∧ Lst w' w.heap.size fl r.1.fields ∧ Lst w' w.heap.size pl r.1.pass ∧ Apart16 fl pl ∧ (∀ b, fl.ownBlock = some b ∨ pl.ownBlock = some b → ¬ F' b) ∧ Ch w' F' g s' ∧ Step w w' F F'
def RespC (w w' : World) (e : Ending) (F : Nat → Prop) (g : Nat) (G : List HField) (s : Cn) : Prop :=
  ∃ l F', e = .returned l ∧ Lst w' w.heap.size l G ∧ (∀ b, l.ownBlock = some b → ¬ F' b) ∧ Ch w' F' g s ∧ Step w w' F F'
/-! ### a struct's whole row -/
theorem pverd_size : (Try.prog.info? 38).map (·.size) = some 5 := by kernel_rfl
theorem store_whole {ops : Array Oper} {rest : List Oper} {o : Oper} {a : Act} {w : World} {Q : Exit → Act → World → Prop} (hgd : o.guard = none) (T : TypeId) (n : Nat) (hinfo : (Try.prog.info? T).map (·.size) = some n) (x y : Operand) (ho : o.op = .store T x y) (r : Nat) (old cs : Array Value) (hH : Has w r T old) (hold : old.size = n) (hn : cs.size = n) (hcs : cs.all (·.oneCell') = true)
    (hx : a.eval x = .pointer (some ⟨r, 0, none⟩)) (hy : a.eval y = .agg cs) (h : wpList Try.prog ops Q rest (a.put o.dst undef) (w.setRow r cs)) : wpList Try.prog ops Q (o :: rest) a w :=
  wpList_store_row hgd T x y ho r cs hx hy T old hH.at_ (by rw [hn]; exact hinfo) (hold.trans hn.symm) hcs h
theorem has_set {w : World} {r : Nat} {T : TypeId} {old : Array Value} (h : Has w r T old) (cs : Array Value) : Has (w.setRow r cs) r T cs := ⟨setRow_heap w r old cs T _ h.at_⟩
theorem below_set {w W : World} {b r : Nat} (h : Below b w W) (cs : Array Value) (hb : b ≤ r) : Below b w (W.setRow r cs) :=
  ⟨h.os, h.tape, h.output, by simpa using h.size, fun k hk => (setRow_other W r k _ (by omega)).trans (h.block k hk)⟩
theorem step_set {w : World} {F : Nat → Prop} {r : Nat} (cs : Array Value) (hr : F r) : Step w (w.setRow r cs) F F :=
  ⟨rfl, rfl, rfl, by simp, fun k hk hn => setRow_other w r k _ (fun e => hn (by rw [e]; exact hr)), fun _ h => .inl h⟩
/-- a block of other type -/
theorem row_ne {w : World} {base n size : Nat} {e : TypeId} {v : Value} {xs : List Value} {b : Nat} {t : TypeId} {cs : Array Value} (hr : w.ownsRow base e size v n xs) (h : Has w b t cs) (hne : e ≠ t) : v.ownBlock ≠ some b := by
  intro hb
  rcases hr.2 with ⟨hv, _⟩ | ⟨g, cap, cur, hv, h1, hg, rest⟩
  · rw [hv] at hb; cases hb
  · rw [hv] at hb
    have e2 : some g = some b := hb
    injection e2 with e3
    subst e3
    rw [h.at_] at hg
    injection hg with hg
    injection hg with _ h2
    exact hne h2.symm
/-! ### what a filter says -/
/-- the blocks that a filter may turn: the request's, its bucket, the dice -/
def Tn (f : Filt) (rb b d : Nat) : Nat → Prop := fun k => k = rb ∨ (f.kind = 3 ∧ k = b) ∨ (f.kind = 7 ∧ k = d)
def reqA (now : Int) (method : ByteArray) (fv : Value) (size : Int) : Array Value := #[.int .i64 now, .string method, fv, .int .i64 size]
/-- what became of a request: V what the filter says, base: lists lie from there on -/
def FwdC (base : Nat) (f : Filt) (rb b dg : Nat) (now : Int) (method : ByteArray) (size : Int) (bk : B) (d : Int) (G : List HField) (W : World) (e : Ending) (W' : World) : Prop :=
  ∃ fl fv, e = .returned (.agg (vrdA (one16 dv16 f bk d now (toL method) G size) fl (.slice none 0 0))) ∧ Lst W' base fl (one16 dv16 f bk d now (toL method) G size).fields ∧
    ((one16 dv16 f bk d now (toL method) G size).stop = false → Has W' rb 84 (reqA now method fv size) ∧ Lst W' base fv (fld16 f G)) ∧
    Step W W' (Tn f rb b dg) (Tn f rb b dg) ∧ (f.kind = 3 → Bk W' b 124 (bkt16 f bk now)) ∧ (f.kind = 7 → ∃ dk, Has W' dg 94 #[.int .u64 (dce16 dn16 f d), .int .i64 dk])
end Go.Proofs.Ytfdpoibmlggfbaa.FiltObj

/- Layer 4, the document's own Lower. -/
namespace Go.Proofs.Ytfdpoibmlggfbaa.RLower
open Go.ChangeShapes Go.WideShapes Go.ChangeAt Go.RowKit LexPure Bytes Ret Rows1
set_option maxRecDepth 20000
theorem infoB : (Try.prog.info? 5).map (fun i => (i.zero, i.size, i.bytes)) = some (some (.int .u8 0), 1, 1) := by kernel_rfl
/-- what is gathered so far -/
def LInv (w : World) (s : ByteArray) (k : Nat) (v : Value) (wr : World) : Prop :=
  wr.ownsRow w.heap.size 5 1 v k (bvs (lower ((toL s).take k))) ∧ Below w.heap.size w wr
theorem small_at {b : UInt8} : (65 ≤ (b.toNat : Int) ∧ (b.toNat : Int) ≤ 90 ∧ (small b).toNat = (b.toNat : Int) - 65 + 97) ∨ (((b.toNat : Int) < 65 ∨ (65 ≤ (b.toNat : Int) ∧ 90 < (b.toNat : Int))) ∧ small b = b) := by
  have := all_bytes (p := fun b => decide ((65 ≤ (b.toNat : Int) ∧ (b.toNat : Int) ≤ 90 ∧ ((small b).toNat : Int) = (b.toNat : Int) - 65 + 97) ∨ (((b.toNat : Int) < 65 ∨ (65 ≤ (b.toNat : Int) ∧ 90 < (b.toNat : Int))) ∧ small b = b))) (by decide +kernel) b
  simpa only [decide_eq_true_eq] using this
theorem rlower_any (s : ByteArray) (hs : s.size ≤ 140737488351232) (w : World) :
    Calls Try.prog 42 #[.string s] w fun e w' => e = .returned (.string (ofL (lower (toL s)))) ∧ Below w.heap.size w w' := by
  obtain ⟨i0, hi, hz0, hz1, hz2⟩ := info_parts infoB
  go_enter Try.func42, Try.ntmps42
  go_wp2_with fail
  go_loopw [3, 4] (fun v i wr => ∃ k : Nat, k ≤ s.size ∧ i = .int .i64 k ∧ Hid (LInv w s k v wr)) (fun _ i _ => s.size - (intOf i).toNat)
  case atStart => exact ⟨0, Nat.zero_le _, rfl, Lib.hid ⟨World.ownsRow_nil _ _ _ _, Below.refl _ _⟩⟩
  case round =>
    obtain ⟨k, hk, rfl, HI⟩ := hrel
    obtain ⟨hrow, hbw⟩ := HI.out
    by_cases hlt : k < s.size
    · have hki : (k : Int) < (s.size : Int) := by omega
      have HT : Hid (lower ((toL s).take (k + 1)) = lower ((toL s).take k) ++ [small s[k]]) := Lib.hid (by
        rw [toL_take_succ s k hlt]
        unfold lower
        rw [List.map_append]
        rfl)
      rcases small_at (b := s[k]) with ⟨h1, h2, h3⟩ | ⟨h1, h2⟩
      · have HV : Hid (bv (small s[k]) = .int .u8 ((s[k].toNat : Int) - 65 + 97)) := Lib.hid (by unfold bv; rw [h3])
        go_wp2_with (at_builtin; refine wpList_append_own _ rfl _ _ 128 rfl w.heap.size 5 i0 (.int .u8 0) 1 1 Try.underlying128 hi hz0 hz1 hz2 rfl (by decide) _ _ _ rfl (hrow.alloc _) ⟨wr.heap.size, 0, none⟩ 1 1 [.int .u8 ((s[k].toNat : Int) - 65 + 97)] rfl rfl (cell_one_new _ _ _) (fun x hx => by simp at hx; subst hx; rfl) (by unfold maxLen; omega) (by omega) (by have := hbw.size; simp; omega) ?_; intro v' w3 hown' hgrow3 hnil3)
        have HI3 : Hid (LInv w s (k + 1) v' w3) := Lib.hid ⟨by rw [HT.out, bvs_append]; have h := hown'; rw [← HV.out] at h; exact h, Below.grown (hbw.alloc hbw.size _) hgrow3 (by have := hbw.size; simp; omega) (fun j hj => (hrow.lt _ hj).1)⟩
        clear hown' hgrow3 hnil3
        go_wp2_with fail
        go_roundw
        case rel => exact ⟨k + 1, by omega, by go_num, HI3⟩
        case measure => simp [intOf]; omega
      · rcases h1 with h1 | ⟨h1, h3⟩
        all_goals
          have HV : Hid (bv (small s[k]) = .int .u8 (s[k].toNat : Int)) := Lib.hid (by rw [h2]; rfl)
          go_wp2_with (at_builtin; refine wpList_append_own _ rfl _ _ 128 rfl w.heap.size 5 i0 (.int .u8 0) 1 1 Try.underlying128 hi hz0 hz1 hz2 rfl (by decide) _ _ _ rfl (hrow.alloc _) ⟨wr.heap.size, 0, none⟩ 1 1 [.int .u8 (s[k].toNat : Int)] rfl rfl (cell_one_new _ _ _) (fun x hx => by simp at hx; subst hx; rfl) (by unfold maxLen; omega) (by omega) (by have := hbw.size; simp; omega) ?_; intro v' w3 hown' hgrow3 hnil3)
          have HI3 : Hid (LInv w s (k + 1) v' w3) := Lib.hid ⟨by rw [HT.out, bvs_append]; have h := hown'; rw [← HV.out] at h; exact h, Below.grown (hbw.alloc hbw.size _) hgrow3 (by have := hbw.size; simp; omega) (fun j hj => (hrow.lt _ hj).1)⟩
          clear hown' hgrow3 hnil3
          go_wp2_with fail
          go_roundw
          case rel => exact ⟨k + 1, by omega, by go_num, HI3⟩
          case measure => simp [intOf]; omega
    · have HC := own_string (P := Try.prog) hrow 128 9 Try.underlying128 Try.underlying5 Try.underlying9
      rw [toL_take_all s (by omega)] at HC
      clear hrow HI
      go_wp2_with fail
      go_ret
      exact ⟨rfl, hbw⟩
end Go.Proofs.Ytfdpoibmlggfbaa.RLower

/- Layer 7, the document's own alike. -/
namespace Go.Proofs.Ytfdpoibmlggfbaa.RAlike7
open Go.ChangeShapes Go.WideShapes Go.ChangeAt Go.RowKit LexPure Bytes Ret RLower Mem
set_option maxRecDepth 20000
theorem ralike7_any (a b : ByteArray) (ha : a.size ≤ 140737488351232) (hb : b.size ≤ 140737488351232) (w : World) :
    Calls Try.prog 30 #[.string a, .string b] w fun e w' => e = .returned (.bool (alike (toL a) (toL b))) ∧ Below w.heap.size w w' := by
  have U0 := Lib.hid (fun w => rlower_any a ha w)
  have U1 := Lib.hid (fun w => rlower_any b hb w)
  have HV := Lib.hid (show ((ofL (lower (toL a))).toList == (ofL (lower (toL b))).toList) = alike (toL a) (toL b) by rw [same_ofL]; rfl)
  generalize ofL (lower (toL a)) = A at *
  generalize ofL (lower (toL b)) = B at *
  clear ha hb
  go_enter Try.func30, Try.ntmps30
  go_wp2_with fail
  refine (U0.out _).mono ?_
  rintro e w1 ⟨rfl, hb1⟩
  go_wp2_with fail
  refine (U1.out _).mono ?_
  rintro e w2 ⟨rfl, hb2⟩
  have HB := Lib.hid (below_chain hb1 hb2)
  clear hb1 hb2
  go_wp2_with fail
  go_ret
  exact ⟨ret_bool HV.out, HB.out⟩
end Go.Proofs.Ytfdpoibmlggfbaa.RAlike7

/- Layer 7, the document's own Get. -/
namespace Go.Proofs.Ytfdpoibmlggfbaa.R7Get
open Go.ChangeShapes Go.WideShapes Go.ChangeAt Go.RowKit LexPure Bytes Ret FieldsPure Flds RAlike7 Mem
set_option maxRecDepth 20000
theorem getV_cons (f : HField) (l : List HField) (n : List UInt8) : getV (f :: l) n = if hit n f then f.2 else getV l n := by
  unfold getV
  rw [List.find?_cons]
  cases hit n f <;> rfl
theorem getN_cons (f : HField) (l : List HField) (n : List UInt8) : getN (f :: l) n = if hit n f then getN l n + 1 else getN l n := by
  unfold getN
  rw [List.countP_cons]
  cases hit n f <;> simp
set_option maxHeartbeats 1600000 in
theorem rget_any (v : Value) (G : List HField) (n : ByteArray) (hn : n.size ≤ 1048576) (hG : Few G) (w : World) (hF : FL w v G) :
    Calls Try.prog 19 #[v, .string n] w fun e w' => e = .returned (.tuple #[.string (ofL (getV G (toL n))), .int .i64 (getN G (toL n))]) ∧ Below w.heap.size w w' := by
  obtain ⟨p, cap, rfl, hle, hc⟩ := hF
  replace hc := Lib.hid hc
  replace hG := Lib.hid hG
  go_enter Try.func19, Try.ntmps19
  go_wp2_with fail
  have HB0 := Lib.hid (Below.refl w.heap.size w)
  have HS : Hid (G.drop G.length = []) := Lib.hid List.drop_length
  go_loopw [6, 7, 8] (fun x c i wr => ∃ k : Nat, k ≤ G.length ∧ i = .int .i64 ((k : Int) - 1) ∧ x = .string (ofL (getV (G.drop k) (toL n))) ∧ c = .int .i64 (getN (G.drop k) (toL n) : Nat) ∧ Hid (Below w.heap.size w wr)) (fun _ _ i _ => (intOf i + 1).toNat)
  case atStart => exact ⟨G.length, Nat.le_refl _, rfl, by rw [HS.out]; rfl, by rw [HS.out]; rfl, HB0⟩
  case round =>
    obtain ⟨k, hk, rfl, rfl, rfl, HB⟩ := hrel
    clear HB0 HS
    cases k with
    | zero =>
      rw [List.drop_zero]
      go_wp2_with fail
      go_ret2
      exact ⟨rfl, HB.out⟩
    | succ j =>
      have hj : j < G.length := by omega
      obtain ⟨g, o, rfl, hlt, hcell⟩ := hc.out (by omega)
      obtain ⟨c1, c2⟩ := hcell j hj
      replace c1 := (HB.out.cell (p := ⟨g, o + j * 2, none⟩) hlt).trans c1
      replace c2 := (HB.out.cell (p := ⟨g, o + j * 2 + 1, none⟩) hlt).trans c2
      have hji : (j : Int) < (G.length : Int) := by omega
      obtain ⟨s1, s2⟩ := hG.out j hj
      have HA := Lib.hid (fun w => ralike7_any (ofL G[j].1) n (by rw [ofL_size]; omega) (by omega) w)
      rw [toL_ofL] at HA
      have HV := Lib.hid (getV_cons G[j] (G.drop (j + 1)) (toL n))
      have HN := Lib.hid (getN_cons G[j] (G.drop (j + 1)) (toL n))
      rw [← List.drop_eq_getElem_cons hj] at HV HN
      have hcn : (getN (G.drop (j + 1)) (toL n) : Int) ≤ 4398046511104 := by
        have := List.countP_le_length (p := hit (toL n)) (l := G.drop (j + 1))
        rw [List.length_drop] at this
        unfold getN
        omega
      rw [show (((j + 1 : Nat) : Int) - 1) = (j : Int) by omega]
      have hpos : (0 : Int) ≤ (j : Int) := by omega
      clear hcell
      cases hh : hit (toL n) G[j]
      · rw [hh] at HV HN
        rw [show alike G[j].1 (toL n) = false from hh] at HA
        clear hh
        go_wp2_with fail
        refine (HA.out _).mono ?_
        rintro e w2 ⟨rfl, hb2⟩
        have HB2 := Lib.hid (below_chain HB.out hb2)
        clear hb2 c1 c2
        go_wp2_with fail
        go_roundw
        case rel => exact ⟨j, by omega, rfl, by rw [HV.out]; rfl, by rw [HN.out]; rfl, HB2⟩
        case measure => simp [intOf]
      · rw [hh] at HV HN
        rw [show alike G[j].1 (toL n) = true from hh] at HA
        clear hh
        have hlt2 := Nat.lt_of_lt_of_le hlt HB.out.size
        go_wp2_with fail
        refine (HA.out _).mono ?_
        rintro e w2 ⟨rfl, hb2⟩
        have HB2 := Lib.hid (below_chain HB.out hb2)
        replace c2 := (hb2.cell (p := ⟨g, o + j * 2 + 1, none⟩) hlt2).trans c2
        clear hb2 c1
        go_wp2_with fail
        go_roundw
        case rel => exact ⟨j, by omega, rfl, by rw [HV.out]; rfl, by rw [HN.out]; push_cast; rfl, HB2⟩
        case measure => simp [intOf]
end Go.Proofs.Ytfdpoibmlggfbaa.R7Get

/- Layer 7 of the program: without, over whatever its function answers. -/
namespace Go.Proofs.Ytfdpoibmlggfbaa.PWithout
open Go.ChangeShapes Go.WideShapes Go.ChangeAt Go.RowKit LexPure Bytes Ret Rows1 FieldsPure Flds R7Get KeptRow Mem
set_option maxRecDepth 20000
def keepBy (q : HField → Bool) (l : List HField) : List HField := l.filter (fun f => !q f)
theorem keepBy_snoc (q : HField → Bool) (l : List HField) (f : HField) : keepBy q (l ++ [f]) = if q f then keepBy q l else keepBy q l ++ [f] := by
  unfold keepBy
  rw [List.filter_append]
  cases h : q f <;> simp [h]
set_option maxHeartbeats 1600000 in
theorem pwithout_any (fid bx : Nat) (hent : ∀ args w, (callFunc fid args).run Try.prog w = .ok (.enter fid args) w) (q : HField → Bool) (v : Value) (G : List HField) (hle2 : G.length ≤ 4398046511104) (w : World) (hF : FL w v G)
    (hcall : ∀ (j : Nat) (hj : j < G.length) (W : World), Below w.heap.size w W → Calls Try.prog fid #[.agg #[.string (ofL G[j].1), .string (ofL G[j].2)], .pointer (some ⟨bx, 0, none⟩)] W fun e w' => e = .returned (.bool (q G[j])) ∧ Below W.heap.size W w') :
    Calls Try.prog 76 #[v, .func (.func fid) #[] #[.pointer (some ⟨bx, 0, none⟩)]] w fun e w' => ∃ v', e = .returned v' ∧ w'.ownsRow w.heap.size 54 2 v' (keepBy q G).length (encFs (keepBy q G)) ∧ Below w.heap.size w w' := by
  obtain ⟨i0, hi, hz0, hz1, hz2⟩ := info_parts infoF
  obtain ⟨p, cap, rfl, hle, hc⟩ := hF
  replace hc := Lib.hid hc
  replace hcall := Lib.hid hcall
  have HK := Lib.hid (Kept.start w)
  go_enter Try.func76, Try.ntmps76
  go_wp2_with fail
  go_loopw [5, 10] (fun x i wr => ∃ k : Nat, k ≤ G.length ∧ i = .int .i64 k ∧ Hid (Kept w (keepBy q (G.take k)) x wr)) (fun _ i _ => G.length - (intOf i).toNat)
  case atStart => exact ⟨0, Nat.zero_le _, rfl, HK⟩
  case round =>
    obtain ⟨k, hk, rfl, HI⟩ := hrel
    clear HK
    by_cases hlt : k < G.length
    · obtain ⟨g, o, rfl, hgl, hcell⟩ := hc.out (by omega)
      obtain ⟨c1, c2⟩ := hcell k hlt
      have hki : (k : Int) < (G.length : Int) := by omega
      have HT : Hid (keepBy q (G.take (k + 1)) = if q G[k] then keepBy q (G.take k) else keepBy q (G.take k) ++ [G[k]]) := Lib.hid (by rw [← keepBy_snoc, List.take_add_one, List.getElem?_eq_getElem hlt]; rfl)
      replace c1 := (HI.out.below.cell (p := ⟨g, o + k * 2, none⟩) hgl).trans c1
      replace c2 := (HI.out.below.cell (p := ⟨g, o + k * 2 + 1, none⟩) hgl).trans c2
      have HI1 := Lib.hid (HI.out.alloc (.cells #[.string (ofL G[k].1), .string (ofL G[k].2)] 54))
      have HA := Lib.hid (hcall.out k hlt _ HI1.out.below)
      have d := (Has.new wr 54 #[.string (ofL G[k].1), .string (ofL G[k].2)]).cell
      have d0 := d 0
      have d1 := d 1
      have hsz : wr.heap.size < (wr.alloc (.cells #[.string (ofL G[k].1), .string (ofL G[k].2)] 54)).heap.size := by simp
      clear hcell d
      cases hh : q G[k]
      · rw [hh] at HT HA
        clear hh
        go_wp2_with fail
        refine HA.out.mono ?_
        rintro e w2 ⟨rfl, hb2⟩
        have e0 := (hb2.cell (p := ⟨wr.heap.size, 0, none⟩) hsz).trans d0
        have e1 := (hb2.cell (p := ⟨wr.heap.size, 1, none⟩) hsz).trans d1
        have HK2 := (HI1.out.call hb2).alloc (.cells #[.string (ofL G[k].1), .string (ofL G[k].2)] 54)
        have hlen : (keepBy q (G.take k)).length ≤ k := Nat.le_trans (List.length_filter_le _ _) (List.length_take_le _ _)
        have HN := Lib.hid (World.news_of_block (heap_alloc_new w2 (.cells #[.string (ofL G[k].1), .string (ofL G[k].2)] 54)))
        have HKH := Lib.hid HK2
        have hrow := HK2.row
        clear hb2 HK2 d0 d1 hsz c1 c2
        go_wp2_with (at_builtin; refine wpList_append_own_at _ rfl (.tmp 18) (.tmp 20) 32 rfl w.heap.size 54 i0 _ 2 32 Try.underlying32 hi hz0 hz1 hz2 rfl (by omega) _ _ _ rfl hrow ⟨w2.heap.size, 0, none⟩ 1 1 (encF G[k]) rfl rfl HN.out (by simp [encF, Value.oneCell']) (by simp only [maxLen]; omega) (by omega) (by have := HKH.out.below.size; exact this) ?_; intro v4 w4 hown4 hg4 _ hat4)
        have HK3 : Hid (Kept w (keepBy q (G.take (k + 1))) v4 w4) := Lib.hid (by
          rw [HT.out]
          refine ⟨?_, Below.grown HKH.out.below hg4 HKH.out.below.size HKH.out.lt⟩
          rw [if_neg (by decide), encFs_append, List.length_append]
          exact hown4)
        clear hown4 hg4 hat4 hrow
        go_wp2_with fail
        go_roundw
        case rel => exact ⟨k + 1, by omega, by go_num, HK3⟩
        case measure => simp [intOf]; omega
      · rw [hh] at HT HA
        clear hh
        go_wp2_with fail
        refine HA.out.mono ?_
        rintro e w2 ⟨rfl, hb2⟩
        have HK3 : Hid (Kept w (keepBy q (G.take (k + 1))) u5 w2) := Lib.hid (by
          rw [HT.out]
          exact HI1.out.call hb2)
        clear hb2 d0 d1 hsz
        go_wp2_with fail
        go_roundw
        case rel => exact ⟨k + 1, by omega, by go_num, HK3⟩
        case measure => simp [intOf]; omega
    · have hall : G.take k = G := List.take_of_length_le (by omega)
      have HE := HI.out
      rw [hall] at HE
      have HEH := Lib.hid HE
      clear HE HI hall
      go_wp2_with fail
      go_ret
      exact ⟨_, rfl, HEH.out.row, HEH.out.below⟩
end Go.Proofs.Ytfdpoibmlggfbaa.PWithout

/- Layer 4 of the program: small. -/
namespace Go.Proofs.Ytfdpoibmlggfbaa.PLsmall
open Go.ChangeShapes Go.WideShapes Go.ChangeAt Go.RowKit LexPure Bytes Ret
set_option maxRecDepth 20000
theorem small_cases (b : UInt8) : (65 ≤ (b.toNat : Int) ∧ (b.toNat : Int) ≤ 90 ∧ ((small b).toNat : Int) = (b.toNat : Int) - 65 + 97) ∨ (((b.toNat : Int) < 65 ∨ (65 ≤ (b.toNat : Int) ∧ 90 < (b.toNat : Int))) ∧ small b = b) := by
  have := all_bytes (p := fun b => decide ((65 ≤ (b.toNat : Int) ∧ (b.toNat : Int) ≤ 90 ∧ ((small b).toNat : Int) = (b.toNat : Int) - 65 + 97) ∨ (((b.toNat : Int) < 65 ∨ (65 ≤ (b.toNat : Int) ∧ 90 < (b.toNat : Int))) ∧ small b = b))) (by decide +kernel) b
  simpa only [decide_eq_true_eq] using this
theorem psmall_any (b : UInt8) (w : World) :
    Calls Try.prog 79 #[.int .u8 (b.toNat : Int)] w fun e w' => e = .returned (.int .u8 ((small b).toNat : Int)) ∧ w = w' := by
  have hub : (b.toNat : Int) ≤ 255 := by have := b.toNat_lt; omega
  rcases small_cases b with ⟨h1, h2, h3⟩ | ⟨h1 | ⟨h1, h2⟩, h3⟩
  · have H3 := Lib.hid h3
    clear h3
    generalize (b.toNat : Int) = c at *
    go_enter Try.func79, Try.ntmps79
    go_wp2_with fail
    go_ret
    exact ⟨by rw [H3.out]; rfl, rfl⟩
  · rw [h3]
    generalize (b.toNat : Int) = c at *
    go_enter Try.func79, Try.ntmps79
    go_wp2_with fail
    go_ret
    exact ⟨rfl, rfl⟩
  · rw [h3]
    generalize (b.toNat : Int) = c at *
    go_enter Try.func79, Try.ntmps79
    go_wp2_with fail
    go_ret
    exact ⟨rfl, rfl⟩
theorem psmall_same (b : UInt8) (w : World) :
    Calls Try.prog 79 #[.int .u8 (b.toNat : Int)] w fun e w' => e = .returned (.int .u8 ((small b).toNat : Int)) ∧ w' = w :=
  (psmall_any b w).mono fun _ _ ⟨h, k⟩ => ⟨h, k.symm⟩
end Go.Proofs.Ytfdpoibmlggfbaa.PLsmall

/- Layer 4 of the program: Alike. -/
namespace Go.Proofs.Ytfdpoibmlggfbaa.PAlike
open Go.ChangeShapes Go.WideShapes Go.ChangeAt Go.RowKit LexPure Bytes Ret PLsmall Mem
set_option maxRecDepth 20000
set_option maxHeartbeats 1600000 in
theorem palike_any (s t : ByteArray) (hs : s.size ≤ maxLen) (w : World) :
    Calls Try.prog 78 #[.string s, .string t] w fun e w' => e = .returned (.bool (alike (toL s) (toL t))) ∧ Below w.heap.size w w' := by
  unfold maxLen at hs
  by_cases hl : s.size = t.size
  · go_enter Try.func78, Try.ntmps78
    go_wp2_with fail
    have HB : Hid (∃ m, w = w.drewN m) := Lib.hid ⟨0, rfl⟩
    go_loopw [13] (fun i wr => ∃ k : Nat, k ≤ s.size ∧ i = .int .i64 k ∧ Hid (lower ((toL s).take k) = lower ((toL t).take k)) ∧ Hid (∃ m, wr = w.drewN m)) (fun i _ => s.size - (intOf i).toNat)
    case atStart => exact ⟨0, Nat.zero_le _, rfl, Lib.hid rfl, HB⟩
    case round =>
      obtain ⟨k, hk, rfl, ha, HM⟩ := hrel
      clear HB
      by_cases hlt : k < s.size
      · have hlt2 : k < t.size := by omega
        have hki : (k : Int) < (s.size : Int) := by omega
        have hki2 : (k : Int) < (t.size : Int) := by omega
        have HS := Lib.hid (toL_take_succ s k hlt)
        have HT := Lib.hid (toL_take_succ t k hlt2)
        have GS := Lib.hid (toL_get s k hlt)
        have GT := Lib.hid (toL_get t k hlt2)
        by_cases hm : small s[k] = small t[k]
        · have HA : Hid (lower ((toL s).take (k + 1)) = lower ((toL t).take (k + 1))) := Lib.hid (by
            rw [HS.out, HT.out]
            unfold lower
            rw [List.map_append, List.map_append]
            have h := ha.out
            unfold lower at h
            rw [h]
            simp [hm])
          have hx : ((small s[k]).toNat : Int) = ((small t[k]).toNat : Int) := by rw [hm]
          clear hm HS HT GS GT ha
          go_wp2_with fail
          go_quiet ((go_at_call 79; exact Calls.quiet_of_same (psmall_same _ _)))
          go_wp2_with fail
          go_roundw
          case rel => exact ⟨k + 1, by omega, by go_num, HA, Lib.hid (by obtain ⟨m, hm⟩ := HM.out; exact ⟨_, by rw [hm, World.drewN_drewN]⟩)⟩
          case measure => simp [intOf]; omega
        · have HV : Hid (alike (toL s) (toL t) = false) := Lib.hid (by
            unfold alike
            rw [beq_eq_false_iff_ne]
            intro h
            have h2 := congrArg (·[k]?) h
            unfold lower at h2
            simp only [List.getElem?_map, GS.out, GT.out, Option.map_some, Option.some.injEq] at h2
            exact hm h2)
          have hx : ¬ (((small s[k]).toNat : Int) = ((small t[k]).toNat : Int)) := fun h => hm (UInt8.toNat_inj.1 (by exact_mod_cast h))
          clear hm HS HT GS GT ha
          go_wp2_with fail
          go_quiet ((go_at_call 79; exact Calls.quiet_of_same (psmall_same _ _)))
          go_wp2_with fail
          go_ret
          obtain ⟨m, rfl⟩ := HM.out
          exact ⟨by rw [HV.out]; rfl, ⟨rfl, rfl, rfl, Nat.le_refl _, fun _ _ => rfl⟩⟩
      · have hall : (toL s).take k = toL s := toL_take_all s (by omega)
        have hall2 : (toL t).take k = toL t := toL_take_all t (by omega)
        have HV : Hid (alike (toL s) (toL t) = true) := Lib.hid (by
          have h := ha.out
          rw [hall, hall2] at h
          unfold alike
          rw [h]
          exact beq_self_eq_true _)
        clear ha hall hall2
        go_wp2_with fail
        go_ret
        obtain ⟨m, rfl⟩ := HM.out
        exact ⟨by rw [HV.out]; rfl, ⟨rfl, rfl, rfl, Nat.le_refl _, fun _ _ => rfl⟩⟩
  · have HV : Hid (alike (toL s) (toL t) = false) := Lib.hid (by
      unfold alike
      rw [beq_eq_false_iff_ne]
      intro h
      have := congrArg List.length h
      rw [lower_length, lower_length, toL_length, toL_length] at this
      exact hl this)
    have hx : ¬ ((s.size : Int) = (t.size : Int)) := by omega
    clear hl
    go_enter Try.func78, Try.ntmps78
    go_wp2_with fail
    go_ret
    exact ⟨by rw [HV.out]; rfl, ⟨rfl, rfl, rfl, Nat.le_refl _, fun _ _ => rfl⟩⟩
end Go.Proofs.Ytfdpoibmlggfbaa.PAlike

/- Layer 7 of the program, for lists of any size: values, the values of a name's fields, one after the other. -/
namespace Go.Proofs.Ytfdpoibmlggfbaa.PValsW
open Go.ChangeShapes Go.WideShapes Go.ChangeAt Go.RowKit LexPure Bytes Ret FieldsPure Flds R7Get PAlike Mem Go.Shelf
set_option maxRecDepth 20000
attribute [local go_sem] Oper.semAt_some
/-- every name and value is a text -/
def Wide (G : List HField) : Prop := ∀ (j : Nat) (h : j < G.length), G[j].1.length ≤ 9223372036854775807 ∧ G[j].2.length ≤ 9223372036854775807
/-- a value, as long as a value may be -/
def V : Type := { x : List UInt8 // x.length ≤ 9223372036854775807 }
def clamp (x : List UInt8) : V := ⟨x.take 9223372036854775807, by rw [List.length_take]; omega⟩
theorem clamp_val {x : List UInt8} (h : x.length ≤ 9223372036854775807) : (clamp x).1 = x := List.take_of_length_le h
def encV (x : V) : Array Value := #[.string (ofL x.1)]
/-- the values of a name -/
def vs (G : List HField) (n : List UInt8) : List V := (G.filter (hit n)).map (fun f => clamp f.2)
theorem vs_append (a b : List HField) (n : List UInt8) : vs (a ++ b) n = vs a n ++ vs b n := by simp [vs]
theorem vs_one (f : HField) (n : List UInt8) : vs [f] n = if hit n f then [clamp f.2] else [] := by
  unfold vs
  cases h : hit n f <;> simp [h]
theorem vs_len (G : List HField) (n : List UInt8) : (vs G n).length ≤ G.length := by
  unfold vs
  rw [List.length_map]
  exact List.length_filter_le _ _
/-- what a round keeps: what lay below n₀, and the name's box -/
def Kp (n₀ Bn : Nat) (nm : ByteArray) (A B : World) : Prop := Below n₀ A B ∧ (A.cell? ⟨Bn, 0, none⟩ = some (.string nm) → B.cell? ⟨Bn, 0, none⟩ = some (.string nm))
theorem kp_t {n₀ Bn : Nat} {nm : ByteArray} {A B C : World} (h : Kp n₀ Bn nm A B) (k : Kp n₀ Bn nm B C) : Kp n₀ Bn nm A C := ⟨h.1.trans k.1, fun x => k.2 (h.2 x)⟩
theorem kp_b {n₀ Bn : Nat} {nm : ByteArray} {w : World} (hn : n₀ ≤ w.heap.size) (hb : Bn < w.heap.size) (W : World) (l : Nat) (o o' : Obj) (hl : w.heap.size ≤ l) (h : W.heap[l]? = some o) (h1 : o.isCells = false) (h2 : o.isWalk = false) : Kp n₀ Bn nm W (W.putObj l o') :=
  ⟨belowK_b hn W l o o' hl h h1 h2, fun x => by
    have hne : l ≠ Bn := by omega
    have hb := World.block_lt_of_cell? _ _ x
    have := (Below.refl (Bn + 1) W).grown (grownBy_putObj' W l o') (by exact hb) (fun k e => by cases e; omega)
    exact (this.cell (p := ⟨Bn, 0, none⟩) (Nat.lt_succ_self _)).trans x⟩
/-- the list lies in a block below n₀ -/
def Under (n₀ : Nat) (w : World) (v : Value) (G : List HField) : Prop := ∃ p cap, v = .slice p G.length cap ∧ G.length ≤ 4398046511104 ∧ (0 < G.length → ∃ g o, p = some ⟨g, o, none⟩ ∧ g < n₀ ∧ ∀ j (hj : j < G.length), w.cell? ⟨g, o + j * 2, none⟩ = some (.string (ofL G[j].1)) ∧ w.cell? ⟨g, o + j * 2 + 1, none⟩ = some (.string (ofL G[j].2)))
theorem FL.under {w : World} {v : Value} {G : List HField} (h : FL w v G) : Under w.heap.size w v G := h
theorem Under.below {n₀ : Nat} {w w' : World} {v : Value} {G : List HField} (h : Under n₀ w v G) (hb : Below n₀ w w') : Under n₀ w' v G := by
  obtain ⟨p, cap, hv, hn, hc⟩ := h
  refine ⟨p, cap, hv, hn, fun h0 => ?_⟩
  obtain ⟨g, o, hp, hlt, hcell⟩ := hc h0
  exact ⟨g, o, hp, hlt, fun j hj => ⟨(hb.cell (p := ⟨g, o + j * 2, none⟩) hlt).trans (hcell j hj).1, (hb.cell (p := ⟨g, o + j * 2 + 1, none⟩) hlt).trans (hcell j hj).2⟩⟩
theorem grown_of_below {w w' : World} (h : Below w.heap.size w w') : w.grownBy w' none := ⟨h.os, h.tape, h.output, h.size, fun k hk _ => h.block k hk⟩
set_option maxHeartbeats 1600000 in
theorem pvalues_any (p : Option Addr) (len cap : Nat) (nm : ByteArray) (w : World) :
    Calls Try.prog 88 #[.slice p len cap, .string nm] w fun e w' => e = .returned (.func (.func 89) #[] #[.pointer (some ⟨w.heap.size, 0, none⟩), .pointer (some ⟨w.heap.size + 1, 0, none⟩)]) ∧ w' = (w.alloc (.cells #[.slice p len cap] 32)).alloc (.cells #[.string nm] 9) := by
  go_enter Try.func88, Try.ntmps88
  go_wp2_with fail
  go_ret
  exact ⟨rfl, rfl⟩
set_option maxHeartbeats 3200000 in
theorem vals_in (n l Bs Bn n₀ : Nat) (G : List HField) (hG : Wide G) (nm : ByteArray) (v : Value) (J Jx : List V → World → Prop) (W : World)
    (hJ : AbidesFrom W.heap.size J) (hn0 : n₀ ≤ W.heap.size)
    (hY : ∀ pre x W1, J pre W1 → pre.length < G.length → YieldAt Fence.wide (n - 1) Try.prog l (encV x) W1 fun e W' =>
      (e = .returned (.bool true) ∧ J (pre ++ [x]) W' ∧ Kp n₀ Bn nm W1 W') ∨ (e = .returned (.bool false) ∧ Jx (pre ++ [x]) W'))
    (hBs : W.cell? ⟨Bs, 0, none⟩ = some v) (hBn : W.cell? ⟨Bn, 0, none⟩ = some (.string nm)) (hL : Under n₀ W v G) (h0 : J [] W) :
    CallsIn Fence.wide n Try.prog 89 #[.func (.yield l) #[] #[], .pointer (some ⟨Bs, 0, none⟩), .pointer (some ⟨Bn, 0, none⟩)] W fun e W' => (∃ v, e = .returned v) ∧
      ((∃ ys, ys = vs G (toL nm) ∧ J ys W') ∨ (∃ pre, pre <+: vs G (toL nm) ∧ Jx pre W')) := by
  obtain ⟨p, cap, rfl, hle, hc⟩ := hL
  refine callsIn_of_wp Try.func89 rfl trivial ?_ rfl
  simp only [Try.ntmps89, List.size_toArray, List.length_cons, List.length_nil, Nat.reduceAdd, Nat.reduceSub, Array.replicate_succ, Array.replicate_zero, List.push_toArray, List.append_toArray, List.nil_append, List.cons_append]
  replace hc := Lib.hid hc
  replace hG := Lib.hid hG
  replace hJ := Lib.hid hJ
  replace hY := Lib.hid hY
  have H0 := Lib.hid h0
  clear h0
  gi_wp2
  clear hBs
  have HB0 : Hid (Below n₀ W W) := Lib.hid (Below.refl _ _)
  have HN0 := Lib.hid hBn
  clear hBn
  gi_loopw [8] (fun i wr => ∃ k : Nat, k ≤ G.length ∧ i = .int .i64 k ∧ Hid (J (vs (G.take k) (toL nm)) wr) ∧ Hid (Below n₀ W wr) ∧ Hid (wr.cell? ⟨Bn, 0, none⟩ = some (.string nm)))
    (fun i _ => G.length - (intOf i).toNat)
  case atStart => exact ⟨0, Nat.zero_le _, rfl, H0, HB0, HN0⟩
  case round =>
    obtain ⟨k, hk, rfl, HJ, HB, HN⟩ := hrel
    clear H0 HB0 HN0
    by_cases hlt : k < G.length
    · obtain ⟨g, o, rfl, hgl, hcell⟩ := hc.out (by omega)
      obtain ⟨c1, c2⟩ := hcell k hlt
      have hki : (k : Int) < (G.length : Int) := by omega
      obtain ⟨s1, s2⟩ := hG.out k hlt
      replace c1 := (HB.out.cell (p := ⟨g, o + k * 2, none⟩) hgl).trans c1
      replace c2 := (HB.out.cell (p := ⟨g, o + k * 2 + 1, none⟩) hgl).trans c2
      have hgw : n₀ ≤ wr.heap.size := Nat.le_trans hn0 HB.out.size
      have HA := Lib.hid (fun w => palike_any (ofL G[k].1) nm (by rw [ofL_size]; unfold maxLen; omega) w)
      rw [toL_ofL] at HA
      have HT : Hid (vs (G.take (k + 1)) (toL nm) = vs (G.take k) (toL nm) ++ if hit (toL nm) G[k] then [clamp G[k].2] else []) := Lib.hid (by rw [← vs_one, ← vs_append, List.take_add_one, List.getElem?_eq_getElem hlt]; rfl)
      have hn := HN.out
      have hbn := World.block_lt_of_cell? _ _ hn
      clear hcell
      cases hh : hit (toL nm) G[k]
      · rw [hh] at HT
        rw [show alike G[k].1 (toL nm) = false from hh] at HA
        clear hh
        gi_wp2_with fail
        refine ⟨trivial, fun h => (by cases h), ?_⟩
        refine (callsIn_wide.2 (HA.out _)).mono ?_
        rintro e w2 ⟨rfl, hb2⟩
        have hb3 := below_chain ((Below.refl wr.heap.size wr).alloc (Nat.le_refl _) (.cells #[.string (ofL G[k].1), .string (ofL G[k].2)] 54)) hb2
        have HJ2 : Hid (J (vs (G.take (k + 1)) (toL nm)) w2) := Lib.hid (by
          rw [HT.out, if_neg (by decide), List.append_nil]
          exact hJ.out _ _ _ none HJ.out (grown_of_below hb3) (fun _ e => by cases e))
        have HB2 : Hid (Below n₀ W w2) := Lib.hid (HB.out.trans (hb3.mono hgw))
        have HN2 : Hid (w2.cell? ⟨Bn, 0, none⟩ = some (.string nm)) := Lib.hid ((hb3.cell (p := ⟨Bn, 0, none⟩) hbn).trans hn)
        clear hb3 hb2 c1 c2 hn hbn HJ HB HN HT HA hY hJ
        gi_wp2_with fail
        refine ⟨fun _ h => (by cases h), ?_⟩
        gi_wp2
        go_roundw
        case rel => exact ⟨k + 1, by omega, by go_num, HJ2, HB2, HN2⟩
        case measure => simp [intOf]; omega
      · rw [hh] at HT
        rw [show alike G[k].1 (toL nm) = true from hh] at HA
        clear hh
        gi_wp2_with fail
        refine ⟨trivial, fun h => (by cases h), ?_⟩
        refine (callsIn_wide.2 (HA.out _)).mono ?_
        rintro e w2 ⟨rfl, hb2⟩
        have hbx := (Has.new wr 54 #[.string (ofL G[k].1), .string (ofL G[k].2)]).cell 1
        have hb3 := below_chain ((Below.refl wr.heap.size wr).alloc (Nat.le_refl _) (.cells #[.string (ofL G[k].1), .string (ofL G[k].2)] 54)) hb2
        have cv : w2.cell? ⟨wr.heap.size, 1, none⟩ = some (.string (ofL G[k].2)) := (hb2.cell (p := ⟨wr.heap.size, 1, none⟩) (by simp)).trans hbx
        have HJ2 : Hid (J (vs (G.take k) (toL nm)) w2) := Lib.hid (hJ.out _ _ _ none HJ.out (grown_of_below hb3) (fun _ e => by cases e))
        have HB2 : Hid (Below n₀ W w2) := Lib.hid (HB.out.trans (hb3.mono hgw))
        have HN2 : Hid (w2.cell? ⟨Bn, 0, none⟩ = some (.string nm)) := Lib.hid ((hb3.cell (p := ⟨Bn, 0, none⟩) hbn).trans hn)
        have hlen : (vs (G.take k) (toL nm)).length < G.length := by
          have h1 := vs_len (G.take k) (toL nm)
          have h2 := List.length_take_le k G
          omega
        obtain ⟨fn, tmps, assign, body, hy, hR⟩ := hY.out (vs (G.take k) (toL nm)) (clamp G[k].2) w2 HJ2.out hlen
        rw [show encV (clamp G[k].2) = #[.string (ofL G[k].2)] by unfold encV; rw [clamp_val s2]] at hy
        have HR := Lib.hid hR
        rw [if_pos trivial] at HT
        clear hR hb3 hb2 hbx c1 c2 hn hbn HJ HB HN HA hJ hlen HJ2
        gi_wp2_with fail
        refine ⟨fun h => (by cases h), ?_⟩
        refine HR.out.mono ?_
        rintro e W3 (⟨rfl, hJ3, hk3⟩ | ⟨rfl, hJx3⟩)
        · have HJ3 : Hid (J (vs (G.take (k + 1)) (toL nm)) W3) := Lib.hid (by rw [HT.out]; exact hJ3)
          have HB3 : Hid (Below n₀ W W3) := Lib.hid (HB2.out.trans hk3.1)
          have HN3 := Lib.hid (hk3.2 HN2.out)
          clear hJ3 hk3 HR HB2 HN2 HT cv hY
          gi_wp2
          go_roundw
          case rel => exact ⟨k + 1, by omega, by go_num, HJ3, HB3, HN3⟩
          case measure => simp [intOf]; omega
        · have HX : Hid (∃ pre, pre <+: vs G (toL nm) ∧ Jx pre W3) := Lib.hid ⟨_, ⟨vs (G.drop (k + 1)) (toL nm), by rw [← HT.out, ← vs_append, List.take_append_drop]⟩, hJx3⟩
          clear hJx3 HR HB2 HN2 HT cv hY
          gi_wp2
          refine bodyPost_ret (results_none rfl _ _ _) rfl ?_
          exact ⟨⟨_, rfl⟩, .inr HX.out⟩
    · have hall : G.take k = G := List.take_of_length_le (by omega)
      have HJE := HJ.out
      rw [hall] at HJE
      have HJH := Lib.hid HJE
      clear HJE HJ hall hY hJ
      gi_wp2
      go_end0
      exact ⟨⟨_, rfl⟩, .inl ⟨_, rfl, HJH.out⟩⟩
/-- the values, one after the other: all of them, or as many as a round let come -/
theorem vals_stops (n Bs Bn n₀ : Nat) (G : List HField) (hG : Wide G) (nm : ByteArray) (v : Value) (w : World) (hBs : Bs < w.heap.size) (hn0 : n₀ ≤ w.heap.size)
    (hc : w.cell? ⟨Bs, 0, none⟩ = some v) (hcn : w.cell? ⟨Bn, 0, none⟩ = some (.string nm)) (hL : Under n₀ w v G) :
    SeqStopsK Fence.wide n Try.prog 89 #[.pointer (some ⟨Bs, 0, none⟩), .pointer (some ⟨Bn, 0, none⟩)] encV (Kp n₀ Bn nm) (fun ys => ys = vs G (toL nm)) (fun pre => pre <+: vs G (toL nm)) G.length w :=
  fun l J Jx W hW hJ _ hY h0 =>
    vals_in n l Bs Bn n₀ G hG nm v J Jx W hJ (Nat.le_trans hn0 hW.size) hY ((hW.cell (p := ⟨Bs, 0, none⟩) hBs).trans hc) ((hW.cell (p := ⟨Bn, 0, none⟩) (World.block_lt_of_cell? _ _ hcn)).trans hcn) (hL.below (hW.mono hn0)) h0
end Go.Proofs.Ytfdpoibmlggfbaa.PValsW

/- Layer 7 of the program, for lists of any size: Remove. -/
namespace Go.Proofs.Ytfdpoibmlggfbaa.PRemoveW
open Go.ChangeShapes Go.WideShapes Go.ChangeAt Go.RowKit LexPure Bytes Ret Rows1 FieldsPure Flds R7Get KeptRow PWithout PAlike PValsW Mem Go.Shelf
set_option maxRecDepth 20000
set_option maxHeartbeats 1600000 in
theorem premove1_any (a b nm : ByteArray) (ha : a.size ≤ maxLen) (bx : Nat) (w : World) (hx : w.cell? ⟨bx, 0, none⟩ = some (.string nm)) :
    Calls Try.prog 77 #[.agg #[.string a, .string b], .pointer (some ⟨bx, 0, none⟩)] w fun e w' => e = .returned (.bool (alike (toL a) (toL nm))) ∧ Below w.heap.size w w' := by
  have hbx := World.block_lt_of_cell? _ _ hx
  have HA := Lib.hid (fun w => palike_any a nm ha w)
  go_enter Try.func77, Try.ntmps77
  go_wp2_with fail
  refine (HA.out _).mono ?_
  rintro e w2 ⟨rfl, hb2⟩
  have HB := Lib.hid (below_chain ((Below.refl w.heap.size w).alloc (Nat.le_refl _) (.cells #[.string a, .string b] 54)) hb2)
  clear hb2 hx
  go_wp2_with fail
  go_ret
  exact ⟨rfl, HB.out⟩
set_option maxHeartbeats 1600000 in
theorem premove_any (v : Value) (G : List HField) (n : ByteArray) (hG : Wide G) (hle2 : G.length ≤ 4398046511103) (w : World) (hF : FL w v G) :
    Calls Try.prog 75 #[v, .string n] w fun e w' => ∃ v', e = .returned v' ∧ w'.ownsRow w.heap.size 54 2 v' (remove G (toL n)).length (encFs (remove G (toL n))) ∧ Below w.heap.size w w' := by
  have hx := (Has.new w 9 #[.string n]).cell 0
  have hb := (Below.refl w.heap.size w).alloc (Nat.le_refl _) (.cells #[.string n] 9)
  have hsz : w.heap.size < (w.alloc (.cells #[.string n] 9)).heap.size := by simp
  have HW := Lib.hid (pwithout_any 77 w.heap.size (enters_of Try.func77 (by kernel_rfl) rfl) (hit (toL n)) v G (by omega) (w.alloc (.cells #[.string n] 9)) (hF.below hb) (fun j hj W hW => by
    have h := premove1_any (ofL G[j].1) (ofL G[j].2) n (by rw [ofL_size]; unfold maxLen; have := (hG j hj).1; omega) w.heap.size W ((hW.cell (p := ⟨w.heap.size, 0, none⟩) hsz).trans hx)
    rw [toL_ofL] at h
    exact h))
  obtain ⟨p, cap, rfl, _, _⟩ := hF
  have HB := Lib.hid hb
  clear hx hb hsz hG
  go_enter Try.func75, Try.ntmps75
  go_wp2_with fail
  refine HW.out.mono ?_
  rintro e w2 ⟨v2, rfl, hrow, hb2⟩
  have HR : Hid (w2.ownsRow w.heap.size 54 2 v2 (remove G (toL n)).length (encFs (remove G (toL n))) ∧ Below w.heap.size w w2) := Lib.hid ⟨row_mono hrow HB.out.size, below_chain HB.out hb2⟩
  clear hrow hb2 HW HB
  go_wp2_with fail
  go_ret
  exact ⟨_, rfl, HR.out⟩
end Go.Proofs.Ytfdpoibmlggfbaa.PRemoveW

/- Layer 7 of the program, for lists of any size: Set. -/
namespace Go.Proofs.Ytfdpoibmlggfbaa.PSetW
open Go.ChangeShapes Go.WideShapes Go.ChangeAt Go.RowKit LexPure Bytes Ret Rows1 FieldsPure Flds R7Get KeptRow PRemoveW PValsW Mem
set_option maxRecDepth 20000
set_option maxHeartbeats 1600000 in
theorem pset_any (v : Value) (G : List HField) (n x : ByteArray) (hG : Wide G) (hle2 : G.length ≤ 4398046511103) (w : World) (hF : FL w v G) :
    Calls Try.prog 74 #[v, .string n, .string x] w fun e w' => ∃ v', e = .returned v' ∧ w'.ownsRow w.heap.size 54 2 v' (setF G (toL n) (toL x)).length (encFs (setF G (toL n) (toL x))) ∧ Below w.heap.size w w' := by
  obtain ⟨i0, hi, hz0, hz1, hz2⟩ := info_parts infoF
  have HR := Lib.hid (premove_any v G n hG hle2 w hF)
  have hlen : (remove G (toL n)).length ≤ G.length := by unfold remove; exact List.length_filter_le _ _
  have HX : Hid (encFs (setF G (toL n) (toL x)) = encFs (remove G (toL n)) ++ encF (toL n, toL x)) := Lib.hid (by unfold setF; rw [encFs_append]; rfl)
  have HL : Hid ((setF G (toL n) (toL x)).length = (remove G (toL n)).length + 1) := Lib.hid (by unfold setF; simp)
  obtain ⟨p, cap, rfl, _, _⟩ := hF
  clear hG
  go_enter Try.func74, Try.ntmps74
  go_wp2_with fail
  refine HR.out.mono ?_
  rintro e w2 ⟨v2, rfl, hrow2, hb2⟩
  have hrow := row_below hrow2 ((Below.refl w2.heap.size w2).alloc (Nat.le_refl _) (.cells #[.string n, .string x] 54))
  have HB := Lib.hid (hb2.alloc hb2.size (.cells #[.string n, .string x] 54))
  have HLT := Lib.hid (fun j (hj : v2.ownBlock = some j) => (hrow2.lt j hj).1)
  have HN := Lib.hid (World.news_of_block (heap_alloc_new w2 (.cells #[.string n, .string x] 54)))
  clear hrow2 hb2 HR
  go_wp2_with (at_builtin; refine wpList_append_own_at _ rfl _ _ 32 rfl w.heap.size 54 i0 _ 2 32 Try.underlying32 hi hz0 hz1 hz2 rfl (by omega) _ _ _ rfl hrow ⟨w2.heap.size, 0, none⟩ 1 1 [.string n, .string x] rfl rfl HN.out (by simp [Value.oneCell']) (by simp only [maxLen]; omega) (by omega) HB.out.size ?_; intro v4 w4 hown4 hg4 _ hat4)
  have HE : Hid (w4.ownsRow w.heap.size 54 2 v4 (setF G (toL n) (toL x)).length (encFs (setF G (toL n) (toL x))) ∧ Below w.heap.size w w4) := Lib.hid (by
    rw [HX.out, HL.out]
    unfold encF
    rw [ofL_toL, ofL_toL]
    exact ⟨hown4, Below.grown HB.out hg4 HB.out.size HLT.out⟩)
  clear hown4 hg4 hat4 hrow
  go_wp2_with fail
  go_ret
  exact ⟨_, rfl, HE.out⟩
end Go.Proofs.Ytfdpoibmlggfbaa.PSetW

/- Layer 16 of the program: what filters say: letting a request pass as it is, and the reply. -/
namespace Go.Proofs.Ytfdpoibmlggfbaa.FiltObj
open Go.ChangeShapes Go.WideShapes Go.ChangeAt Go.RowKit Bytes FRow ConfPure ConfMem FieldsPure Flds FilterPure FiltState FiltKeep BucketPure BucketObj Mem Step
set_option maxRecDepth 20000
set_option linter.unusedVariables false
set_option linter.unusedSimpArgs false
abbrev zV16 : Array Value := #[.bool false, .int .i64 0, .slice none 0 0, .string ⟨#[]⟩, .slice none 0 0]
theorem pcommon_forth (x : Filt) (p : Value) (w : World) :
    Calls Try.prog 72 #[.agg (cf x), p] w fun e w' => e = .returned (.agg zV16) ∧ Below w.heap.size w w' := by
  unfold cf
  have hb0 := ((Below.refl w.heap.size w).alloc (Nat.le_refl _) (.cells #[.int .i64 x.kind, .string (ofL x.name), .string (ofL x.value), .int .i64 x.n, .int .i64 x.m, .int .i64 x.k] 96))
  have HB1 := Lib.hid (hb0.alloc hb0.size (.cells zV16 38))
  clear hb0
  go_enter Try.func72, Try.ntmps72
  go_wp2_with fail
  refine bodyPost_ret (v := .agg zV16) (by simp [results, Try.results72, go_sem]) rfl ⟨rfl, HB1.out⟩
theorem preply (x : Filt) (st : Int) (body : ByteArray) (p : Option Addr) (n c : Nat) (w : World) :
    Calls Try.prog 84 #[.agg (cf x), .int .i64 st, .string body, .slice p n c] w fun e w' => e = .returned (.agg #[.bool true, .int .i64 st, .slice p n c, .string body, .slice none 0 0]) ∧ Below w.heap.size w w' := by
  unfold cf
  have hb0 := ((Below.refl w.heap.size w).alloc (Nat.le_refl _) (.cells #[.int .i64 x.kind, .string (ofL x.name), .string (ofL x.value), .int .i64 x.n, .int .i64 x.m, .int .i64 x.k] 96))
  have HB1 := Lib.hid (hb0.alloc hb0.size (.cells #[.bool true, .int .i64 st, .slice p n c, .string body, .slice none 0 0] 38))
  clear hb0
  go_enter Try.func84, Try.ntmps84
  go_wp2_with fail
  refine bodyPost_ret (v := .agg #[.bool true, .int .i64 st, .slice p n c, .string body, .slice none 0 0]) (by simp [results, Try.results84, go_sem]) rfl ⟨rfl, HB1.out⟩
theorem wide_of {G : List HField} (h : FewM G) : PValsW.Wide G := fun j hj => by
  have := h G[j] (List.getElem_mem _)
  omega
theorem lst_nil (w : World) (base : Nat) : Lst w base (.slice none 0 0) [] := World.ownsRow_nil _ _ _ _
theorem fl_drew {w : World} {v : Value} {G : List HField} (h : FL w v G) : FL w.drew v G := h
/-- what says nothing -/
theorem fwd_none {base : Nat} {f : Filt} {rb b dg : Nat} {now : Int} {method : ByteArray} {size : Int} {bk : B} {d : Int} {G : List HField} {W W' : World} {fv : Value} (hv : one16 dv16 f bk d now (toL method) G size = none16)
    (hR : Has W' rb 84 (reqA now method fv size)) (hL : Lst W' base fv (fld16 f G)) (hs : Step W W' (Tn f rb b dg) (Tn f rb b dg)) (h3 : f.kind = 3 → Bk W' b 124 (bkt16 f bk now)) (h7 : f.kind = 7 → ∃ dk, Has W' dg 94 #[.int .u64 (dce16 dn16 f d), .int .i64 dk]) :
    FwdC base f rb b dg now method size bk d G W (.returned (.agg zV16)) W' := by
  refine ⟨.slice none 0 0, fv, ?_, ?_, fun _ => ⟨hR, hL⟩, hs, h3, h7⟩
  · rw [hv]; rfl
  · rw [hv]; exact lst_nil _ _
theorem step_new {W w : World} {F : Nat → Prop} (h : Step W w F F) {r : Nat} (cs : Array Value) (hr : W.heap.size ≤ r) : Step W (w.setRow r cs) F F :=
  ⟨h.os, h.tape, h.output, by simpa using h.size, fun k hk hn => (setRow_other w r k _ (by omega)).trans (h.block k hk hn), fun _ h => .inl h⟩
theorem has_other {w : World} {g r : Nat} {t : TypeId} {cs : Array Value} (h : Has w g t cs) (x : Array Value) (hne : g ≠ r) : Has (w.setRow r x) g t cs := ⟨(setRow_other w r g _ hne).trans h.at_⟩
theorem set_step {W w : World} {F : Nat → Prop} (h : Step W w F F) {g : Nat} (hg : F g) (i : Nat) (u : Value) : Step W (w.setCell ⟨g, i, none⟩ u) F F := h.trans (Step.set_ w hg i u)
/-- the end of a filter that has set the fields -/
theorem fwd_set_end {base : Nat} {f : Filt} {rb b dg : Nat} {now : Int} {method : ByteArray} {size : Int} {bk : B} {d : Int} {G : List HField} {W w3 : World} {v0 v : Value} {b3 : Nat} (hV : one16 dv16 f bk d now (toL method) G size = none16)
    (hrow : Lst w3 b3 v (fld16 f G)) (hb3 : W.heap.size + 2 ≤ b3) (hbase : base ≤ W.heap.size) (hrb : rb < W.heap.size) (R3 : Has w3 rb 84 (reqA now method v0 size)) (B3 : Below W.heap.size W w3) (h3 : ¬ f.kind = 3) (h7 : ¬ f.kind = 7) :
    FwdC base f rb b dg now method size bk d G W (.returned (.agg zV16)) ((w3.setCell ⟨rb, 2, none⟩ v).setRow (W.heap.size + 1) zV16) := by
  have e1 : (reqA now method v0 size).setIfInBounds 2 v = reqA now method v size := rfl
  have s1 : Step w3 ((w3.setCell ⟨rb, 2, none⟩ v).setRow (W.heap.size + 1) zV16) (fun k => k = rb ∨ k = W.heap.size + 1) (fun k => k = rb ∨ k = W.heap.size + 1) := (Step.set_ w3 (.inl rfl) 2 v).trans (step_set _ (.inr rfl))
  refine fwd_none (fv := v) hV ?_ ?_ ?_ (fun e => absurd e h3) (fun e => absurd e h7)
  · have := has_other (R3.set_ 2 v) zV16 (show rb ≠ W.heap.size + 1 by omega)
    rwa [e1] at this
  · refine RowKeep.row_mono (s1.row hrow (fun q hq => ?_)) (show base ≤ b3 by omega)
    have := (hrow.lt q hq).1
    omega
  · exact step_new (set_step (Step.of_below B3 _) (.inl rfl) 2 v) _ (by omega)
/-- the end of a filter that replies -/
theorem fwd_stop {base : Nat} {f : Filt} {rb b dg : Nat} {now : Int} {method : ByteArray} {size : Int} {bk : B} {d : Int} {G : List HField} {W W' : World} {st : Int} {fs : List HField} {bd : List UInt8} {fl : Value} (hV : one16 dv16 f bk d now (toL method) G size = say16 st fs bd)
    (hl : Lst W' base fl fs) (hs : Step W W' (Tn f rb b dg) (Tn f rb b dg)) (h3 : f.kind = 3 → Bk W' b 124 (bkt16 f bk now)) (h7 : f.kind = 7 → ∃ dk, Has W' dg 94 #[.int .u64 (dce16 dn16 f d), .int .i64 dk]) :
    FwdC base f rb b dg now method size bk d G W (.returned (.agg #[.bool true, .int .i64 st, fl, .string (ofL bd), .slice none 0 0])) W' := by
  refine ⟨fl, .slice none 0 0, ?_, ?_, fun h => ?_, hs, h3, h7⟩
  · rw [hV]; rfl
  · rw [hV]; exact hl
  · rw [hV] at h; cases h
theorem lst_new {w : World} {base : Nat} (G : List HField) (hle : G.length ≤ 1000) (cells : Array Value) (hc : cells.toList = encFs G) (hb : base ≤ w.heap.size) : Lst (w.alloc (.cells cells 54)) base (.slice (some ⟨w.heap.size, 0, none⟩) G.length G.length) G := by
  have h0 := (Has.new w 54 cells).at_
  have h1 : cells.size = G.length * 2 := by rw [← Array.length_toList, hc, encFs_len]
  exact ⟨encFs_len G, .inr ⟨w.heap.size, G.length, cells, rfl, hb, h0, Nat.le_refl _, by unfold maxLen; omega, h1, by rw [hc]; exact List.take_of_length_le (by rw [encFs_len]; omega)⟩⟩
end Go.Proofs.Ytfdpoibmlggfbaa.FiltObj
