/- Words for memory, of my own: an object that holds several blocks (F: which), and a world in which only these, and what is new, have turned. No program is named. -/
import Derived.Test.YtlgohmghjffiaaaDoorMem
import Derived.Laws.AppendOwn
import Derived.Maps.OwnSet
namespace Go.Proofs.YtlgohmghjffiaaaDoor.Step
open Go.RowKit Mem

/-- w' is w but for the blocks of F and new ones; F' is F and perhaps some of the new ones -/
structure Step (w w' : World) (F F' : Nat → Prop) : Prop where
  os : w'.os = w.os
  tape : w'.tape = w.tape
  output : w'.output = w.output
  size : w.heap.size ≤ w'.heap.size
  block : ∀ k, k < w.heap.size → ¬ F k → w'.heap[k]? = w.heap[k]?
  grow : ∀ k, F' k → F k ∨ (w.heap.size ≤ k ∧ k < w'.heap.size)

section
variable {w w1 w2 w' : World} {F F1 F2 F' : Nat → Prop}
theorem Step.refl (w : World) (F : Nat → Prop) : Step w w F F := ⟨rfl, rfl, rfl, Nat.le_refl _, fun _ _ _ => rfl, fun _ h => .inl h⟩
theorem Step.trans (h : Step w w1 F F1) (k : Step w1 w2 F1 F2) : Step w w2 F F2 :=
  ⟨k.os.trans h.os, k.tape.trans h.tape, k.output.trans h.output, Nat.le_trans h.size k.size,
    fun i hi hn => (k.block i (Nat.lt_of_lt_of_le hi h.size) (fun hf => (h.grow i hf).elim hn (fun ⟨a, _⟩ => by omega))).trans (h.block i hi hn),
    fun i hi => (k.grow i hi).elim (fun hf => (h.grow i hf).elim .inl (fun ⟨a, b⟩ => .inr ⟨a, Nat.lt_of_lt_of_le b k.size⟩)) (fun ⟨a, b⟩ => .inr ⟨Nat.le_trans h.size a, b⟩)⟩
/-- a wider F -/
theorem Step.widen (h : Step w w' F F') {G : Nat → Prop} (hG : ∀ k, F k → G k) : Step w w' G (fun k => F' k ∨ G k) :=
  ⟨h.os, h.tape, h.output, h.size, fun k hk hn => h.block k hk (fun hf => hn (hG k hf)), fun k hk => hk.elim (fun hf => (h.grow k hf).imp (hG k) id) .inl⟩
theorem Step.less (h : Step w w' F F') {G : Nat → Prop} (hG : ∀ k, G k → F' k) : Step w w' F G := { h with grow := fun k hk => h.grow k (hG k hk) }
theorem Step.regrow (h : Step w w' F F') {G : Nat → Prop} (hG : ∀ k, G k → F k ∨ (w.heap.size ≤ k ∧ k < w'.heap.size)) : Step w w' F G := { h with grow := hG }
theorem Step.more (h : Step w w' F F') {G : Nat → Prop} (hG : ∀ k, F k → G k) (hG' : ∀ k, F' k → G k ∨ (w.heap.size ≤ k ∧ k < w'.heap.size)) : Step w w' G F' :=
  ⟨h.os, h.tape, h.output, h.size, fun k hk hn => h.block k hk (fun hf => hn (hG k hf)), hG'⟩
theorem Step.up (h : Step w w' F F') {G : Nat → Prop} (hG : ∀ k, F k → G k) : Step w w' G G :=
  ⟨h.os, h.tape, h.output, h.size, fun k hk hn => h.block k hk (fun hf => hn (hG k hf)), fun _ hk => .inl hk⟩
theorem Step.up2 (h : Step w w' F F') {G : Nat → Prop} (hG : ∀ k, F k → G k) : Step w w' G F' :=
  ⟨h.os, h.tape, h.output, h.size, fun k hk hn => h.block k hk (fun hf => hn (hG k hf)), fun k hk => (h.grow k hk).imp (hG k) id⟩
theorem Step.beyond (h : Step w w1 F F') {G G' : Nat → Prop} (k : Step w1 w2 G G') (hG : ∀ j, G j → w.heap.size ≤ j) : Step w w2 F F' :=
  ⟨k.os.trans h.os, k.tape.trans h.tape, k.output.trans h.output, Nat.le_trans h.size k.size,
    fun i hi hn => (k.block i (Nat.lt_of_lt_of_le hi h.size) (fun hg => by have := hG i hg; omega)).trans (h.block i hi hn),
    fun i hi => (h.grow i hi).imp id (fun ⟨a, b⟩ => ⟨a, Nat.lt_of_lt_of_le b k.size⟩)⟩
theorem Step.of_grown {row : Option Nat} (h : w.grownBy w' row) (hF : ∀ k, row = some k → F k) : Step w w' F F :=
  ⟨h.os, h.tape, h.output, h.size, fun k hk hn => h.block k hk (fun e => hn (hF k e.symm)), fun _ h => .inl h⟩
theorem Step.alloc (w : World) (o : Obj) (F : Nat → Prop) : Step w (w.alloc o) F F := Step.of_grown (World.grownBy_alloc w o none) (fun _ e => by cases e)
theorem Step.drew (w : World) (F : Nat → Prop) : Step w w.drew F F := ⟨rfl, rfl, rfl, Nat.le_refl _, fun _ _ _ => rfl, fun _ h => .inl h⟩
theorem Step.drewN (w : World) (n : Nat) (F : Nat → Prop) : Step w (w.drewN n) F F := ⟨rfl, rfl, rfl, Nat.le_refl _, fun _ _ _ => rfl, fun _ h => .inl h⟩
theorem Step.set_ (w : World) {g : Nat} (hg : F g) (i : Nat) (u : Value) : Step w (w.setCell ⟨g, i, none⟩ u) F F :=
  ⟨rfl, rfl, rfl, by simp [World.setCell], fun k _ hn => Below.heap_setCell w _ u k (fun e => hn (by rw [e]; exact hg)), fun _ h => .inl h⟩
theorem Step.of_below (h : Below w.heap.size w w') (F : Nat → Prop) : Step w w' F F := ⟨h.os, h.tape, h.output, h.size, fun k hk _ => h.block k hk, fun _ h => .inl h⟩
theorem Step.cell (h : Step w w' F F') {b i : Nat} (hb : b < w.heap.size) (hn : ¬ F b) : w'.cell? ⟨b, i, none⟩ = w.cell? ⟨b, i, none⟩ :=
  World.cell?_of_block (w := w) (h.block b hb hn)
theorem Step.has {g : Nat} {t : TypeId} {cs : Array Value} (h : Step w w' F F') (hh : Has w g t cs) (hn : ¬ F g) : Has w' g t cs := ⟨(h.block g hh.lt hn).trans hh.at_⟩
theorem Step.row {base n size : Nat} {e : TypeId} {v : Value} {xs : List Value} (h : Step w w' F F') (hr : w.ownsRow base e size v n xs) (hn : ∀ b, v.ownBlock = some b → ¬ F b) : w'.ownsRow base e size v n xs := by
  refine ⟨hr.1, ?_⟩
  rcases hr.2 with hx | ⟨g, cap, cur, rfl, hb, hgg, rest⟩
  · exact .inl hx
  · refine .inr ⟨g, cap, cur, rfl, hb, ?_, rest⟩
    rw [h.block g (Array.getElem?_eq_some_iff.1 hgg).1 (hn g rfl)]
    exact hgg
theorem Step.map {H : Type} {P : Program} {k : TypeId} {R : Value → Option (DataW H × List MemPlace)} {b n : Nat} {D : DataW H} (h : Step w w' F F') (hm : w.ownsMap P k R b n D) (hn : ¬ F b) : w'.ownsMap P k R b n D := by
  have hlt := hm.lt
  obtain ⟨es, clock, hb, rest⟩ := hm
  exact ⟨es, clock, (h.block b hlt hn).trans hb, rest⟩
theorem Step.below (h : Step w w' F F') {B : Nat} (hB : B ≤ w.heap.size) (hF : ∀ k, F k → B ≤ k) : Below B w w' :=
  ⟨h.os, h.tape, h.output, Nat.le_trans hB h.size |> fun _ => h.size, fun k hk => h.block k (by omega) (fun hf => by have := hF k hf; omega)⟩
end

/-- F, and one block more -/
def plus (F : Nat → Prop) (m : Nat) : Nat → Prop := fun k => F k ∨ k = m
theorem Step.with_ {w w' : World} {F F' : Nat → Prop} (h : Step w w' F F') (m : Nat) : Step w w' (plus F m) (plus F' m) :=
  ⟨h.os, h.tape, h.output, h.size, fun k hk hn => h.block k hk (fun hf => hn (.inl hf)), fun k hk => hk.elim (fun hf => (h.grow k hf).imp .inl id) (fun e => .inl (.inr e))⟩
theorem Step.with2 {w w' : World} {F F' : Nat → Prop} {m : Nat} (h : Step w w' (plus F m) F') : Step w w' (plus F m) (plus F' m) :=
  h.regrow (fun k hk => hk.elim (h.grow k) (fun e => .inl (.inr e)))
theorem Step.only {w w' : World} {G : Nat → Prop} (h : Step w w' G G) (F : Nat → Prop) {m : Nat} (hG : ∀ k, G k → k = m) : Step w w' (plus F m) (plus F m) := h.up (fun k hk => .inr (hG k hk))
theorem Step.none {w w' : World} {G : Nat → Prop} (h : Step w w' G G) (F : Nat → Prop) (hG : ∀ k, ¬ G k) : Step w w' F F := h.up (fun k hk => (hG k hk).elim)
theorem new_cell {W : World} {cs : Array Value} {t : TypeId} {n : Nat} (h : W.heap.size = n) (i : Nat) : (W.alloc (.cells cs t)).cell? ⟨n, i, none⟩ = cs[i]? := by
  subst h
  exact (Has.new W t cs).cell i
theorem row_lt {w : World} {base n size : Nat} {e : TypeId} {v : Value} {xs : List Value} (hr : w.ownsRow base e size v n xs) {b : Nat} (h : v.ownBlock = some b) : b < w.heap.size := (hr.lt b h).2
end Go.Proofs.YtlgohmghjffiaaaDoor.Step
