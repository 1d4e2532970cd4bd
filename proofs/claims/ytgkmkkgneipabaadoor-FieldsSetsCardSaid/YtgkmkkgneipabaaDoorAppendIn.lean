/- append of one row of the call's own onto another, at the operation, inside a fence: the source nil or not. No program is named. -/
import Derived.Test.YtgkmkkgneipabaaDoorAppendRow
import Derived.OwnWalkIn
import Derived.OrdersIn
import Derived.RangeFuncBox
import Derived.RangeFuncNested
namespace Go.Proofs.YtgkmkkgneipabaaDoor.AppendIn
open Go.RowKit
theorem run_append_row {P : Program} {w : World} (t ty : TypeId) (base : Nat) (e : TypeId) (i : TypeInfo) (z : Value) (size bytes : Nat) (ht : P.underlying t = some (.slice e)) (hi : P.info? e = some i) (hz : i.zero = some z)
    (hsize : i.size = size) (hby : i.bytes = bytes) (hzs : z.cells.size = size) (hsz : 0 < size)
    (v : Value) (n : Nat) (xs : List Value) (hown : w.ownsRow base e size v n xs)
    (y : Value) (base' m : Nat) (ys : List Value) (hrow : w.ownsRow base' e size y m ys) (h1 : ∀ u ∈ ys, u.oneCell' = true)
    (h63 : n + m ≤ maxLen) (hbytes : (n + m) * bytes ≤ 140737488355328) (hbase : base ≤ w.heap.size) :
    ∃ v' w', (Builtin.append_ #[t, t] ty #[v, y]).run P w = .ok v' w' ∧ w'.ownsRow base e size v' (n + m) (xs ++ ys) ∧ w.grownBy w' v.ownBlock := by
  rcases hrow.2 with ⟨rfl, rfl⟩ | ⟨g, cap, cur, rfl, _⟩
  · have hys : ys = [] := List.eq_nil_of_length_eq_zero (by simpa using hrow.1)
    subst hys
    exact ⟨v, w, run_append_owned_none (P := P) (w := w) base t ty e i size ht hi v n xs hown, by simpa using hown, World.grownBy.refl w _⟩
  · obtain ⟨v', w', hr, h2, h3, _, _⟩ := run_append_own_at (P := P) w base t ty e i z size bytes ht hi hz hsize hby hzs hsz v n xs hown ⟨g, 0, none⟩ m cap ys hrow.1 (hrow.cells rfl) h1 h63 hbytes hbase
    exact ⟨v', w', hr, h2, h3⟩
theorem wpIn_append_row {F : Fence} {nF : Nat} {P : Program} {w : World} {o : Oper} {a : Act} {K : Act → World → Prop} {Q : Exit → Act → World → Prop} (s x : Operand) (t : TypeId)
    (ho : o.op = .call { callee := .builtin .append, args := #[s, x], argTypes := #[t, t] })
    (base : Nat) (e : TypeId) (i : TypeInfo) (z : Value) (size bytes : Nat) (ht : P.underlying t = some (.slice e)) (hi : P.info? e = some i) (hz : i.zero = some z)
    (hsize : i.size = size) (hby : i.bytes = bytes) (hzs : z.cells.size = size) (hsz : 0 < size)
    (v : Value) (n : Nat) (xs : List Value) (hs : a.eval s = v) (hown : w.ownsRow base e size v n xs)
    (y : Value) (base' m : Nat) (ys : List Value) (hx : a.eval x = y) (hrow : w.ownsRow base' e size y m ys) (h1 : ∀ u ∈ ys, u.oneCell' = true)
    (h63 : n + m ≤ maxLen) (hbytes : (n + m) * bytes ≤ 140737488355328) (hbase : base ≤ w.heap.size)
    (h : ∀ v' w', w'.ownsRow base e size v' (n + m) (xs ++ ys) → w.grownBy w' v.ownBlock → K (a.put o.dst v') w') :
    o.wpIn F nF P a w K Q := by
  obtain ⟨v', w', hrun, r1, r2⟩ := run_append_row t o.type base e i z size bytes ht hi hz hsize hby hzs hsz v n xs hown y base' m ys hrow h1 h63 hbytes hbase
  unfold Oper.wpIn
  refine ⟨?_, ?_⟩
  · simp [Oper.about, ho, resolve, Target.leads, Sem.run_pure]
  · rw [Oper.semAt_plain F _ _ (by rw [ho]; intro c hc'; cases hc')]
    simp [execOp, ho, resolve, invoke, builtin, hs, hx, hrun, Result.andThen]
    exact h v' w' r1 r2
/-- behind 'out = append(out, f(..)...)', out in a box: all that the walk owes -/
theorem appended {W w1 w2 : World} {n₀ r0 B : Nat} {t e : TypeId} {size : Nat} {v v' : Value} {k m : Nat} {xs ys : List Value}
    (hv : Boxed W B t v) (hte : t ≠ e) (hrow : W.ownsRow r0 e size v k xs) (hn₀ : n₀ ≤ r0) (hr0 : r0 ≤ W.heap.size) (hB : n₀ ≤ B) (hb : Below W.heap.size W w1) (hrow1 : w1.ownsRow r0 e size v k xs)
    (hown' : w2.ownsRow r0 e size v' m ys) (hg : w1.grownBy w2 v.ownBlock) :
    Boxed w2 B t v ∧ Boxed (w2.setCell ⟨B, 0, none⟩ v') B t v' ∧ (w2.setCell ⟨B, 0, none⟩ v').ownsRow r0 e size v' m ys ∧ KeepsOthers W (w2.setCell ⟨B, 0, none⟩ v') ∧ Below n₀ W (w2.setCell ⟨B, 0, none⟩ v') ∧
      (∀ B' t' u, Boxed W B' t' u → B' < r0 → B' ≠ B → Boxed (w2.setCell ⟨B, 0, none⟩ v') B' t' u) := by
  have hgb : W.grownBy w1 none := ⟨hb.os, hb.tape, hb.output, hb.size, fun k hk _ => hb.block k hk⟩
  have hv0 : Boxed w1 B t v := hv.kept hgb (by simp)
  have hv1 : Boxed w2 B t v := hv0.kept hg (hv.not_row hte hrow)
  have hlt : ∀ j, v.ownBlock = some j → r0 ≤ j := fun j hj => (hrow.lt j hj).1
  refine ⟨hv1, hv1.set v', hown'.kept (grownBy_setCell' w2 B v') (.inr (hv1.not_row hte hown').symm), ?_, ?_, ?_⟩
  · refine ((KeepsOthers.of_grownBy hgb fun j o ej hj => (by cases ej)).trans (KeepsOthers.of_grownBy hg fun j o ej hj => ?_)).trans (KeepsOthers.setCell _ _ _)
    rcases hrow1.2 with ⟨rfl, _⟩ | ⟨g, cap, cur, rfl, _, hgb, _⟩
    · simp [Value.ownBlock] at ej
    · obtain rfl : g = j := by simpa [Value.ownBlock] using ej
      rw [hgb] at hj; cases hj; rfl
  · exact ((hb.mono (Nat.le_trans hn₀ hr0)).grown hg (Nat.le_trans (Nat.le_trans hn₀ hr0) hb.size) fun j ej => Nat.le_trans hn₀ (hlt j ej)).setCell (p := ⟨B, 0, none⟩) hB v'
  · intro B' t' u hu hB' hne
    exact ((hu.kept hgb (by simp)).kept hg (fun e => by have := hlt B' e.symm; omega)).other hne _
end Go.Proofs.YtgkmkkgneipabaaDoor.AppendIn
