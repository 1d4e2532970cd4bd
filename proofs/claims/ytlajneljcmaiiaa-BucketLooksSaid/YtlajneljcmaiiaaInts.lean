/- How a list of integers that came in lies in memory. -/
import Derived.Test.YtlajneljcmaiiaaLawBase
import Derived.Test.YtlajneljcmaiiaaRead
namespace Go.Proofs.Ytlajneljcmaiiaa.IntsP
open Go.ChangeShapes Go.WideShapes Go.ChangeAt Go.RowKit Rdg

/-- numbers asked for lie where the list points -/
def Ints (w : World) (A : Option Addr) (n : Nat) : Prop :=
  0 < n → ∃ b o : Nat, A = some ⟨b, o, none⟩ ∧ b < w.heap.size ∧ ∀ i, i < n → ∃ x : Int, w.cell? ⟨b, o + i, none⟩ = some (.int .i64 x) ∧ -9223372036854775808 ≤ x ∧ x ≤ 9223372036854775807
theorem ints_read {H : Type} {enc : TypeId × Value → H} {w : World} {base : Nat} {v : Value} {d : DataW H} {p : List MemPlace} (hv : Value.okWide Try.prog w .any base 44 v) (h : DataW.Trod enc Try.prog w 0 (fun _ => true) true 44 v d p) :
    ∃ A n c, v = .slice A n c ∧ n ≤ maxLen ∧ Ints w A n := by
  have hC : Try.prog.cellsOf 3 = 1 := by kernel_rfl
  obtain ⟨A, n, c, rfl⟩ := okWide_slice Try.underlying44 hv
  obtain ⟨A', n', c', D, S, h1, h2, h3, h4, h5⟩ := (rd_of h).slice Try.underlying44 (by rw [hC]; decide)
  simp only [Value.cells, List.cons.injEq, and_true, Value.slice.injEq] at h1
  obtain ⟨rfl, rfl, rfl⟩ := h1
  refine ⟨_, _, _, rfl, Nat.le_trans h2 h3, fun hn => ?_⟩
  obtain ⟨b, o, rfl, hb, h5⟩ := h5 hn
  refine ⟨b, o, rfl, hb, fun i hi => ?_⟩
  obtain ⟨xs, di, _, hl, hc, hr⟩ := h5 i hi
  obtain ⟨x, e0, _, wx⟩ := hr.int Try.underlying3
  subst e0
  have c0 := hc 0 _ rfl
  rw [hC] at c0
  exact ⟨x, by simpa using c0, (bounds_i64 wx).1, (bounds_i64 wx).2⟩
theorem Ints.below {w w' : World} {A : Option Addr} {n : Nat} (h : Ints w A n) (hb : Below w.heap.size w w') : Ints w' A n := fun hn => by
  obtain ⟨b, o, e, hlt, hc⟩ := h hn
  exact ⟨b, o, e, Nat.lt_of_lt_of_le hlt hb.size, fun i hi => by
    obtain ⟨x, hx, h1⟩ := hc i hi
    exact ⟨x, (hb.cell (p := ⟨b, o + i, none⟩) hlt).trans hx, h1⟩⟩
end Go.Proofs.Ytlajneljcmaiiaa.IntsP
