/- What the listed table math/bits.deBruijn64tab holds at its place 15. -/
import Derived.Test.YtlgohmghjffiaaaDoorPHexF
import Derived.Test.YtlgohmghjffiaaaDoorRows
import Derived.MakeChecks
import Derived.LaidSub
import Derived.Deep.Slices
namespace Go.Proofs.YtlgohmghjffiaaaDoor.TabLaid
open Go.ChangeShapes Go.WideShapes Go.ChangeAt Go.RowKit Go.Deep PHexF
set_option maxRecDepth 100000
theorem tab_of_laid {W : World} (h0 : laidMetH Tryd.prog Rows.chunkBackRow.laid W) : Tab W := by
  have h := laidMetH.filter (fun x => x.1 == "math/bits.deBruijn64tab") h0
  rw [show Rows.chunkBackRow.laid.filter (fun x => x.1 == "math/bits.deBruijn64tab") = [("math/bits.deBruijn64tab", Rows.laid_math_bits_deBruijn64tab)] from rfl] at h
  rw [MakeChecks.laidMetH_plain _ _ _ (by kernel_rfl)] at h
  obtain ⟨ps, ⟨g, t, cs, fuel, p, q, hg, ht, hv, hd, _, _⟩, _, _⟩ := h
  obtain rfl := Option.some.inj ((show Tryd.prog.globalNamed "math/bits.deBruijn64tab" = some 2 by kernel_rfl).symm.trans hg)
  obtain rfl := Option.some.inj ((show (Tryd.prog.globals[2]?).map (·.type) = some 94 by kernel_rfl).symm.trans ht)
  obtain ⟨xs, m, _, ex, _, hl, hel⟩ := DataW.trod_array Tryd.underlying94 hd
  have c5 : Tryd.prog.cellsOf 5 = 1 := by kernel_rfl
  have hE := hel 15 (by decide)
  rw [c5, Nat.mul_one, List.getElem?_eq_getElem (by omega)] at hE
  obtain ⟨z, e1, e2, _⟩ := DataW.trod_int Tryd.underlying5 hE
  have e4 : (xs.map (·.1))[15]? = some (.lit (.int .u8 4)) := by
    have e3 := (Prod.mk.inj ex).1
    have e5 := (DataW.agg.inj e3).symm
    rw [e5]
    rfl
  rw [List.getElem?_map, List.getElem?_eq_getElem (by omega : 15 < xs.length), e2] at e4
  have hz : z = 4 := by
    simp only [Option.map_some, Option.some.injEq, DataW.lit.injEq, Lit.int.injEq, true_and] at e4
    exact e4
  unfold Tab
  rw [World.var?_cell hg hv 15, ← hz]
  have : cs.toList[15]? = some (.int .u8 z) := by
    have h0 : ((cs.toList.drop 15).take 1)[0]? = some (.int .u8 z) := by rw [e1]; rfl
    simpa using h0
  simpa using this
end Go.Proofs.YtlgohmghjffiaaaDoor.TabLaid
