/- Texts of this seat, one behind another: PNext11, InflowObj. -/

import Derived.Test.YtmlpdhmafmdkcaaGreatDoorA14
import Derived.Test.YtmlpdhmafmdkcaaGreatDoorA4
import Derived.Test.YtmlpdhmafmdkcaaGreatDoorA3
/- Layer 11 of the program: Next. -/
namespace Go.Proofs.YtmlpdhmafmdkcaaGreatDoor.InflowObj
open Go.ChangeShapes Go.WideShapes Go.ChangeAt Go.RowKit LexPure Bytes Ret FieldsPure Flds HeadPure HBox FramePure ChunkPure InflowPure InJudge QCell KeptRow PStat11 PJudge PUnder POpen11 PBody11 Mem Step InEmb InObj PText11 PUse11
set_option maxRecDepth 100000
set_option linter.unusedVariables false
set_option linter.unusedSimpArgs false
theorem pnext11 (F : Nat → Prop) (g : Nat) (most : Int) (D : List UInt8) (st : Int) (hs : D.length ≤ 1073741824) (hr : ChObj.InR most) (w : World) (h : Rdr w F g most D st) (hm : MaxInt w) (hn : ¬ F MAXB) :
    Calls Tryz.prog 12 #[.pointer (some ⟨g, 0, none⟩)] w fun e w' => NextR w w' e F g most D (nx most D st) := by
  obtain ⟨R, T, U, E, op, h1, h2, h3, h4, h5, h6⟩ := h.is
  have hTl : T.length ≤ 4294967296 := by
    have : T.length ≤ U + D.length := by rw [← h2, List.length_drop]; omega
    omega
  have hDl : D.length ≤ 4294967296 := by omega
  have hs0 : Step w (w.alloc (.cells zq RQT)) (fun _ => False) (fun _ => False) := Step.alloc w _ _
  have hnb : ∀ k, F k → k ≠ w.heap.size := fun k hk e => by have := h.lt k hk; omega
  cases op with
  | none =>
    have hN : NS w (w.alloc (.cells zq RQT)) F R (fun _ => False) g most T U E none st D := ⟨h1.step hs0 (fun _ _ x => x), h2, h3, h4, fun h hh => (by cases hh), fun k hk => hk.elim, fun k hk => hk.elim, (Step.alloc w _ F).less (fun k hk => hk.elim (h5 k) (fun x => x.elim)), Has.new _ _ _, fun x => hnb _ (h5 _ x) rfl, fun x => x⟩
    by_cases hst : st ≠ 0
    · exact pnextA hN hst
    · have : st = 0 := Classical.not_not.1 hst
      subst this
      exact pnextB hN (fun _ x => x) h5 hTl hDl hr hm hn
  | some hh =>
    obtain ⟨q0, O, q1, q2⟩ := h6 hh rfl
    subst q0
    exact pnextC ⟨h1.step hs0 (fun _ _ x => x), h2, h3, h4, fun h hh2 => (by cases hh2; exact q1.step hs0 (fun _ _ x => x)), fun k hk => (q2 k hk).2, fun k hk => Nat.lt_of_lt_of_le (q1.lt k hk) hs0.size, (Step.alloc w _ F).less (fun k hk => hk.elim (h5 k) (fun x => (q2 k x).1)), Has.new _ _ _, fun x => hnb _ (h5 _ x) rfl, fun x => hnb _ (q2 _ x).1 rfl⟩ h5 hTl hDl
end Go.Proofs.YtmlpdhmafmdkcaaGreatDoor.InflowObj

/- Layer 11 of the program: its calls, as the laws use them. -/
namespace Go.Proofs.YtmlpdhmafmdkcaaGreatDoor.InflowObj
open Go.ChangeShapes Go.WideShapes Go.ChangeAt Go.RowKit Bytes FieldsPure HeadPure InflowPure QCell KeptRow PUnder POpen11 Mem Step InObj
/-- behind a law's start: what Next asks of the world -/
theorem max_below {w W : World} {F : Nat → Prop} (hm : MaxInt w) (hb : Below w.heap.size w W) (hlo : ∀ k, F k → w.heap.size ≤ k) : MaxInt W ∧ ¬ F MAXB := by
  refine ⟨hm.below hb, fun x => ?_⟩
  obtain ⟨m, hc⟩ := hm
  have h1 := World.block_lt_of_cell? _ _ hc
  have h2 := hlo _ x
  exact absurd h1 (Nat.not_lt.2 h2)
theorem pnextL (F : Nat → Prop) (g : Nat) (most : Int) (D : List UInt8) (st : Int) (hs : D.length ≤ 1073741824) (hr : ChObj.InR most) {w : World} (hm : MaxInt w) (W : World) (hb : Below w.heap.size w W) (hlo : ∀ k, F k → w.heap.size ≤ k) (h : Rdr W F g most D st) :
    Calls Tryz.prog 12 #[.pointer (some ⟨g, 0, none⟩)] W fun e w' =>
      ∃ l F', e = .returned (.tuple #[.agg (qcl (outR (nx most D st)).1 l), .bool (outR (nx most D st)).2.1, .int .i64 (outR (nx most D st)).2.2]) ∧ RowF w' 0 l (outR (nx most D st)).1.head.fields ∧ (∀ b, l.ownBlock = some b → ¬ F' b) ∧ Rdr w' F' g most (leftR D (nx most D st)) (stR (nx most D st)) ∧ Step W w' F F' := by
  obtain ⟨h1, h2⟩ := max_below hm hb hlo
  exact (pnext11 F g most D st hs hr W h h1 h2).mono (fun e w' ⟨l, F', a, b, c, d, e⟩ => ⟨l, F', a, b, fun j hj => (c j hj).2, d, e⟩)
end Go.Proofs.YtmlpdhmafmdkcaaGreatDoor.InflowObj
