/- Layer 2: the wheel in memory. -/
import Derived.Test.YtcobjejaflikjaaWheelPure
import Derived.Test.YtcobjejaflikjaaStep
import Derived.Deep.AppendLies
import Derived.Deep.DrawnRows
import Derived.Deep.RegionLaw
import Derived.OwnWalk
import Derived.Maps.AppendAt
import Derived.Maps.OwnSet
import Derived.Maps.OwnOps
import Derived.RegionTactic
import Derived.Deep.RegionHeld3
import Derived.WalkSpells
namespace Go.Proofs.Ytcobjejaflikjaa.WObj
open Go.RowKit WMath WPure Mem Step

theorem slotOf_any (now t g : Nat) (hn : now ≤ 1099511627776) (ht : t ≤ 1099511627776) (w : World) (h : w.cell? ⟨g, 0, none⟩ = some (.int .i64 now)) :
    Calls Try.prog 30 #[.pointer (some ⟨g, 0, none⟩), .int .i64 t] w fun e w' => e = .returned (.pointer (some ⟨g, 1 + slot now t, none⟩)) ∧ w = w' := by
  have l7 : ((lev now t : Nat) : Int) < 7 := by have := (lev_spec hn ht).1; omega
  have l64 : ((dig t (lev now t) : Nat) : Int) < 64 := by have := dig_lt t (lev now t); omega
  go_enter Try.func30, Try.ntmps30
  go_wp2_with fail
  refine (place_any now t hn ht w).mono ?_
  rintro e w' ⟨rfl, rfl⟩
  go_wp2_with fail
  go_ret
  refine ⟨?_, rfl⟩
  unfold slot
  rw [show 1 + (64 * lev now t + dig t (lev now t)) = 1 + lev now t * 64 + dig t (lev now t) by omega]
  rfl
abbrev Tm := Nat × Nat
def encT (t : Tm) : List Value := [.int .i64 t.1, .int .i64 t.2]
def encs (l : List Tm) : List Value := l.flatMap encT
theorem encs_append (l m : List Tm) : encs (l ++ m) = encs l ++ encs m := by simp [encs]
theorem encs_one (t : Tm) : encs [t] = encT t := by simp [encs]
theorem encs_len (l : List Tm) : (encs l).length = l.length * 2 := by
  induction l with
  | nil => rfl
  | cons t l ih => simp only [encs, List.flatMap_cons, List.length_append] at ih ⊢; rw [ih]; simp [encT]; omega
theorem infoT : (Try.prog.info? 42).map (fun i => (i.zero, i.size, i.bytes)) = some (some (.agg #[.int .i64 0, .int .i64 0]), 2, 16) := by kernel_rfl

/-- a slot's slice has turned, and been stored back -/
def Laid (w : World) (g q : Nat) (v : Value) (l' : List Tm) (w' : World) : Prop :=
  ∃ v' w1 F', Step w w1 (fun k => v.ownBlock = some k) F' ∧ w1.ownsRow 0 42 2 v' l'.length (encs l') ∧ (∀ b, v'.ownBlock = some b → F' b) ∧ w' = w1.setCell ⟨g, 1 + q, none⟩ v'

theorem laid_append {w W w1 : World} {o : Obj} {g q : Nat} {v : Value} {l' : List Tm} {g' cap n : Nat} (HS : Step w W (fun k => v.ownBlock = some k) (fun k => v.ownBlock = some k))
    (hgrow : (W.alloc o).drew.grownBy w1 v.ownBlock) (hat : v.ownBlock = some g' ∨ g' = W.heap.size + 1) (hlt : g' < w1.heap.size)
    (hown : w1.ownsRow 0 42 2 (.slice (some ⟨g', 0, none⟩) n cap) l'.length (encs l')) : Laid w g q v l' (w1.setCell ⟨g, 1 + q, none⟩ (.slice (some ⟨g', 0, none⟩) n cap)) := by
  have S1 : Step w w1 (fun k => v.ownBlock = some k) (fun k => v.ownBlock = some k) := (HS.trans ((Step.alloc W o _).trans (Step.drew _ _))).trans (Step.of_grown hgrow (fun k e => e))
  refine ⟨_, w1, fun k => v.ownBlock = some k ∨ k = g', S1.regrow (fun k h => ?_), hown, fun b hb => .inr ?_, rfl⟩
  · rcases h with h | rfl
    · exact .inl h
    · rcases hat with h | h
      · exact .inl h
      · have := HS.size
        exact .inr ⟨by omega, hlt⟩
  · simpa [Value.ownBlock] using hb.symm

set_option maxHeartbeats 1600000 in
theorem put_walk (now g : Nat) (t : Tm) (hn : now ≤ 1099511627776) (ht : t.2 ≤ 1099511627776) (w : World) (T : TypeId) (cs : Array Value) (H : Has w g T cs) (h0 : cs[0]? = some (.int .i64 now))
    (v : Value) (l : List Tm) (hv : cs[1 + slot now t.2]? = some v) (hr : w.ownsRow 0 42 2 v l.length (encs l)) (hne : v.ownBlock ≠ some g) (hl : l.length ≤ 1048576) :
    Calls Try.prog 26 #[.pointer (some ⟨g, 0, none⟩), .agg #[.int .i64 t.1, .int .i64 t.2]] w fun e w' => e = .returned (.tuple #[]) ∧ Laid w g (slot now t.2) v (l ++ [t]) w' := by
  obtain ⟨i0, hi, hz0, hz1, hz2⟩ := info_parts infoT
  have hlt := H.lt
  go_enter Try.func26, Try.ntmps26
  go_wp2_with fail
  refine (slotOf_any now t.2 g hn ht _ (((H.alloc _).cell 0).trans h0)).mono ?_
  rintro e w' ⟨rfl, rfl⟩
  go_wp2_with fail
  have HB := Has.new w 42 #[.int .i64 t.1, .int .i64 t.2]
  have HG := H.alloc (.cells #[.int .i64 t.1, .int .i64 t.2] 42)
  have HR := hr.alloc (.cells #[.int .i64 t.1, .int .i64 t.2] 42)
  have HS := Lib.hid (Step.alloc w (.cells #[.int .i64 t.1, .int .i64 t.2] 42) (fun k => v.ownBlock = some k))
  have hbg : w.heap.size ≠ g := by omega
  have hnb : some w.heap.size ≠ v.ownBlock := fun e => by have := row_lt hr e.symm; omega
  have hng : some g ≠ v.ownBlock := fun e => hne e.symm
  have hbs : w.heap.size < (w.alloc (.cells #[.int .i64 t.1, .int .i64 t.2] 42)).heap.size := by simp
  generalize w.alloc (.cells #[.int .i64 t.1, .int .i64 t.2] 42) = W at HB HG HR HS hbs ⊢
  generalize w.heap.size = bx at HB hbg hbs hnb ⊢
  have c0 := (HB.cell 0).trans (show _ = some (.int .i64 (t.1 : Int)) from rfl)
  have c1 := (HB.cell 1).trans (show _ = some (.int .i64 (t.2 : Int)) from rfl)
  have cv := (HG.cell (1 + slot now t.2)).trans hv
  have fv := HG.free (1 + slot now t.2)
  have hgl := HG.lt
  have HR' : (W.alloc (.cells #[.int .i64 t.1, .int .i64 t.2] 42)).drew.ownsRow 0 42 2 v l.length (encs l) := HR.alloc _
  have hnews := World.news_of_block (w := (W.alloc (.cells #[.int .i64 t.1, .int .i64 t.2] 42)).drew) (heap_alloc_new W (.cells #[.int .i64 t.1, .int .i64 t.2] 42))
  have HN := Lib.hid hnews
  have HK := Lib.hid (fun (w1 : World) (hgrow : (W.alloc (.cells #[.int .i64 t.1, .int .i64 t.2] 42)).drew.grownBy w1 v.ownBlock) =>
    (⟨(hgrow.cell_far ⟨bx, 0, none⟩ (by simp; omega) hnb).trans ((World.cell?_alloc_past _ _ _ hbs).trans c0), (hgrow.cell_far ⟨bx, 1, none⟩ (by simp; omega) hnb).trans ((World.cell?_alloc_past _ _ _ hbs).trans c1),
      (hgrow.cell_far ⟨g, 1 + slot now t.2, none⟩ (by simp; omega) hng).trans ((World.cell?_alloc_past _ _ _ hgl).trans cv), (hgrow.frozen_far ⟨g, 1 + slot now t.2, none⟩ (by simp; omega) hng).trans ((World.frozen?_alloc_past _ _ _ hgl).trans fv)⟩ :
      w1.cell? ⟨bx, 0, none⟩ = some (.int .i64 t.1) ∧ w1.cell? ⟨bx, 1, none⟩ = some (.int .i64 t.2) ∧ w1.cell? ⟨g, 1 + slot now t.2, none⟩ = some v ∧ w1.frozen? ⟨g, 1 + slot now t.2, none⟩ = false))
  clear hnews HB HG HR hr hv h0 H
  go_region_law
    ((refine step_append_lies _ (by rfl) (.tmp 12) (.tmp 14) 38 (by rfl) 0 42 i0 (.agg #[.int .i64 0, .int .i64 0]) 2 16 Try.underlying38 hi hz0 hz1 hz2 (by rfl) (by omega) v l.length (encs l) (by rfl) HR' ⟨W.heap.size, 0, none⟩ 1 1 (encT t) (by rfl) (by rfl) HN.out (by simp [encT, Value.oneCell']) (by omega) (by simp only [maxLen]; omega) (by omega) (Nat.zero_le _) (W.heap.size + 1) (by simp) ?_; intro g' cap w1 hown1 hgrow hat hlt'; obtain ⟨k0, k1, k2, k3⟩ := HK.out w1 hgrow))
  all_goals
    go_end0
    exact ⟨rfl, laid_append HS.out hgrow hat hlt' (by simpa [encs_append, encs_one] using hown1)⟩

end Go.Proofs.Ytcobjejaflikjaa.WObj
