/- Layer 2: the timers' order. -/
import Derived.Test.YtcobjejaflikjaaWheelObj
import Derived.Lib.Small
namespace Go.Proofs.Ytcobjejaflikjaa.WOrd
open Go.RowKit WMath WPure Mem Step WObj

/-- cmp.Compare at int -/
def cmpI (x y : Int) : Int := if x < y then -1 else if y < x then 1 else 0
/-- the timers' order: At, then Id -/
def ordI (a b : Tm) : Int := if cmpI a.2 b.2 = 0 then cmpI a.1 b.1 else cmpI a.2 b.2

/-- the timers' order, as a relation -/
def ltT (a b : Tm) : Prop := a.2 < b.2 ∨ (a.2 = b.2 ∧ a.1 < b.1)
theorem cmpI_lt {x y : Int} : cmpI x y < 0 ↔ x < y := by unfold cmpI; split; · simp [*]
                                                         · split <;> simp <;> omega
theorem cmpI_zero {x y : Int} : cmpI x y = 0 ↔ x = y := by unfold cmpI; split; · simp; omega
                                                           · split <;> simp <;> omega
theorem ordI_lt {a b : Tm} : ordI a b < 0 ↔ ltT a b := by
  unfold ordI ltT
  split
  · rename_i h
    rw [cmpI_zero] at h
    rw [cmpI_lt]
    omega
  · rename_i h
    rw [cmpI_zero] at h
    rw [cmpI_lt]
    omega
theorem ltT_irrefl (a : Tm) : ¬ ltT a a := by unfold ltT; omega
theorem ltT_trans {a b c : Tm} (h : ltT a b) (k : ltT b c) : ltT a c := by unfold ltT at *; omega
theorem ltT_total {a b : Tm} (h : ¬ ltT a b) (k : ¬ ltT b a) : a = b := by
  unfold ltT at *
  have h1 : a.2 = b.2 := by omega
  have h2 : a.1 = b.1 := by omega
  exact Prod.ext h2 h1
theorem ltT_not {a b c : Tm} (h : ¬ ltT a b) (k : ltT c b) : ltT c a := by unfold ltT at *; omega

theorem nan_any (x : Int) (w : World) :
    Calls Try.prog 53 #[.int .i64 x] w fun e w' => e = .returned (.bool false) ∧ w = w' := by
  have h : (x != x) = false := by simp
  go_enter Try.func53, Try.ntmps53
  go_wp2
  go_ret
  exact ⟨rfl, rfl⟩
theorem compare_any (x y : Int) (w : World) :
    Calls Try.prog 41 #[.int .i64 x, .int .i64 y] w fun e w' => e = .returned (.int .i64 (cmpI x y)) ∧ w = w' := by
  by_cases h1 : x < y
  · have e : cmpI x y = -1 := by simp [cmpI, h1]
    rw [e]
    clear e
    go_enter Try.func41, Try.ntmps41
    go_wp2_with (go_at_call 53; refine (nan_any _ _).mono ?_; rintro e w' ⟨rfl, rfl⟩)
    go_ret
    exact ⟨rfl, rfl⟩
  · by_cases h2 : y < x
    · have e : cmpI x y = 1 := by simp [cmpI, h1, h2]
      rw [e]
      clear e
      go_enter Try.func41, Try.ntmps41
      go_wp2_with (go_at_call 53; refine (nan_any _ _).mono ?_; rintro e w' ⟨rfl, rfl⟩)
      go_ret
      exact ⟨rfl, rfl⟩
    · have e : cmpI x y = 0 := by simp [cmpI, h1, h2]
      rw [e]
      clear e
      go_enter Try.func41, Try.ntmps41
      go_wp2_with (go_at_call 53; refine (nan_any _ _).mono ?_; rintro e w' ⟨rfl, rfl⟩)
      go_ret
      exact ⟨rfl, rfl⟩

def orI (x y : Int) : Int := if x = 0 then y else x
theorem or_any (x y : Int) (b : Nat) (w : World) (h0 : w.cell? ⟨b, 0, none⟩ = some (.int .i64 x)) (h1 : w.cell? ⟨b, 1, none⟩ = some (.int .i64 y)) :
    Calls Try.prog 40 #[.slice (some ⟨b, 0, none⟩) 2 2] w fun e w' => e = .returned (.int .i64 (orI x y)) ∧ w = w' := by
  by_cases hx : x = 0
  · subst hx
    have e : orI 0 y = y := by simp [orI]
    rw [e]
    clear e
    by_cases hy : y = 0
    · subst hy
      go_enter Try.func40, Try.ntmps40
      go_wp2
      refine wp_loop_rounds 3 ?_
      rw [rounds_succ]
      go_wp2
      rw [rounds_succ]
      go_wp2
      rw [rounds_succ]
      go_wp2
      go_ret
      exact ⟨rfl, rfl⟩
    · have hq : (y != 0) = true := by simpa using hy
      go_enter Try.func40, Try.ntmps40
      go_wp2
      refine wp_loop_rounds 2 ?_
      rw [rounds_succ]
      go_wp2
      rw [rounds_succ]
      go_wp2
      go_ret
      exact ⟨rfl, rfl⟩
  · have e : orI x y = x := by simp [orI, hx]
    rw [e]
    clear e
    have hq : (x != 0) = true := by simpa using hx
    go_enter Try.func40, Try.ntmps40
    go_wp2
    refine wp_loop_rounds 1 ?_
    rw [rounds_succ]
    go_wp2
    go_ret
    exact ⟨rfl, rfl⟩

theorem cells_or {W : World} {n : Nat} (hn : W.heap.size = n) (x y : Int) :
    (W.alloc (.cells #[.int .i64 x, .int .i64 y] 3)).drew.cell? ⟨n, 0, none⟩ = some (.int .i64 x) ∧ (W.alloc (.cells #[.int .i64 x, .int .i64 y] 3)).drew.cell? ⟨n, 1, none⟩ = some (.int .i64 y) :=
  ⟨(new_cell hn 0).trans rfl, (new_cell hn 1).trans rfl⟩
theorem order_any (a b : Tm) (w : World) :
    Calls Try.prog 29 #[.agg #[.int .i64 a.1, .int .i64 a.2], .agg #[.int .i64 b.1, .int .i64 b.2]] w fun e w' => e = .returned (.int .i64 (ordI a b)) ∧
      w' = (((w.alloc (.cells #[.int .i64 a.1, .int .i64 a.2] 42)).alloc (.cells #[.int .i64 b.1, .int .i64 b.2] 42)).alloc (.cells #[.int .i64 (cmpI a.2 b.2), .int .i64 (cmpI a.1 b.1)] 3)).drew := by
  have eo : ordI a b = orI (cmpI a.2 b.2) (cmpI a.1 b.1) := rfl
  rw [eo]
  clear eo
  have hsz : ((w.alloc (.cells #[.int .i64 a.1, .int .i64 a.2] 42)).alloc (.cells #[.int .i64 b.1, .int .i64 b.2] 42)).heap.size = w.heap.size + 1 + 1 := by simp
  have HZ := Lib.hid hsz
  clear hsz
  go_enter Try.func29, Try.ntmps29
  go_wp2_with fail
  go_region_held3 (fun w' => w'.cell? ⟨w.heap.size, 0, none⟩ = some (.int .i64 a.1) ∧ w'.cell? ⟨w.heap.size, 1, none⟩ = some (.int .i64 a.2) ∧ w'.cell? ⟨w.heap.size + 1, 0, none⟩ = some (.int .i64 b.1) ∧ w'.cell? ⟨w.heap.size + 1, 1, none⟩ = some (.int .i64 b.2)) (go_keep)
    (first | (go_at_call 41; refine (compare_any _ _ _).mono ?_; rintro e w' ⟨rfl, rfl⟩) | (go_at_call 40; refine (or_any (cmpI a.2 b.2) (cmpI a.1 b.1) _ (World.drew _) (cells_or HZ.out _ _).1 (cells_or HZ.out _ _).2).mono ?_; rintro e w' ⟨rfl, rfl⟩))
  go_wp2
  go_ret
  exact ⟨rfl, rfl⟩
theorem order_below (a b : Tm) (w : World) :
    Calls Try.prog 29 #[.agg #[.int .i64 a.1, .int .i64 a.2], .agg #[.int .i64 b.1, .int .i64 b.2]] w fun e w' => e = .returned (.int .i64 (ordI a b)) ∧ Below w.heap.size w w' := by
  refine (order_any a b w).mono ?_
  rintro e w' ⟨rfl, rfl⟩
  refine ⟨rfl, ?_⟩
  have h := (((Below.refl w.heap.size w).alloc (Nat.le_refl _) (.cells #[.int .i64 a.1, .int .i64 a.2] 42)).alloc (by simp) (.cells #[.int .i64 b.1, .int .i64 b.2] 42)).alloc (by simp; omega) (.cells #[.int .i64 (cmpI a.2 b.2), .int .i64 (cmpI a.1 b.1)] 3)
  exact ⟨h.os, h.tape, h.output, h.size, h.block⟩
end Go.Proofs.Ytcobjejaflikjaa.WOrd
