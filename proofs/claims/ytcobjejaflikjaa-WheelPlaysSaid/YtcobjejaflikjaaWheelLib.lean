/- Layer 2: what the wheel asks of package slices, at timers. -/
import Derived.Test.YtcobjejaflikjaaWheelOrd
namespace Go.Proofs.Ytcobjejaflikjaa.WLib
open Go.RowKit WMath WPure Mem Step WObj WOrd

/-- a list of timers lies in block b -/
def RowAt (w : World) (b : Nat) (l : List Tm) : Prop :=
  ∀ j t, l[j]? = some t → w.cell? ⟨b, j * 2, none⟩ = some (.int .i64 t.1) ∧ w.cell? ⟨b, j * 2 + 1, none⟩ = some (.int .i64 t.2)
theorem encs_at : ∀ (l : List Tm) (j : Nat) (t : Tm), l[j]? = some t → (encs l)[j * 2]? = some (.int .i64 t.1) ∧ (encs l)[j * 2 + 1]? = some (.int .i64 t.2)
  | [], j, t, h => by simp at h
  | x :: l, 0, t, h => by
    simp at h
    subst h
    simp [encs, encT]
  | x :: l, j + 1, t, h => by
    have ih := encs_at l j t (by simpa using h)
    have e1 : (j + 1) * 2 = j * 2 + 1 + 1 := by omega
    rw [e1]
    simpa [encs, encT] using ih
theorem row_at {w : World} {v : Value} {l : List Tm} {b base : Nat} (h : w.ownsRow base 42 2 v l.length (encs l)) (hb : v.ownBlock = some b) : RowAt w b l := fun j t ht => by
  have hc := h.cells hb
  obtain ⟨h1, h2⟩ := encs_at l j t ht
  have a1 := hc _ _ h1
  have a2 := hc _ _ h2
  have e : ∀ i : Nat, (⟨b, 0, none⟩ : Addr).add i = ⟨b, i, none⟩ := fun i => by unfold Addr.add; split <;> simp_all
  rw [e] at a1 a2
  exact ⟨a1, a2⟩
theorem RowAt.below {w w' : World} {b : Nat} {l : List Tm} (h : RowAt w b l) {B : Nat} (hb : Below B w w') (hlt : b < B) : RowAt w' b l := fun j t ht => by
  obtain ⟨a1, a2⟩ := h j t ht
  exact ⟨(hb.cell (p := ⟨b, j * 2, none⟩) hlt).trans a1, (hb.cell (p := ⟨b, j * 2 + 1, none⟩) hlt).trans a2⟩

theorem closure_any (t : Tm) (id bx : Nat) (w : World) (hx : w.cell? ⟨bx, 0, none⟩ = some (.int .i64 id)) (hb : bx < w.heap.size) :
    Calls Try.prog 32 #[.agg #[.int .i64 t.1, .int .i64 t.2], .pointer (some ⟨bx, 0, none⟩)] w fun e w' => e = .returned (.bool ((t.1 : Int) == (id : Int))) ∧ w' = w.alloc (.cells #[.int .i64 t.1, .int .i64 t.2] 42) := by
  go_enter Try.func32, Try.ntmps32
  go_wp2
  go_ret
  exact ⟨rfl, rfl⟩

set_option maxHeartbeats 1600000 in
theorem index_any (b cap : Nat) (l : List Tm) (id bx n : Nat) (hn : n < l.length) (hbig : l.length ≤ 1048576) (hit : ∀ t, l[n]? = some t → t.1 = id) (miss : ∀ j t, j < n → l[j]? = some t → t.1 ≠ id) (w : World) (hr : RowAt w b l) (hb : b < w.heap.size)
    (hx : w.cell? ⟨bx, 0, none⟩ = some (.int .i64 id)) (hbx : bx < w.heap.size) :
    Calls Try.prog 31 #[.slice (some ⟨b, 0, none⟩) l.length cap, .func (.func 32) #[] #[.pointer (some ⟨bx, 0, none⟩)]] w fun e w' => e = .returned (.int .i64 n) ∧ Below w.heap.size w w' := by
  go_enter Try.func31, Try.ntmps31
  go_wp2_with fail
  generalize hL : l.length = len at hn hbig ⊢
  go_loopw [5, 8] (fun _ i wr => ∃ k : Nat, k ≤ n ∧ i = .int .i64 k ∧ Below w.heap.size w wr) (fun _ i _ => n + 1 - (intOf i).toNat)
  case atStart => exact ⟨0, Nat.zero_le _, rfl, Below.refl _ _⟩
  case round =>
    obtain ⟨k, hk, rfl, hB⟩ := hrel
    have hkl : k < len := by omega
    have hki : (k : Int) < (len : Int) := by omega
    obtain ⟨t, ht⟩ : ∃ t, l[k]? = some t := ⟨l[k], List.getElem?_eq_getElem (by omega)⟩
    obtain ⟨c0, c1⟩ := hr.below hB hb k t ht
    have cx := (hB.cell (p := ⟨bx, 0, none⟩) hbx).trans hx
    have hbr : bx < wr.heap.size := Nat.lt_of_lt_of_le hbx hB.size
    have HT := Lib.hid ht
    have HH := Lib.hid hit
    have HM := Lib.hid miss
    have HB := Lib.hid hB
    have HW := Lib.hid hx
    clear ht hit miss hB hx hr
    by_cases he : k = n
    · have hq : (((t.1 : Nat) : Int) == (id : Int)) = true := by
        have := HH.out t (by rw [← he]; exact HT.out)
        simp [this]
      have HE := Lib.hid he
      clear he
      go_wp2_with fail
      refine (closure_any t id bx _ cx hbr).mono ?_
      rintro e w' ⟨rfl, rfl⟩
      rw [hq]
      go_wp2_with fail
      go_ret
      rw [HE.out]
      exact ⟨rfl, HB.out.alloc HB.out.size _⟩
    · have hq : (((t.1 : Nat) : Int) == (id : Int)) = false := by
        have := HM.out k t (by omega) HT.out
        simp; omega
      go_wp2_with fail
      refine (closure_any t id bx _ cx hbr).mono ?_
      rintro e w' ⟨rfl, rfl⟩
      rw [hq]
      go_wp2_with fail
      go_roundw
      case rel => exact ⟨k + 1, by omega, by go_num, HB.out.alloc HB.out.size _⟩
      case measure => simp [intOf]; omega
end Go.Proofs.Ytcobjejaflikjaa.WLib
