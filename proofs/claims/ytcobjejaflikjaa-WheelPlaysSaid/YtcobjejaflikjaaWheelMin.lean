/- Layer 2: slices.MinFunc of timers. -/
import Derived.Test.YtcobjejaflikjaaWheelLib
namespace Go.Proofs.Ytcobjejaflikjaa.WMin
open Go.RowKit WMath WPure Mem Step WObj WOrd WLib

/-- the first of the first k -/
def FirstOf (m : Tm) (l : List Tm) : Prop := m ∈ l ∧ ∀ x ∈ l, ¬ ltT x m

def MInv (w : World) (rb mb : Nat) (l : List Tm) (k : Nat) (wr : World) : Prop :=
  ∃ m : Tm, FirstOf m (l.take k) ∧ Has wr mb 42 #[.int .i64 m.1, .int .i64 m.2] ∧ Has wr rb 42 #[.int .i64 0, .int .i64 0] ∧ Below w.heap.size w wr
theorem first_start {l : List Tm} {t0 : Tm} (h : l[0]? = some t0) : FirstOf t0 (l.take 1) := by
  cases l with
  | nil => simp at h
  | cons x l =>
    simp at h
    subst h
    simp [FirstOf, ltT_irrefl]
theorem first_next {l : List Tm} {m t : Tm} {k : Nat} (h : FirstOf m (l.take k)) (ht : l[k]? = some t) : (ltT t m → FirstOf t (l.take (k + 1))) ∧ (¬ ltT t m → FirstOf m (l.take (k + 1))) := by
  have e : l.take (k + 1) = l.take k ++ [t] := by rw [List.take_add_one, ht]; rfl
  rw [e]
  refine ⟨fun hl => ⟨by simp, fun x hx => ?_⟩, fun hl => ⟨by simp [h.1], fun x hx => ?_⟩⟩
  · simp at hx
    rcases hx with hx | rfl
    · exact fun hxt => h.2 x hx (ltT_trans hxt hl)
    · exact ltT_irrefl _
  · simp at hx
    rcases hx with hx | rfl
    · exact h.2 x hx
    · exact hl

theorem below_drewn {w wr w' : World} (hB : Below w.heap.size w wr) (hb' : Below wr.drew.heap.size wr.drew w') : Below w.heap.size w w' :=
  ⟨hb'.os.trans hB.os, hb'.tape.trans hB.tape, hb'.output.trans hB.output, Nat.le_trans hB.size hb'.size, fun k hk => (hb'.block k (Nat.lt_of_lt_of_le hk hB.size)).trans (hB.block k hk)⟩
theorem minv_no {w wr w' : World} {rb mb k : Nat} {l : List Tm} {m : Tm} (hB : Below w.heap.size w wr) (Hm : Has wr mb 42 #[.int .i64 m.1, .int .i64 m.2]) (Hr : Has wr rb 42 #[.int .i64 0, .int .i64 0])
    (hb' : Below wr.drew.heap.size wr.drew w') (HF : FirstOf m (l.take (k + 1))) : MInv w rb mb l (k + 1) w' :=
  ⟨m, HF, (Hm.drew).below hb' Hm.lt, (Hr.drew).below hb' Hr.lt, below_drewn hB hb'⟩
theorem minv_yes {w wr w' : World} {rb mb k : Nat} {l : List Tm} {m t : Tm} (hB : Below w.heap.size w wr) (Hm : Has wr mb 42 #[.int .i64 m.1, .int .i64 m.2]) (Hr : Has wr rb 42 #[.int .i64 0, .int .i64 0])
    (hb' : Below wr.drew.heap.size wr.drew w') (hrm : rb ≠ mb) (hmb : w.heap.size ≤ mb) (HF : FirstOf t (l.take (k + 1))) :
    MInv w rb mb l (k + 1) ((w'.setCell ⟨mb, 0, none⟩ (.int .i64 t.1)).setCell ⟨mb, 1, none⟩ (.int .i64 t.2)) := by
  have h1 := (Hm.drew).below hb' Hm.lt
  have h2 := (Hr.drew).below hb' Hr.lt
  refine ⟨t, HF, ?_, (h2.far (p := ⟨mb, 0, none⟩) hrm _).far (p := ⟨mb, 1, none⟩) hrm _, ((below_drewn hB hb').setCell (p := ⟨mb, 0, none⟩) hmb _).setCell (p := ⟨mb, 1, none⟩) hmb _⟩
  simpa using (h1.set_ 0 (.int .i64 t.1)).set_ 1 (.int .i64 t.2)

set_option maxHeartbeats 1600000 in
theorem min_any (b cap n : Nat) (l : List Tm) (w : World) (hr : RowAt w b l) (hn : l.length = n) (h0 : 0 < n) (hbig : n ≤ 1048576) (hb : b < w.heap.size) :
    Calls Try.prog 35 #[.slice (some ⟨b, 0, none⟩) n cap, .func (.func 29) #[] #[]] w fun e w' => ∃ m : Tm, FirstOf m l ∧ e = .returned (.agg #[.int .i64 m.1, .int .i64 m.2]) ∧ Below w.heap.size w w' := by
  obtain ⟨t0, ht0⟩ : ∃ t, l[0]? = some t := ⟨l[0], List.getElem?_eq_getElem (by omega)⟩
  obtain ⟨c0, c1⟩ := hr 0 t0 ht0
  have hn0 : ¬ ((n : Int) < 1) := by omega
  have hn1 : (0 : Int) < (n : Int) := by omega
  have HT := Lib.hid ht0
  clear ht0
  go_enter Try.func35, Try.ntmps35
  go_wp2_with fail
  have I0 : MInv w w.heap.size (w.heap.size + 1) l 1 ((w.alloc (.cells #[.int .i64 0, .int .i64 0] 42)).alloc (.cells #[.int .i64 t0.1, .int .i64 t0.2] 42)) := by
    refine ⟨t0, first_start HT.out, ?_, (Has.new _ _ _).alloc _, ((Below.refl _ _).alloc (Nat.le_refl _) _).alloc (by simp) _⟩
    have := Has.new (w.alloc (.cells #[.int .i64 0, .int .i64 0] 42)) 42 #[.int .i64 t0.1, .int .i64 t0.2]
    simpa using this
  have hrb : w.heap.size ≤ w.heap.size := Nat.le_refl _
  have hmb : w.heap.size ≤ w.heap.size + 1 := Nat.le_succ _
  have hrm : w.heap.size ≠ w.heap.size + 1 := by omega
  clear c0 c1
  generalize hW : (w.alloc (.cells #[.int .i64 0, .int .i64 0] 42)).alloc (.cells #[.int .i64 t0.1, .int .i64 t0.2] 42) = W at I0 ⊢
  clear hW
  generalize hmb' : w.heap.size + 1 = mb at I0 hmb hrm ⊢
  clear hmb'
  obtain ⟨rb, hrbe⟩ : ∃ rb, rb = w.heap.size := ⟨_, rfl⟩
  rw [← hrbe] at I0 hrm ⊢
  have HRB := Lib.hid hrbe
  clear hrbe hrb
  have HRW := Lib.hid hr
  clear hr
  go_loopw [6] (fun i wr => ∃ k : Nat, 1 ≤ k ∧ k ≤ n ∧ i = .int .i64 k ∧ MInv w rb mb l k wr) (fun i _ => n - (intOf i).toNat)
  case atStart => exact ⟨1, Nat.le_refl _, h0, rfl, I0⟩
  case round =>
    obtain ⟨k, hk1, hk, rfl, I⟩ := hrel
    clear I0
    by_cases hlt : k < n
    · have hki : (k : Int) < (n : Int) := by omega
      obtain ⟨m, hF, Hm, Hr, hB⟩ := I
      obtain ⟨t, ht⟩ : ∃ t, l[k]? = some t := ⟨l[k], List.getElem?_eq_getElem (by omega)⟩
      obtain ⟨c0, c1⟩ := (HRW.out.below hB (by rw [← HRB.out]; rw [HRB.out]; exact hb)) k t ht
      have m0 := (Hm.cell 0).trans (show _ = some (Value.int .i64 (m.1 : Int)) from rfl)
      have m1 := (Hm.cell 1).trans (show _ = some (Value.int .i64 (m.2 : Int)) from rfl)
      have f0 := Hm.free 0
      have f1 := Hm.free 1
      have FN := Lib.hid (first_next hF ht)
      have HO := Lib.hid (order_below t m)
      have mlt := Hm.lt
      have hbl : b < wr.heap.size := Nat.lt_of_lt_of_le hb hB.size
      have HK := Lib.hid (fun (w' : World) (hb' : Below wr.drew.heap.size wr.drew w') =>
        (⟨(hb'.cell (p := ⟨b, k * 2, none⟩) hbl).trans c0, (hb'.cell (p := ⟨b, k * 2 + 1, none⟩) hbl).trans c1, (hb'.cell (p := ⟨mb, 0, none⟩) mlt).trans m0, (hb'.cell (p := ⟨mb, 1, none⟩) mlt).trans m1, (hb'.frozen (p := ⟨mb, 0, none⟩) mlt).trans f0, (hb'.frozen (p := ⟨mb, 1, none⟩) mlt).trans f1⟩ :
          w'.cell? ⟨b, k * 2, none⟩ = some (.int .i64 t.1) ∧ w'.cell? ⟨b, k * 2 + 1, none⟩ = some (.int .i64 t.2) ∧ w'.cell? ⟨mb, 0, none⟩ = some (.int .i64 m.1) ∧ w'.cell? ⟨mb, 1, none⟩ = some (.int .i64 m.2) ∧ w'.frozen? ⟨mb, 0, none⟩ = false ∧ w'.frozen? ⟨mb, 1, none⟩ = false))
      have HM := Lib.hid Hm
      have HR := Lib.hid Hr
      have HBB := Lib.hid hB
      clear hF Hm Hr hB
      by_cases hq : ltT t m
      · have hd : (ordI t m < 0) := ordI_lt.2 hq
        have HF := Lib.hid (FN.out.1 hq)
        clear hq
        go_wp2_with fail
        go_region_held3 (fun w' => w'.cell? ⟨b, k * 2, none⟩ = some (.int .i64 t.1) ∧ w'.cell? ⟨b, k * 2 + 1, none⟩ = some (.int .i64 t.2) ∧ w'.cell? ⟨mb, 0, none⟩ = some (.int .i64 m.1) ∧ w'.cell? ⟨mb, 1, none⟩ = some (.int .i64 m.2)) (first | go_keep | exact ⟨k0, k1, k2, k3⟩)
          (first | (go_at_call 29; refine (HO.out _).mono ?_; rintro e w' ⟨rfl, hb'⟩; obtain ⟨k0, k1, k2, k3, k4, k5⟩ := HK.out w' hb'))
        all_goals go_wp2_with fail
        all_goals exact ⟨⟨k + 1, by omega, by omega, by go_num, minv_yes HBB.out HM.out HR.out hb' hrm hmb HF.out⟩, by simp [intOf]; omega⟩
      · have hd : ¬ (ordI t m < 0) := fun h => hq (ordI_lt.1 h)
        have HF := Lib.hid (FN.out.2 hq)
        clear hq
        go_wp2_with fail
        go_region_held3 (fun w' => w'.cell? ⟨b, k * 2, none⟩ = some (.int .i64 t.1) ∧ w'.cell? ⟨b, k * 2 + 1, none⟩ = some (.int .i64 t.2) ∧ w'.cell? ⟨mb, 0, none⟩ = some (.int .i64 m.1) ∧ w'.cell? ⟨mb, 1, none⟩ = some (.int .i64 m.2)) (first | go_keep | exact ⟨k0, k1, k2, k3⟩)
          (first | (go_at_call 29; refine (HO.out _).mono ?_; rintro e w' ⟨rfl, hb'⟩; obtain ⟨k0, k1, k2, k3, k4, k5⟩ := HK.out w' hb'))
        all_goals go_wp2_with fail
        all_goals exact ⟨⟨k + 1, by omega, by omega, by go_num, minv_no HBB.out HM.out HR.out hb' HF.out⟩, by simp [intOf]; omega⟩
    · have hke : k = n := by omega
      obtain ⟨m, hF, Hm, Hr, hB⟩ := I
      have m0 := (Hm.cell 0).trans (show _ = some (Value.int .i64 (m.1 : Int)) from rfl)
      have m1 := (Hm.cell 1).trans (show _ = some (Value.int .i64 (m.2 : Int)) from rfl)
      have r0 := (Hr.cell 0).trans (show _ = some (Value.int .i64 0) from rfl)
      have r1 := (Hr.cell 1).trans (show _ = some (Value.int .i64 0) from rfl)
      have g0 := Hr.free 0
      have g1 := Hr.free 1
      have hlk : l.take k = l := List.take_of_length_le (by omega)
      rw [hlk] at hF
      have HF := Lib.hid hF
      have hrl := Hr.lt
      have HBB := Lib.hid (((hB.setCell (p := ⟨rb, 0, none⟩) (by rw [HRB.out]; exact Nat.le_refl _) (.int .i64 m.1)).setCell (p := ⟨rb, 1, none⟩) (by rw [HRB.out]; exact Nat.le_refl _) (.int .i64 m.2)))
      have HH := Lib.hid (show Has ((wr.setCell ⟨rb, 0, none⟩ (.int .i64 m.1)).setCell ⟨rb, 1, none⟩ (.int .i64 m.2)) rb 42 #[.int .i64 m.1, .int .i64 m.2] from by simpa using (Hr.set_ 0 (.int .i64 m.1)).set_ 1 (.int .i64 m.2))
      clear hF hB Hm Hr hlk
      go_wp2_with fail
      refine bodyPost_ret (v := .agg #[.int .i64 m.1, .int .i64 m.2]) ?_ rfl ⟨m, HF.out, rfl, HBB.out⟩
      exact results_cell_row rfl _ _ rb 42 _ _ _ rfl HH.out.at_ Try.underlying42 rfl (by kernel_rfl)
end Go.Proofs.Ytcobjejaflikjaa.WMin
