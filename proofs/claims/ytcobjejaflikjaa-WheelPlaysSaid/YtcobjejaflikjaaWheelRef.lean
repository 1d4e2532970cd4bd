/- Layer 2: the document's wheel, a plain list: At, First, drop. -/
import Derived.Test.YtcobjejaflikjaaWheelOneF
namespace Go.Proofs.Ytcobjejaflikjaa.WRef
open Go.RowKit Go.Maps WMath WPure Mem Step WObj WOrd WMm WLib WDel WMin AppendRow WOne

/-- the plain wheel at r, with its list -/
structure RM (w : World) (r now : Nat) (v : Value) (A : List Tm) (F : Nat → Prop) : Prop where
  head : Has w r 29 #[.int .i64 now, v]
  row : w.ownsRow 0 59 2 v A.length (encs A)
  ne : v.ownBlock ≠ some r
  rF : F r
  vF : ∀ b, v.ownBlock = some b → F b
  low : ∀ k, F k → k < w.heap.size
theorem drewN_below {B : Nat} {a w : World} (n : Nat) (h : Below B a w) : Below B a (w.drewN n) := ⟨h.os, h.tape, h.output, h.size, h.block⟩
theorem RM.far {w w' : World} {r now : Nat} {v : Value} {A : List Tm} {F G G' : Nat → Prop} (h : RM w r now v A F) (s : Step w w' G G') (hn : ∀ k, F k → ¬ G k) : RM w' r now v A F :=
  ⟨s.has h.head (hn r h.rF), s.row h.row (fun b e => hn b (h.vF b e)), h.ne, h.rF, h.vF, fun k hk => Nat.lt_of_lt_of_le (h.low k hk) s.size⟩
theorem rrow_shape {w : World} {v : Value} {A : List Tm} (hr : w.ownsRow 0 59 2 v A.length (encs A)) : ∃ p cap, v = .slice p A.length cap ∧ (0 < A.length → ∃ b, p = some ⟨b, 0, none⟩ ∧ v.ownBlock = some b) := by
  rcases hr.2 with ⟨h, hn⟩ | ⟨b, cap, _, h, _⟩
  · exact ⟨none, 0, by rw [h, hn], fun h0 => by omega⟩
  · exact ⟨_, cap, h, fun _ => ⟨b, rfl, by rw [h]; rfl⟩⟩
theorem rrow_at {w : World} {v : Value} {l : List Tm} {b : Nat} (h : w.ownsRow 0 59 2 v l.length (encs l)) (hb : v.ownBlock = some b) : RowAt w b l := fun j t ht => by
  have hc := h.cells hb
  obtain ⟨h1, h2⟩ := encs_at l j t ht
  have a1 := hc _ _ h1
  have a2 := hc _ _ h2
  have e : ∀ i : Nat, (⟨b, 0, none⟩ : Addr).add i = ⟨b, i, none⟩ := fun i => by unfold Addr.add; split <;> simp_all
  rw [e] at a1 a2
  exact ⟨a1, a2⟩

/-- what At answers -/
def AtSays (A : List Tm) (x : Int) (e : Ending) : Prop :=
  (∃ (k : Nat) (t : Tm), A[k]? = some t ∧ (t.1 : Int) = x ∧ (∀ j u, j < k → A[j]? = some u → (u.1 : Int) ≠ x) ∧ e = .returned (.int .i64 k)) ∨ ((∀ t ∈ A, (t.1 : Int) ≠ x) ∧ e = .returned (.int .i64 (-1)))

set_option maxHeartbeats 1600000 in
theorem at_any (w : World) (r now : Nat) (v : Value) (A : List Tm) (F : Nat → Prop) (x : Int) (h : RM w r now v A F) (hl : A.length ≤ 65536) :
    Calls Try.prog 22 #[.pointer (some ⟨r, 0, none⟩), .int .i64 x] w fun e w' => AtSays A x e ∧ w = w' := by
  obtain ⟨p, cap, rfl, hp⟩ := rrow_shape h.row
  have c1 := (h.head.cell 1).trans (show _ = some (Value.slice p A.length cap) from rfl)
  have HP := Lib.hid (fun h0 : 0 < A.length => (by
    obtain ⟨b, e, hb⟩ := hp h0
    exact ⟨b, e, rrow_at h.row hb⟩ : ∃ b, p = some ⟨b, 0, none⟩ ∧ RowAt w b A))
  clear h hp
  go_enter Try.func22, Try.ntmps22
  go_wp2_with fail
  go_loop [5] (fun i => ∃ k : Nat, k ≤ A.length ∧ i = .int .i64 k ∧ Hid (∀ j u, j < k → A[j]? = some u → (u.1 : Int) ≠ x)) (fun i => A.length - (intOf i).toNat)
  case atStart => exact ⟨0, Nat.zero_le _, rfl, Lib.hid (fun j u hj => by omega)⟩
  case round =>
    obtain ⟨k, hk, rfl, HN⟩ := hrel
    by_cases hlt : k < A.length
    · have hki : (k : Int) < ((A.length : Nat) : Int) := by omega
      obtain ⟨b, rfl, hr⟩ := HP.out (by omega)
      obtain ⟨t, ht⟩ : ∃ t, A[k]? = some t := ⟨A[k], List.getElem?_eq_getElem hlt⟩
      obtain ⟨d0, _⟩ := hr k t ht
      have HT := Lib.hid ht
      clear hr ht
      by_cases he : (t.1 : Int) = x
      · have hq : ((t.1 : Int) == x) = true := by simpa using he
        have HE := Lib.hid he
        clear he
        go_wp2_with fail
        go_ret
        exact ⟨.inl ⟨k, t, HT.out, HE.out, HN.out, rfl⟩, rfl⟩
      · have hq : ((t.1 : Int) == x) = false := by simpa using he
        have HE := Lib.hid he
        clear he
        go_wp2_with fail
        go_round
        case rel => exact ⟨k + 1, by omega, by go_num, Lib.hid (fun j u hj hu => by
          by_cases e : j = k
          · subst e
            have h1 := HT.out
            rw [hu] at h1
            cases h1
            exact HE.out
          · exact HN.out j u (by omega) hu)⟩
        case measure => simp [intOf]; omega
    · have hkn : k = A.length := by omega
      subst hkn
      go_wp2_with fail
      go_ret
      refine ⟨.inr ⟨fun t ht => ?_, rfl⟩, rfl⟩
      obtain ⟨j, hj, e⟩ := List.getElem_of_mem ht
      exact HN.out j t hj (by rw [List.getElem?_eq_getElem hj, e])

/-- what First answers -/
def FirstSays (A : List Tm) (e : Ending) : Prop :=
  (∃ (k : Nat) (m : Tm), A[k]? = some m ∧ FirstOf m A ∧ e = .returned (.int .i64 k)) ∨ (A = [] ∧ e = .returned (.int .i64 (-1)))
/-- the best of the first k -/
def Best (A : List Tm) (k : Nat) (best : Value) : Prop :=
  (k = 0 ∧ best = .int .i64 (-1)) ∨ (∃ (i : Nat) (m : Tm), i < k ∧ A[i]? = some m ∧ FirstOf m (A.take k) ∧ best = .int .i64 i)
theorem Best.next {A : List Tm} {k i : Nat} {m t : Tm} (hi : i < k) (hm : A[i]? = some m) (hF : FirstOf m (A.take k)) (ht : A[k]? = some t) : (ltT t m → Best A (k + 1) (.int .i64 k)) ∧ (¬ ltT t m → Best A (k + 1) (.int .i64 i)) := by
  obtain ⟨h1, h2⟩ := first_next hF ht
  exact ⟨fun h => .inr ⟨k, t, by omega, ht, h1 h, rfl⟩, fun h => .inr ⟨i, m, by omega, hm, h2 h, rfl⟩⟩
theorem Best.start {A : List Tm} {t : Tm} (ht : A[0]? = some t) : Best A 1 (.int .i64 0) := .inr ⟨0, t, by omega, ht, first_start ht, rfl⟩

set_option maxHeartbeats 1600000 in
theorem rfirst_any (w : World) (r now : Nat) (v : Value) (A : List Tm) (F : Nat → Prop) (h : RM w r now v A F) (hl : A.length ≤ 65536) :
    Calls Try.prog 23 #[.pointer (some ⟨r, 0, none⟩)] w fun e w' => FirstSays A e ∧ Below w.heap.size w w' := by
  obtain ⟨p, cap, rfl, hp⟩ := rrow_shape h.row
  have HP := Lib.hid (fun h0 : 0 < A.length => (by
    obtain ⟨b, e, hb⟩ := hp h0
    exact ⟨b, e, rrow_at h.row hb, row_lt h.row hb⟩ : ∃ b, p = some ⟨b, 0, none⟩ ∧ RowAt w b A ∧ b < w.heap.size))
  have HH := Lib.hid h.head
  clear h hp
  go_enter Try.func23, Try.ntmps23
  go_wp2_with fail
  go_loopw [3, 4] (fun best i wr => ∃ k : Nat, k ≤ A.length ∧ i = .int .i64 k ∧ Hid (Best A k best) ∧ Hid (Below w.heap.size w wr)) (fun _ i _ => A.length - (intOf i).toNat)
  case atStart => exact ⟨0, Nat.zero_le _, rfl, Lib.hid (.inl ⟨rfl, rfl⟩), Lib.hid (Below.refl _ _)⟩
  case round =>
    obtain ⟨k, hk, rfl, HB, HW⟩ := hrel
    have hh := HH.out.below HW.out HH.out.lt
    have c1 := (hh.cell 1).trans (show _ = some (Value.slice p A.length cap) from rfl)
    clear hh
    by_cases hlt : k < A.length
    · have hki : (k : Int) < ((A.length : Nat) : Int) := by omega
      have hk0 : (0 : Int) ≤ (k : Int) := by omega
      obtain ⟨b, rfl, hr, hbl⟩ := HP.out (by omega)
      have hr' := hr.below HW.out hbl
      obtain ⟨t, ht⟩ : ∃ t, A[k]? = some t := ⟨A[k], List.getElem?_eq_getElem hlt⟩
      obtain ⟨d0, d1⟩ := hr' k t ht
      rcases HB.out with ⟨hk00, hbe⟩ | ⟨i, m, hik, hm, hF, hbe⟩
      · subst hk00
        subst hbe
        have HT := Lib.hid ht
        have HWN := Lib.hid (fun n : Nat => WRef.drewN_below n HW.out)
        clear hr hr' ht HB HW
        go_wp2_with fail
        go_quiet (fail)
        go_wp2_with fail
        exact ⟨⟨1, by omega, rfl, Lib.hid (Best.start HT.out), Lib.hid (HWN.out _)⟩, by simp [intOf]; omega⟩
      · subst hbe
        have hil : (i : Int) < ((A.length : Nat) : Int) := by omega
        have hi0 : (0 : Int) ≤ (i : Int) := by omega
        have hib : decide ((i : Int) < 0) = false := decide_eq_false (by omega)
        obtain ⟨b0, b1⟩ := hr' i m hm
        have HNX := Lib.hid (Best.next hik hm hF ht)
        have HWN := Lib.hid (fun n : Nat => WRef.drewN_below n HW.out)
        clear hr hr' ht HB HW hm hF
        by_cases q1 : t.2 < m.2
        · have g1 : decide (((t.2 : Nat) : Int) < ((m.2 : Nat) : Int)) = true := decide_eq_true (by omega)
          have HX := Lib.hid (HNX.out.1 (.inl q1))
          go_wp2_with fail
          go_quiet (fail)
          go_wp2_with fail
          exact ⟨⟨k + 1, by omega, by go_num, HX, Lib.hid (HWN.out _)⟩, by simp [intOf]; omega⟩
        · have g1 : decide (((t.2 : Nat) : Int) < ((m.2 : Nat) : Int)) = false := decide_eq_false (by omega)
          by_cases q2 : t.2 = m.2
          · have g2 : (((t.2 : Nat) : Int) == ((m.2 : Nat) : Int)) = true := by rw [q2]; simp
            by_cases q3 : t.1 < m.1
            · have g3 : decide (((t.1 : Nat) : Int) < ((m.1 : Nat) : Int)) = true := decide_eq_true (by omega)
              have HX := Lib.hid (HNX.out.1 (.inr ⟨q2, q3⟩))
              clear q2
              go_wp2_with fail
              go_quiet (fail)
              go_wp2_with fail
              exact ⟨⟨k + 1, by omega, by go_num, HX, Lib.hid (HWN.out _)⟩, by simp [intOf]; omega⟩
            · have g3 : decide (((t.1 : Nat) : Int) < ((m.1 : Nat) : Int)) = false := decide_eq_false (by omega)
              have HX := Lib.hid (HNX.out.2 (by unfold ltT; omega))
              clear q2
              go_wp2_with fail
              go_quiet (fail)
              go_wp2_with fail
              exact ⟨⟨k + 1, by omega, by go_num, HX, Lib.hid (HWN.out _)⟩, by simp [intOf]; omega⟩
          · have g2 : (((t.2 : Nat) : Int) == ((m.2 : Nat) : Int)) = false := by simp; omega
            have HX := Lib.hid (HNX.out.2 (by unfold ltT; omega))
            go_wp2_with fail
            go_quiet (fail)
            go_wp2_with fail
            exact ⟨⟨k + 1, by omega, by go_num, HX, Lib.hid (HWN.out _)⟩, by simp [intOf]; omega⟩
    · have hkl : k = A.length := by omega
      have hki : ¬ ((k : Int) < ((A.length : Nat) : Int)) := by omega
      have HKL := Lib.hid hkl
      clear hkl
      go_wp2_with fail
      go_ret
      refine ⟨?_, HW.out⟩
      rcases HB.out with ⟨h0, e⟩ | ⟨i, m, hik, hm, hF, e⟩
      · refine .inr ⟨List.eq_nil_of_length_eq_zero (by rw [← HKL.out]; exact h0), ?_⟩
        rw [e]; rfl
      · rw [HKL.out, List.take_of_length_le (Nat.le_refl _)] at hF
        refine .inl ⟨i, m, hm, hF, ?_⟩
        rw [e]; rfl
end Go.Proofs.Ytcobjejaflikjaa.WRef
