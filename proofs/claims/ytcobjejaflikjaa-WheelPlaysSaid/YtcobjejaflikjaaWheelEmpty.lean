/- Layer 2: the slots that are reached are emptied. -/
import Derived.Test.YtcobjejaflikjaaWheelNext
import Derived.Test.YtcobjejaflikjaaAppendRow
namespace Go.Proofs.Ytcobjejaflikjaa.WEmpty
open Go.RowKit Go.Maps WMath WPure Mem Step WObj WOrd WMm WLib WDel WOps WSet WMin WNext AppendRow

instance (now to q : Nat) : Decidable (reached now to q) := by unfold reached; infer_instance
def rch (now to q : Nat) : Bool := decide (reached now to q)

theorem filter_or {α : Type} (p q : α → Bool) : ∀ (l : List α), (∀ x ∈ l, p x = true → q x = false) → (l.filter fun x => p x || q x).Perm (l.filter p ++ l.filter q)
  | [], _ => by simp
  | x :: l, h => by
    have ih := filter_or p q l (fun y hy => h y (by simp [hy]))
    cases hp : p x with
    | true =>
      have hq := h x (by simp) hp
      simp [hp, hq, ih]
    | false =>
      cases hq : q x with
      | true =>
        simp only [hp, hq, List.filter_cons, Bool.or_true, if_true, Bool.false_eq_true, if_false]
        exact (ih.cons x).trans List.perm_middle.symm
      | false => simp [hp, hq, ih]

theorem flat_perm {now : Nat} {S : List Tm} {L : Nat → List Tm} (hP : ∀ q, q < 448 → (L q).Perm (S.filter fun t => slot now t.2 == q)) (p : Nat → Bool) : ∀ c, c ≤ 448 →
    (((List.range c).filter p).flatMap L).Perm (S.filter fun t => decide (slot now t.2 < c) && p (slot now t.2))
  | 0, _ => by simp
  | c + 1, hc => by
    have ih := flat_perm hP p c (by omega)
    rw [List.range_succ, List.filter_append, List.flatMap_append]
    have e : (S.filter fun t => decide (slot now t.2 < c + 1) && p (slot now t.2)) = S.filter fun t => (decide (slot now t.2 < c) && p (slot now t.2)) || (slot now t.2 == c && p (slot now t.2)) := by
      refine List.filter_congr fun t _ => ?_
      rw [Bool.eq_iff_iff]
      simp only [Bool.and_eq_true, Bool.or_eq_true, decide_eq_true_iff, beq_iff_eq]
      constructor
      · rintro ⟨h1, h2⟩
        rcases Nat.lt_or_ge (slot now t.2) c with h | h
        · exact .inl ⟨h, h2⟩
        · exact .inr ⟨by omega, h2⟩
      · rintro (⟨h1, h2⟩ | ⟨h1, h2⟩)
        · exact ⟨by omega, h2⟩
        · exact ⟨by omega, h2⟩
    rw [e]
    refine List.Perm.trans ?_ (filter_or _ _ S ?_).symm
    · refine ih.append ?_
      cases hp : p c with
      | true =>
        simp only [hp, List.filter_cons, if_true, List.filter_nil, List.flatMap_cons, List.flatMap_nil, List.append_nil]
        refine (hP c (by omega)).trans (List.Perm.of_eq (List.filter_congr fun t _ => ?_))
        by_cases h : slot now t.2 = c
        · simp [h, hp]
        · simp [h]
      | false =>
        simp only [hp, List.filter_cons, Bool.false_eq_true, if_false, List.filter_nil, List.flatMap_nil]
        refine List.Perm.of_eq (List.filter_eq_nil_iff.2 fun t _ h => ?_).symm
        simp only [Bool.and_eq_true, beq_iff_eq] at h
        rw [h.1, hp] at h
        exact absurd h.2 (by simp)
    · intro t _ h
      simp only [Bool.and_eq_true, decide_eq_true_iff] at h
      simp only [Bool.and_eq_false_iff, beq_eq_false_iff_ne]
      exact .inl (by omega)

def Lc (now to : Nat) (L : Nat → List Tm) (c : Nat) : Nat → List Tm := fun q => if q < c ∧ reached now to q then [] else L q
def Tc (now to : Nat) (L : Nat → List Tm) (c : Nat) : List Tm := ((List.range c).filter (rch now to)).flatMap L
theorem Lc_zero (now to : Nat) (L : Nat → List Tm) : Lc now to L 0 = L := by funext q; simp [Lc]
theorem Lc_jump {now to : Nat} {L : Nat → List Tm} {c c' : Nat} (h : c ≤ c') (hr : ∀ q, c ≤ q → q < c' → ¬ reached now to q) : Lc now to L c' = Lc now to L c := by
  funext q
  unfold Lc
  by_cases h1 : reached now to q
  · by_cases h2 : q < c
    · rw [if_pos ⟨by omega, h1⟩, if_pos ⟨h2, h1⟩]
    · by_cases h3 : q < c'
      · exact absurd h1 (hr q (by omega) h3)
      · rw [if_neg (fun h => h3 h.1), if_neg (fun h => h2 h.1)]
  · rw [if_neg (fun h => h1 h.2), if_neg (fun h => h1 h.2)]
theorem Tc_jump {now to : Nat} {L : Nat → List Tm} {c : Nat} : ∀ {c' : Nat}, c ≤ c' → (∀ q, c ≤ q → q < c' → ¬ reached now to q) → Tc now to L c' = Tc now to L c
  | 0, h, _ => by have : c = 0 := by omega
                  subst this; rfl
  | c' + 1, h, hr => by
    by_cases e : c = c' + 1
    · subst e; rfl
    · have ih := Tc_jump (now := now) (to := to) (L := L) (c := c) (c' := c') (by omega) (fun q h1 h2 => hr q h1 (by omega))
      rw [← ih]
      unfold Tc
      rw [List.range_succ, List.filter_append, List.flatMap_append]
      have : rch now to c' = false := by simp [rch, hr c' (by omega) (by omega)]
      simp [this]
theorem Tc_step {now to : Nat} {L : Nat → List Tm} {c : Nat} (h : reached now to c) : Tc now to L (c + 1) = Tc now to L c ++ L c := by
  unfold Tc
  rw [List.range_succ, List.filter_append, List.flatMap_append]
  have : rch now to c = true := by simp [rch, h]
  simp [this]
theorem Lc_step {now to : Nat} {L : Nat → List Tm} {c : Nat} (h : reached now to c) : Lc now to L (c + 1) = upd (Lc now to L c) c [] := by
  funext q
  unfold Lc upd
  by_cases e : q = c
  · subst e
    rw [if_pos ⟨by omega, h⟩, if_pos rfl]
  · rw [if_neg e]
    show _ = if q < c ∧ reached now to q then [] else L q
    by_cases h1 : q < c
    · by_cases h2 : reached now to q
      · rw [if_pos ⟨by omega, h2⟩, if_pos ⟨h1, h2⟩]
      · rw [if_neg (fun h => h2 h.2), if_neg (fun h => h2 h.2)]
    · rw [if_neg (fun h => by omega), if_neg (fun h => h1 h.1)]

/-- c slots have been looked at -/
def EInv (w : World) (g now mb to : Nat) (L : Nat → List Tm) (F0 : Nat → Prop) (c : Nat) (tv : Value) (wr : World) : Prop :=
  ∃ v F', Mm wr g now mb v (Lc now to L c) F' ∧ wr.ownsRow 0 42 2 tv (Tc now to L c).length (encs (Tc now to L c)) ∧ (∀ b, tv.ownBlock = some b → ¬ F' b ∧ w.heap.size ≤ b) ∧ Step w wr F0 F'
theorem EInv.jump {w wr : World} {g now mb to c c' : Nat} {L : Nat → List Tm} {F0 : Nat → Prop} {tv : Value} (h : EInv w g now mb to L F0 c tv wr) (hc : c ≤ c') (hr : ∀ q, c ≤ q → q < c' → ¬ reached now to q) : EInv w g now mb to L F0 c' tv wr := by
  unfold EInv at *
  rwa [Lc_jump hc hr, Tc_jump hc hr]
theorem EInv.start {w : World} {g now mb to : Nat} {v : Nat → Value} {L : Nat → List Tm} {F0 : Nat → Prop} (h : Mm w g now mb v L F0) : EInv w g now mb to L F0 0 (.slice none 0 0) w :=
  ⟨v, F0, by rw [Lc_zero]; exact h, World.ownsRow_nil w 0 _ 2, fun b hb => by simp [Value.ownBlock] at hb, Step.refl w F0⟩
/-- one slot's timers are appended, and the slot is emptied -/
theorem EInv.next {w wr w1 : World} {g now mb to c : Nat} {v : Nat → Value} {L : Nat → List Tm} {F0 F' : Nat → Prop} {tv tv' : Value} (hM : Mm wr g now mb v (Lc now to L c) F') (hb : ∀ b, tv.ownBlock = some b → ¬ F' b ∧ w.heap.size ≤ b) (hs : Step w wr F0 F')
    (hc : c < 448) (hr : reached now to c) (hrow : w1.ownsRow 0 42 2 tv' ((Tc now to L c).length + (L c).length) (encs (Tc now to L c) ++ encs (L c))) (hg : wr.grownBy w1 tv.ownBlock) (hat : tv'.ownBlock = tv.ownBlock ∨ tv'.ownBlock = some wr.heap.size) :
    EInv w g now mb to L F0 (c + 1) tv' (w1.setCell ⟨g, 1 + c, none⟩ (.slice none 0 0)) := by
  have s1 : Step wr w1 (fun k => tv.ownBlock = some k) (fun k => tv.ownBlock = some k) := Step.of_grown hg (fun k e => e)
  have hM1 := hM.far s1 (fun k hk e => (hb k e).1 hk)
  obtain ⟨v2, F2, hM2, s2⟩ := hM1.nil hc
  have hnew : ∀ b, tv'.ownBlock = some b → ¬ F' b ∧ w.heap.size ≤ b := fun b e => by
    rcases hat with h | h
    · exact hb b (h ▸ e)
    · rw [h] at e
      injection e with e
      exact ⟨fun hf => by have := hM.low b hf; omega, by have := hs.size; omega⟩
  refine ⟨v2, F2, by rw [Lc_step hr]; exact hM2, ?_, fun b e => ⟨fun hf => ?_, (hnew b e).2⟩, ?_⟩
  · rw [Tc_step hr, encs_append, List.length_append]
    exact s2.row hrow (fun b e => (hnew b e).1)
  · rcases s2.grow b hf with h | ⟨h, _⟩
    · exact (hnew b e).1 h
    · have := row_lt hrow e
      omega
  · exact (hs.beyond s1 (fun k hk => (hb k hk).2)).trans s2

theorem reached_at {now to k j : Nat} (hj : j < 64) : reached now to (64 * k + j) ↔ dig now k ≤ j ∧ (k < lev now to ∨ (k = lev now to ∧ j ≤ dig to (lev now to))) := by
  unfold reached
  rw [show (64 * k + j) / 64 = k by omega, show (64 * k + j) % 64 = j by omega]

theorem Lc_self (now to : Nat) (L : Nat → List Tm) (c : Nat) : Lc now to L c c = L c := by simp [Lc]
theorem EInv.next' {w wr w1 : World} {g now mb to k j : Nat} {v : Nat → Value} {L : Nat → List Tm} {F0 F' : Nat → Prop} {tv tv' : Value} (hM : Mm wr g now mb v (Lc now to L (64 * k + j)) F') (hb : ∀ b, tv.ownBlock = some b → ¬ F' b ∧ w.heap.size ≤ b) (hs : Step w wr F0 F')
    (hc : 64 * k + j < 448) (hr : reached now to (64 * k + j)) (hrow : w1.ownsRow 0 42 2 tv' ((Tc now to L (64 * k + j)).length + (L (64 * k + j)).length) (encs (Tc now to L (64 * k + j)) ++ encs (L (64 * k + j)))) (hg : wr.grownBy w1 tv.ownBlock) (hat : tv'.ownBlock = tv.ownBlock ∨ tv'.ownBlock = some wr.heap.size) :
    EInv w g now mb to L F0 (64 * k + (j + 1)) tv' (w1.setCell ⟨g, 1 + k * 64 + j, none⟩ (.slice none 0 0)) := by
  rw [show 1 + k * 64 + j = 1 + (64 * k + j) by omega]
  exact EInv.next hM hb hs hc hr hrow hg hat

set_option maxHeartbeats 3200000 in
set_option maxRecDepth 100000 in
theorem empty_walk (w : World) (g now mb to : Nat) (v : Nat → Value) (L : Nat → List Tm) (F0 : Nat → Prop) (hM : Mm w g now mb v L F0) (h1 : now ≤ to) (h2 : to ≤ 1099511627776)
    (hT : ∀ c, c < 448 → (Tc now to L c).length + (L c).length ≤ 65536) :
    Calls Try.prog 27 #[.pointer (some ⟨g, 0, none⟩), .int .i64 to] w fun e w' => ∃ tv, e = .returned tv ∧ EInv w g now mb to L F0 448 tv w' := by
  obtain ⟨i0, hi, hz0, hz1, hz2⟩ := info_parts infoT
  have hn : now ≤ 1099511627776 := by omega
  obtain ⟨l6, l1, l2⟩ := lev_spec hn h2
  have HL1 := Lib.hid l1
  have HL2 := Lib.hid l2
  have I0 := Lib.hid (EInv.start (to := to) hM)
  have HT := Lib.hid hT
  clear l1 l2 hM hT
  go_enter Try.func27, Try.ntmps27
  go_wp2_with fail
  go_loopw [5, 10] (fun tv i wr => ∃ k : Nat, k ≤ lev now to ∧ i = .int .i64 k ∧ Hid (EInv w g now mb to L F0 (64 * k) tv wr)) (fun _ i _ => 7 - (intOf i).toNat)
  case atStart => exact ⟨0, Nat.zero_le _, rfl, I0⟩
  case round =>
    obtain ⟨k, hk, rfl, HE⟩ := hrel

    have hki : (k : Int) < 7 := by omega
    have hdk := dig_lt now k
    have c0 : wr.cell? ⟨g, 0, none⟩ = some (.int .i64 now) := by obtain ⟨v', F', hM', _⟩ := HE.out; exact hM'.cell0
    by_cases hlt : k < lev now to
    · have hq : (((abv now k : Nat) : Int) == ((abv to k : Nat) : Int)) = false := by
        have := HL2.out k hlt
        simp; omega
      go_wp2_with fail
      refine (above_any now k (by omega) wr).mono ?_
      rintro e w' ⟨rfl, rfl⟩
      go_wp2_with fail
      refine (above_any to k (by omega) wr).mono ?_
      rintro e w' ⟨rfl, rfl⟩
      go_wp2_with fail
      refine (digit_any now k (by omega) wr).mono ?_
      rintro e w' ⟨rfl, rfl⟩
      go_wp2_with fail
      obtain ⟨wo, hwo⟩ : ∃ wo : World, wo = wr := ⟨_, rfl⟩
      rw [← hwo]
      rw [← hwo] at c0 HE
      clear hwo
      go_loopw [5, 9] (fun tv i wq => ∃ j : Nat, dig now k ≤ j ∧ j ≤ 63 + 1 ∧ i = .int .i64 j ∧ Hid (EInv w g now mb to L F0 (64 * k + j) tv wq)) (fun _ i _ => 63 + 1 - (intOf i).toNat)
      case atStart => exact ⟨dig now k, Nat.le_refl _, by omega, rfl, Lib.hid (HE.out.jump (by omega) (fun q q1 q2 hr => by
        have e : q = 64 * k + (q - 64 * k) := by omega
        rw [e, reached_at (by omega)] at hr
        omega))⟩
      case round =>
        obtain ⟨j, hj1, hj2, rfl, HJ⟩ := hrel
        by_cases hjl : j ≤ 63
        · have hji : (j : Int) ≤ 63 := by omega
          have hj64 : (j : Int) < 64 := by omega
          have hq4 : 64 * k + j < 448 := by omega
          have hreach : reached now to (64 * k + j) := (reached_at (by omega)).2 ⟨hj1, .inl hlt⟩
          obtain ⟨v', F', hM', hrow, hb, hs⟩ := HJ.out
          have cS := hM'.cellS hq4
          rw [show 1 + (64 * k + j) = 1 + k * 64 + j by omega] at cS
          have fS := hM'.free (1 + k * 64 + j)
          have hrq := hM'.rows _ hq4
          rw [Lc_self] at hrq
          have hlen := HT.out _ hq4
          have hgl := hM'.lt
          have hng : some g ≠ u5.ownBlock := fun e => (hb g e.symm).1 hM'.gF
          have HM' := Lib.hid hM'
          have HBB := Lib.hid hb
          have HSS := Lib.hid hs
          clear hM' hb hs c0
          go_wp2_with (at_builtin; refine wpList_append_row rfl (.tmp 38) (.tmp 46) 38 rfl 0 42 i0 _ 2 16 Try.underlying38 hi hz0 hz1 hz2 rfl (by omega) u5 _ _ rfl hrow (v' (64 * k + j)) 0 _ _ rfl hrq (encs_cells _) (by simp only [maxLen]; omega) (by omega) (Nat.zero_le _) ?_; intro tv' w1 hown1 hg1 hat1; have cS1 := (hg1.cell_far ⟨g, 1 + k * 64 + j, none⟩ hgl hng).trans cS; have fS1 := (hg1.frozen_far ⟨g, 1 + k * 64 + j, none⟩ hgl hng).trans fS)
          exact ⟨⟨j + 1, by omega, by omega, by go_num, Lib.hid (EInv.next' HM'.out HBB.out HSS.out hq4 hreach hown1 hg1 hat1)⟩, by simp [intOf]; omega⟩
        · have hje : j = 63 + 1 := by omega
          have hji : ¬ ((j : Int) ≤ 63) := by omega
          have HJJ := Lib.hid hje
          clear hje c0
          go_wp2_with fail
          go_roundw
          case rel => exact ⟨k + 1, by omega, by go_num, by have e : 64 * (k + 1) = 64 * k + j := by (have := HJJ.out; omega)
                                                            rw [e]; exact HJ⟩
          case measure => simp [intOf]; omega
    · have hke : k = lev now to := by omega
      have hq : (((abv now k : Nat) : Int) == ((abv to k : Nat) : Int)) = true := by rw [hke, HL1.out]; simp
      have hdl : dig now k ≤ dig to k := by rw [hke]; exact dig_ge h1 hn h2
      have hdt := dig_lt to k
      have HKE := Lib.hid hke
      clear hke
      go_wp2_with fail
      refine (above_any now k (by omega) wr).mono ?_
      rintro e w' ⟨rfl, rfl⟩
      go_wp2_with fail
      refine (above_any to k (by omega) wr).mono ?_
      rintro e w' ⟨rfl, rfl⟩
      go_wp2_with fail
      refine (digit_any to k (by omega) wr).mono ?_
      rintro e w' ⟨rfl, rfl⟩
      go_wp2_with fail
      refine (digit_any now k (by omega) wr).mono ?_
      rintro e w' ⟨rfl, rfl⟩
      go_wp2_with fail
      obtain ⟨wo, hwo⟩ : ∃ wo : World, wo = wr := ⟨_, rfl⟩
      rw [← hwo]
      rw [← hwo] at c0 HE
      clear hwo
      go_loopw [5, 9] (fun tv i wq => ∃ j : Nat, dig now k ≤ j ∧ j ≤ dig to k + 1 ∧ i = .int .i64 j ∧ Hid (EInv w g now mb to L F0 (64 * k + j) tv wq)) (fun _ i _ => dig to k + 1 - (intOf i).toNat)
      case atStart => exact ⟨dig now k, Nat.le_refl _, by omega, rfl, Lib.hid (HE.out.jump (by omega) (fun q q1 q2 hr => by
        have e : q = 64 * k + (q - 64 * k) := by omega
        rw [e, reached_at (by omega)] at hr
        omega))⟩
      case round =>
        obtain ⟨j, hj1, hj2, rfl, HJ⟩ := hrel
        by_cases hjl : j ≤ dig to k
        · have hji : (j : Int) ≤ ((dig to k : Nat) : Int) := by omega
          have hj64 : (j : Int) < 64 := by omega
          have hq4 : 64 * k + j < 448 := by omega
          have hreach : reached now to (64 * k + j) := (reached_at (by omega)).2 ⟨hj1, .inr ⟨HKE.out, by rw [← HKE.out]; exact hjl⟩⟩
          obtain ⟨v', F', hM', hrow, hb, hs⟩ := HJ.out
          have cS := hM'.cellS hq4
          rw [show 1 + (64 * k + j) = 1 + k * 64 + j by omega] at cS
          have fS := hM'.free (1 + k * 64 + j)
          have hrq := hM'.rows _ hq4
          rw [Lc_self] at hrq
          have hlen := HT.out _ hq4
          have hgl := hM'.lt
          have hng : some g ≠ u5.ownBlock := fun e => (hb g e.symm).1 hM'.gF
          have HM' := Lib.hid hM'
          have HBB := Lib.hid hb
          have HSS := Lib.hid hs
          clear hM' hb hs c0
          go_wp2_with (at_builtin; refine wpList_append_row rfl (.tmp 38) (.tmp 46) 38 rfl 0 42 i0 _ 2 16 Try.underlying38 hi hz0 hz1 hz2 rfl (by omega) u5 _ _ rfl hrow (v' (64 * k + j)) 0 _ _ rfl hrq (encs_cells _) (by simp only [maxLen]; omega) (by omega) (Nat.zero_le _) ?_; intro tv' w1 hown1 hg1 hat1; have cS1 := (hg1.cell_far ⟨g, 1 + k * 64 + j, none⟩ hgl hng).trans cS; have fS1 := (hg1.frozen_far ⟨g, 1 + k * 64 + j, none⟩ hgl hng).trans fS)
          exact ⟨⟨j + 1, by omega, by omega, by go_num, Lib.hid (EInv.next' HM'.out HBB.out HSS.out hq4 hreach hown1 hg1 hat1)⟩, by simp [intOf]; omega⟩
        · have hje : j = dig to k + 1 := by omega
          have hji : ¬ ((j : Int) ≤ ((dig to k : Nat) : Int)) := by omega
          have HJJ := Lib.hid hje
          clear hje c0
          go_wp2_with fail
          go_ret
          refine ⟨_, rfl, HJ.out.jump (by omega) (fun q q1 q2 hr => ?_)⟩
          have h3 := HJJ.out
          unfold reached at hr
          rw [← HKE.out] at hr
          omega
end Go.Proofs.Ytcobjejaflikjaa.WEmpty
