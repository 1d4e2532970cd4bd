/- The numbers of a wheel of levels of sixty-four slots, apart from any program: which level and slot a time has, which slots are reached when time passes, which slot holds the first. -/
namespace Go.Proofs.Ytcobjejaflikjaa.WMath

/-- a time's slot on a level -/
def dig (t l : Nat) : Nat := t / 64 ^ l % 64
/-- what of a time is left above a level -/
def abv (t l : Nat) : Nat := t / 64 ^ (l + 1)
def levF (a b : Nat) : Nat → Nat → Nat
  | 0, l => l
  | f + 1, l => if abv a l = abv b l then l else levF a b f (l + 1)
/-- the lowest level that holds both -/
def lev (a b : Nat) : Nat := levF a b 7 0
/-- all slots of all levels in one row -/
def slot (now t : Nat) : Nat := 64 * lev now t + dig t (lev now t)

theorem dig_lt (t l : Nat) : dig t l < 64 := Nat.mod_lt _ (by decide)
theorem abv_add (t l k : Nat) : abv t (l + k) = abv t l / 64 ^ k := by
  unfold abv
  rw [Nat.div_div_eq_div_mul, ← Nat.pow_add]
  congr 2
  omega
theorem abv_up {a b l l' : Nat} (h : abv a l = abv b l) (hl : l ≤ l') : abv a l' = abv b l' := by
  obtain ⟨k, rfl⟩ := Nat.exists_eq_add_of_le hl
  rw [abv_add, abv_add, h]
theorem abv_le {a b : Nat} (l : Nat) (h : a ≤ b) : abv a l ≤ abv b l := Nat.div_le_div_right h
theorem split_at (t l : Nat) : t / 64 ^ l = 64 * abv t l + dig t l := by
  unfold abv dig
  rw [Nat.pow_succ, ← Nat.div_div_eq_div_mul]
  omega
theorem div_le {a b : Nat} (l : Nat) (h : a ≤ b) : a / 64 ^ l ≤ b / 64 ^ l := Nat.div_le_div_right h
theorem abv_pred (t l : Nat) : abv t l = t / 64 ^ (l + 1) := rfl

theorem levF_spec (a b : Nat) : ∀ f l, abv a (l + f) = abv b (l + f) →
    l ≤ levF a b f l ∧ levF a b f l ≤ l + f ∧ abv a (levF a b f l) = abv b (levF a b f l) ∧ ∀ l', l ≤ l' → l' < levF a b f l → abv a l' ≠ abv b l'
  | 0, l, h => ⟨Nat.le_refl _, Nat.le_refl _, h, fun l' h1 h2 => by simp only [levF] at h2; omega⟩
  | f + 1, l, h => by
    unfold levF
    split
    · rename_i he
      exact ⟨Nat.le_refl _, by omega, he, fun l' h1 h2 => by omega⟩
    · rename_i he
      have h' : abv a (l + 1 + f) = abv b (l + 1 + f) := by rw [show l + 1 + f = l + (f + 1) by omega]; exact h
      obtain ⟨h1, h2, h3, h4⟩ := levF_spec a b f (l + 1) h'
      refine ⟨by omega, by omega, h3, fun l' hl hl' => ?_⟩
      by_cases e : l' = l
      · subst e; exact he
      · exact h4 l' (by omega) hl'

theorem abv_top {a : Nat} (h : a ≤ 1099511627776) : abv a 6 = 0 := by
  unfold abv
  apply Nat.div_eq_of_lt
  have : (64 : Nat) ^ (6 + 1) = 4398046511104 := by decide
  omega

theorem lev_spec {a b : Nat} (ha : a ≤ 1099511627776) (hb : b ≤ 1099511627776) :
    lev a b ≤ 6 ∧ abv a (lev a b) = abv b (lev a b) ∧ ∀ l, l < lev a b → abv a l ≠ abv b l := by
  have h6 : abv a 6 = abv b 6 := by rw [abv_top ha, abv_top hb]
  have h := levF_spec a b 7 0 (abv_up h6 (by decide))
  refine ⟨?_, h.2.2.1, fun l hl => h.2.2.2 l (Nat.zero_le _) hl⟩
  rcases Nat.lt_or_ge 6 (lev a b) with hl | hl
  · exact absurd h6 (h.2.2.2 6 (Nat.zero_le _) hl)
  · exact hl

theorem lev_eq {a b l : Nat} (ha : a ≤ 1099511627776) (hb : b ≤ 1099511627776) (h : abv a l = abv b l) (hn : ∀ l', l' < l → abv a l' ≠ abv b l') : lev a b = l := by
  obtain ⟨_, h1, h2⟩ := lev_spec ha hb
  rcases Nat.lt_trichotomy (lev a b) l with hl | hl | hl
  · exact absurd h1 (hn _ hl)
  · exact hl
  · exact absurd h (h2 _ hl)

theorem slot_div (now t : Nat) : slot now t / 64 = lev now t := by have := dig_lt t (lev now t); unfold slot; omega
theorem slot_mod (now t : Nat) : slot now t % 64 = dig t (lev now t) := by have := dig_lt t (lev now t); unfold slot; omega
theorem slot_lt {now t : Nat} (hn : now ≤ 1099511627776) (ht : t ≤ 1099511627776) : slot now t < 448 := by
  have := dig_lt t (lev now t); have := (lev_spec hn ht).1; unfold slot; omega

/-- a time that is not past lies at or behind now's slot of its level -/
theorem dig_ge {now t : Nat} (h : now ≤ t) (hn : now ≤ 1099511627776) (ht : t ≤ 1099511627776) : dig now (lev now t) ≤ dig t (lev now t) := by
  have h1 := (lev_spec hn ht).2.1
  have h2 := div_le (lev now t) h
  rw [split_at, split_at t, h1] at h2
  omega

theorem lt_of_slot {now a b : Nat} (_ha : now ≤ a) (hb : now ≤ b) (hn : now ≤ 1099511627776) (ha' : a ≤ 1099511627776) (hb' : b ≤ 1099511627776) (h : slot now a < slot now b) : a < b := by
  obtain ⟨_, a1, a2⟩ := lev_spec hn ha'
  obtain ⟨_, b1, b2⟩ := lev_spec hn hb'
  have da := dig_lt a (lev now a)
  have db := dig_lt b (lev now b)
  unfold slot at h
  rcases Nat.lt_trichotomy (lev now a) (lev now b) with hl | hl | hl
  · have e1 : abv now (lev now b - 1) = abv a (lev now b - 1) := abv_up a1 (by omega)
    have e2 := b2 (lev now b - 1) (by omega)
    have e3 := abv_le (lev now b - 1) hb
    rcases Nat.lt_or_ge a b with hab | hab
    · exact hab
    · have := abv_le (lev now b - 1) hab
      omega
  · rw [hl] at h a1 da
    rcases Nat.lt_or_ge a b with hab | hab
    · exact hab
    · have h2 := div_le (lev now b) hab
      rw [split_at, split_at a, ← a1, ← b1] at h2
      omega
  · omega

/-- the slots that are reached when time passes from now to a later time -/
def reached (now to q : Nat) : Prop := dig now (q / 64) ≤ q % 64 ∧ (q / 64 < lev now to ∨ (q / 64 = lev now to ∧ q % 64 ≤ dig to (lev now to)))

theorem reached_of_le {now t to : Nat} (h1 : now ≤ t) (h2 : t ≤ to) (hto : to ≤ 1099511627776) : reached now to (slot now t) := by
  have hn : now ≤ 1099511627776 := by omega
  have ht : t ≤ 1099511627776 := by omega
  obtain ⟨_, t1, t2⟩ := lev_spec hn ht
  obtain ⟨_, o1, o2⟩ := lev_spec hn hto
  unfold reached
  rw [slot_div, slot_mod]
  refine ⟨dig_ge h1 hn ht, ?_⟩
  have em : abv t (lev now to) = abv now (lev now to) := by
    have := abv_le (lev now to) h1
    have := abv_le (lev now to) h2
    omega
  rcases Nat.lt_trichotomy (lev now t) (lev now to) with hl | hl | hl
  · exact .inl hl
  · refine .inr ⟨hl, ?_⟩
    rw [hl]
    have h3 := div_le (lev now to) h2
    rw [split_at, split_at to, em, o1] at h3
    omega
  · exact absurd em.symm (t2 _ hl)

theorem later_of_not {now t to : Nat} (h1 : now ≤ t) (h2 : now ≤ to) (ht : t ≤ 1099511627776) (hto : to ≤ 1099511627776) (h : ¬ reached now to (slot now t)) : to < t ∧ slot to t = slot now t := by
  have hlt : to < t := by
    rcases Nat.lt_or_ge to t with hl | hl
    · exact hl
    · exact absurd (reached_of_le h1 hl hto) h
  have hn : now ≤ 1099511627776 := by omega
  obtain ⟨_, t1, t2⟩ := lev_spec hn ht
  obtain ⟨_, o1, o2⟩ := lev_spec hn hto
  refine ⟨hlt, ?_⟩
  have hd := dig_ge h1 hn ht
  unfold reached at h
  rw [slot_div, slot_mod] at h
  have hle : lev now to ≤ lev now t := by omega
  have e : lev to t = lev now t := by
    refine lev_eq hto ht ((abv_up o1 hle).symm.trans t1) fun l' hl' he => ?_
    rcases Nat.lt_or_ge l' (lev now to) with hm | hm
    · -- then their levels are one, and the digit tells them apart
      rcases Nat.lt_or_ge (lev now to) (lev now t) with hx | hx
      · exact t2 (lev now to) hx (o1.trans (abv_up he (by omega)))
      · have ex : lev now t = lev now to := by omega
        have hdig : dig to (lev now to) < dig t (lev now to) := by rw [ex] at h hd; omega
        have : to / 64 ^ (lev now to) = t / 64 ^ (lev now to) := by
          have := abv_up he (l' := lev now to - 1) (by omega)
          unfold abv at this
          rwa [show lev now to - 1 + 1 = lev now to by omega] at this
        unfold dig at hdig
        rw [this] at hdig
        omega
    · exact t2 l' hl' ((abv_up o1 hm).trans he)
  unfold slot
  rw [e]

/-! ### on integers, as Go reckons -/
theorem shr_dig (t l : Nat) : ((t : Int) / (2 : Int) ^ (l * 6)).tmod 64 = (dig t l : Nat) := by
  have e : ((2 : Int) ^ (l * 6)) = ((64 ^ l : Nat) : Int) := by
    rw [Nat.mul_comm, Nat.pow_mul' |> fun h => show (2:Int)^(6*l) = ((64 ^ l : Nat) : Int) from by rw [Int.pow_mul]; norm_cast]
  rw [e]
  unfold dig
  norm_cast
theorem shr_abv (t l : Nat) : (t : Int) / (2 : Int) ^ ((l + 1) * 6) = (abv t l : Nat) := by
  have e : ((2 : Int) ^ ((l + 1) * 6)) = ((64 ^ (l + 1) : Nat) : Int) := by
    rw [Nat.mul_comm]
    rw [show (2:Int)^(6*(l+1)) = ((64 ^ (l+1) : Nat) : Int) from by rw [Int.pow_mul]; norm_cast]
  rw [e]
  unfold abv
  norm_cast
end Go.Proofs.Ytcobjejaflikjaa.WMath
