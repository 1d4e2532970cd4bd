/- Layer 2: one wheel that a law has made: its calls, the world below the law's own blocks as it was; the anchor holds. -/
import Derived.Test.YtcobjejaflikjaaWheelAdw
import Derived.RegionCalls
namespace Go.Proofs.Ytcobjejaflikjaa.WOne
open Go.RowKit Go.Maps WMath WPure Mem Step WObj WOrd WMm WLib WDel WOps WSet WMin WNext AppendRow WEmpty WSort WAdv WAdw

/-- a wheel of the law's own -/
def One (W w : World) (g now : Nat) (S : List Tm) : Prop := ∃ F, Wh w g now S F ∧ Below W.heap.size W w ∧ ∀ k, F k → W.heap.size ≤ k
theorem below_step {W w w' : World} {F F' : Nat → Prop} (h : Below W.heap.size W w) (s : Step w w' F F') (hF : ∀ k, F k → W.heap.size ≤ k) : Below W.heap.size W w' :=
  h.trans ⟨s.os, s.tape, s.output, s.size, fun k hk => s.block k (Nat.lt_of_lt_of_le hk h.size) (fun hf => by have := hF k hf; omega)⟩
theorem grow_above {W w w' : World} {F F' : Nat → Prop} (h : Below W.heap.size W w) (s : Step w w' F F') (hF : ∀ k, F k → W.heap.size ≤ k) : ∀ k, F' k → W.heap.size ≤ k := fun k hk => by
  rcases s.grow k hk with h1 | ⟨h1, _⟩
  · exact hF k h1
  · have := h.size; omega
theorem One.below {W w : World} {g now : Nat} {S : List Tm} (h : One W w g now S) : Below W.heap.size W w := by obtain ⟨_, _, h, _⟩ := h; exact h
theorem One.far {W w w' : World} {g now : Nat} {S : List Tm} (h : One W w g now S) (hb : Below w.heap.size w w') : One W w' g now S := by
  obtain ⟨F, h1, h2, h3⟩ := h
  have s := Step.of_below hb (fun _ => False)
  exact ⟨F, h1.far s (fun _ _ h => h), below_step h2 s (fun _ h => h.elim), h3⟩
theorem one_new (W w : World) (h : Below W.heap.size W w) :
    Calls Try.prog 11 #[] w fun e w' => ∃ g, e = .returned (.pointer (some ⟨g, 0, none⟩)) ∧ One W w' g 0 [] := by
  refine (new_wh w).mono ?_
  rintro e w' ⟨g, F, rfl, h1, s⟩
  exact ⟨g, rfl, F, h1, below_step h s (fun _ h => h.elim), grow_above h s (fun _ h => h.elim)⟩
theorem one_set {W w : World} {g now : Nat} {S : List Tm} (h : One W w g now S) (x a : Int) (h1 : -9223372036854775808 ≤ x) (h2 : x ≤ 9223372036854775807) :
    Calls Try.prog 13 #[.pointer (some ⟨g, 0, none⟩), .int .i64 x, .int .i64 a] w fun e w' => e = .returned (.int .i64 (setE now S x a)) ∧ One W w' g now (setS now S x a) := by
  obtain ⟨F, q1, q2, q3⟩ := h
  refine (set_any w g now x a S F q1 h1 h2).mono ?_
  rintro e w' ⟨rfl, F', q4, s⟩
  exact ⟨rfl, F', q4, below_step q2 s q3, grow_above q2 s q3⟩
theorem one_cancel {W w : World} {g now : Nat} {S : List Tm} (h : One W w g now S) (x : Int) (h1 : -9223372036854775808 ≤ x) (h2 : x ≤ 9223372036854775807) :
    Calls Try.prog 16 #[.pointer (some ⟨g, 0, none⟩), .int .i64 x] w fun e w' => e = .returned (.bool (hasId S x)) ∧ One W w' g now (without S x) := by
  obtain ⟨F, q1, q2, q3⟩ := h
  refine (cancel_any w g now x S F q1 h1 h2).mono ?_
  rintro e w' ⟨rfl, F', q4, s⟩
  exact ⟨rfl, F', q4, below_step q2 s q3, grow_above q2 s q3⟩
theorem one_due {W w : World} {g now : Nat} {S : List Tm} (h : One W w g now S) (x : Int) (h1 : -9223372036854775808 ≤ x) (h2 : x ≤ 9223372036854775807) :
    Calls Try.prog 19 #[.pointer (some ⟨g, 0, none⟩), .int .i64 x] w fun e w' => (∃ c : Int, e = .returned (.tuple #[.int .i64 c, .bool (hasId S x)]) ∧ (∀ t ∈ S, (t.1 : Int) = x → c = t.2) ∧ ((∀ t ∈ S, (t.1 : Int) ≠ x) → c = 0)) ∧ w = w' := by
  obtain ⟨F, q1, q2, q3⟩ := h
  exact due_any w g now x S F q1 h1 h2
theorem one_len {W w : World} {g now : Nat} {S : List Tm} (h : One W w g now S) :
    Calls Try.prog 14 #[.pointer (some ⟨g, 0, none⟩)] w fun e w' => e = .returned (.int .i64 (S.length : Nat)) ∧ w = w' := by
  obtain ⟨F, q1, q2, q3⟩ := h
  exact len_any w g now S F q1
theorem one_now {W w : World} {g now : Nat} {S : List Tm} (h : One W w g now S) :
    Calls Try.prog 18 #[.pointer (some ⟨g, 0, none⟩)] w fun e w' => e = .returned (.int .i64 now) ∧ w = w' := by
  obtain ⟨F, q1, q2, q3⟩ := h
  exact now_any w g now S F q1
theorem one_next {W w : World} {g now : Nat} {S : List Tm} (h : One W w g now S) :
    Calls Try.prog 17 #[.pointer (some ⟨g, 0, none⟩)] w fun e w' =>
      ((∃ m : Tm, FirstOf m S ∧ e = .returned (.tuple #[.agg #[.int .i64 m.1, .int .i64 m.2], .bool true])) ∨ (S = [] ∧ e = .returned (.tuple #[.agg #[.int .i64 0, .int .i64 0], .bool false]))) ∧ One W w' g now S := by
  have h0 := h
  obtain ⟨F, q1, q2, q3⟩ := h
  refine (next_any w g now S F q1).mono ?_
  rintro e w' ⟨he, hb⟩
  exact ⟨he, h0.far hb⟩
/-- a list that lies in a slice -/
def ListAt (w : World) (v : Value) (X : List Tm) : Prop := ∃ p cap, v = .slice p X.length cap ∧ (0 < X.length → ∃ b, p = some ⟨b, 0, none⟩ ∧ RowAt w b X ∧ b < w.heap.size)
theorem listAt {w : World} {v : Value} {X : List Tm} (h : w.ownsRow 0 42 2 v X.length (encs X)) : ListAt w v X := by
  obtain ⟨p, cap, hv, hp⟩ := row_shape h
  refine ⟨p, cap, hv, fun h0 => ?_⟩
  obtain ⟨b, rfl, hb⟩ := hp h0
  exact ⟨b, rfl, row_at h hb, row_lt h hb⟩
theorem one_adv {W w : World} {g now : Nat} {S : List Tm} (h : One W w g now S) (to : Int) :
    Calls Try.prog 15 #[.pointer (some ⟨g, 0, none⟩), .int .i64 to] w fun e w' =>
      ((to < now ∨ 1099511627776 < to) ∧ e = .returned (.tuple #[.slice none 0 0, .int .i64 20]) ∧ w = w') ∨
      (∃ (n : Nat) (fv : Value) (X : List Tm), (n : Int) = to ∧ now ≤ n ∧ n ≤ 1099511627776 ∧ e = .returned (.tuple #[fv, .int .i64 0]) ∧ X.Perm (S.filter (isDue n)) ∧ Rising X ∧ ListAt w' fv X ∧ One W w' g n (S.filter (isLate n))) := by
  obtain ⟨F, q1, q2, q3⟩ := h
  refine (advance_any w g now to S F q1).mono ?_
  rintro e w' (⟨h1, rfl, rfl⟩ | ⟨n, fv, X, F', h1, h2, h3, rfl, h4, h5, h6, h7, h8, s⟩)
  · exact .inl ⟨h1, rfl, rfl⟩
  · exact .inr ⟨n, fv, X, h1, h2, h3, rfl, h4, h5, listAt h6, F', h8, below_step q2 s q3, grow_above q2 s q3⟩

set_option maxHeartbeats 1600000 in
theorem anchor_any (w : World) :
    Calls Try.prog 10 #[] w fun e w' => e = .returned (.bool true) ∧ Below w.heap.size w w' := by
  go_enter Try.func10, Try.ntmps10
  go_wp2_with fail
  refine (one_new w w (Below.refl _ _)).mono ?_
  rintro e w1 ⟨g, rfl, O1⟩
  have hset := one_set O1 3 70 (by decide) (by decide)
  have e1 : setE 0 [] 3 70 = 0 := by decide
  have e2 : setS 0 [] 3 70 = [(3, 70)] := by decide
  rw [e1, e2] at hset
  have HSET := Lib.hid hset
  clear hset e1 e2 O1
  go_wp2_with fail
  refine HSET.out.mono ?_
  rintro e w2 ⟨rfl, O2⟩
  clear HSET
  have HLEN := Lib.hid (one_len O2)
  have HADV := Lib.hid (one_adv O2 70)
  clear O2
  go_wp2_with fail
  refine HLEN.out.mono ?_
  rintro e w' ⟨rfl, rfl⟩
  go_wp2_with fail
  refine HADV.out.mono ?_
  rintro e w3 (⟨h1, _⟩ | ⟨n, fv, X, h1, h2, h3, rfl, h4, h5, h6, O3⟩)
  · omega
  · have hn : n = 70 := by omega
    subst hn
    have hX : X = [(3, 70)] := by
      have e : ([(3, 70)] : List Tm).filter (isDue 70) = [(3, 70)] := by decide
      rw [e] at h4
      exact List.perm_singleton.1 h4
    subst hX
    obtain ⟨p, cap, rfl, hp⟩ := h6
    obtain ⟨b, rfl, hr, hbl⟩ := hp (by decide)
    obtain ⟨c0, c1⟩ := hr 0 (3, 70) rfl
    have HNOW := Lib.hid (one_now O3)
    have HB := Lib.hid O3.below
    clear h4 h5 hr O3 HADV HLEN hp
    go_wp2_with fail
    refine HNOW.out.mono ?_
    rintro e w' ⟨rfl, rfl⟩
    go_wp2_with fail
    go_ret
    exact ⟨rfl, HB.out⟩
end Go.Proofs.Ytcobjejaflikjaa.WOne
