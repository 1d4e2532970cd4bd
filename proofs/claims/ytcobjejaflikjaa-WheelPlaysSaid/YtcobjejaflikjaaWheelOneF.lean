/- Layer 2: one wheel among other things that a law has made: its calls turn only its own blocks. -/
import Derived.Test.YtcobjejaflikjaaWheelOne
namespace Go.Proofs.Ytcobjejaflikjaa.WOneF
open Go.RowKit Go.Maps WMath WPure Mem Step WObj WOrd WMm WLib WDel WOps WSet WMin WNext AppendRow WEmpty WSort WAdv WAdw WOne

/-- a wheel of the law's own, in the blocks F -/
def OneF (W w : World) (g now : Nat) (S : List Tm) (F : Nat → Prop) : Prop := Wh w g now S F ∧ Below W.heap.size W w ∧ ∀ k, F k → W.heap.size ≤ k
section
variable {W w w' : World} {g now : Nat} {S : List Tm} {F : Nat → Prop}
theorem OneF.below (h : OneF W w g now S F) : Below W.heap.size W w := h.2.1
theorem OneF.low (h : OneF W w g now S F) : ∀ k, F k → k < w.heap.size := by obtain ⟨⟨_, _, _, _, _, _, _, _, h, _⟩, _⟩ := h; exact h
theorem OneF.one (h : OneF W w g now S F) : WOne.One W w g now S := ⟨F, h⟩
/-- another thing of the law's own has turned -/
theorem OneF.far {G G' : Nat → Prop} (h : OneF W w g now S F) (s : Step w w' G G') (hn : ∀ k, F k → ¬ G k) (hG : ∀ k, G k → W.heap.size ≤ k) : OneF W w' g now S F :=
  ⟨h.1.far s hn, below_step h.2.1 s hG, h.2.2⟩
theorem OneF.bnd (h : OneF W w g now S F) : now ≤ 1099511627776 ∧ (∀ t ∈ S, now ≤ t.2 ∧ t.2 ≤ 1099511627776 ∧ t.1 ≤ 1099511627776) ∧ (S.map Prod.fst).Nodup ∧ S.length ≤ 4096 := by
  obtain ⟨⟨mb, F0, D, ⟨v, L, hM, hn, hP, hB⟩, _, _, _, _, _, hnd, hid, hlen⟩, _⟩ := h
  exact ⟨hn, fun t ht => ⟨(hB t ht).1, (hB t ht).2, hid t ht⟩, hnd, hlen⟩
/-- what lies apart stays apart -/
theorem apart {F' : Nat → Prop} (s : Step w w' F F') {b : Nat} (hb : b < w.heap.size) (hn : ¬ F b) : ¬ F' b := fun h => by
  rcases s.grow b h with h1 | ⟨h1, _⟩
  · exact hn h1
  · omega
end
theorem f_new (W w : World) (h : Below W.heap.size W w) :
    Calls Try.prog 11 #[] w fun e w' => ∃ g F, e = .returned (.pointer (some ⟨g, 0, none⟩)) ∧ OneF W w' g 0 [] F ∧ Step w w' (fun _ => False) F := by
  refine (new_wh w).mono ?_
  rintro e w' ⟨g, F, rfl, h1, s⟩
  exact ⟨g, F, rfl, ⟨h1, below_step h s (fun _ h => h.elim), grow_above h s (fun _ h => h.elim)⟩, s⟩
theorem f_set {W w : World} {g now : Nat} {S : List Tm} {F : Nat → Prop} (h : OneF W w g now S F) (x a : Int) (h1 : -9223372036854775808 ≤ x) (h2 : x ≤ 9223372036854775807) :
    Calls Try.prog 13 #[.pointer (some ⟨g, 0, none⟩), .int .i64 x, .int .i64 a] w fun e w' => e = .returned (.int .i64 (setE now S x a)) ∧ ∃ F', OneF W w' g now (setS now S x a) F' ∧ Step w w' F F' := by
  obtain ⟨q1, q2, q3⟩ := h
  refine (set_any w g now x a S F q1 h1 h2).mono ?_
  rintro e w' ⟨rfl, F', q4, s⟩
  exact ⟨rfl, F', ⟨q4, below_step q2 s q3, grow_above q2 s q3⟩, s⟩
theorem f_cancel {W w : World} {g now : Nat} {S : List Tm} {F : Nat → Prop} (h : OneF W w g now S F) (x : Int) (h1 : -9223372036854775808 ≤ x) (h2 : x ≤ 9223372036854775807) :
    Calls Try.prog 16 #[.pointer (some ⟨g, 0, none⟩), .int .i64 x] w fun e w' => e = .returned (.bool (hasId S x)) ∧ ∃ F', OneF W w' g now (without S x) F' ∧ Step w w' F F' := by
  obtain ⟨q1, q2, q3⟩ := h
  refine (cancel_any w g now x S F q1 h1 h2).mono ?_
  rintro e w' ⟨rfl, F', q4, s⟩
  exact ⟨rfl, F', ⟨q4, below_step q2 s q3, grow_above q2 s q3⟩, s⟩
theorem f_next {W w : World} {g now : Nat} {S : List Tm} {F : Nat → Prop} (h : OneF W w g now S F) :
    Calls Try.prog 17 #[.pointer (some ⟨g, 0, none⟩)] w fun e w' =>
      ((∃ m : Tm, FirstOf m S ∧ e = .returned (.tuple #[.agg #[.int .i64 m.1, .int .i64 m.2], .bool true])) ∨ (S = [] ∧ e = .returned (.tuple #[.agg #[.int .i64 0, .int .i64 0], .bool false]))) ∧ OneF W w' g now S F ∧ Below w.heap.size w w' := by
  refine (next_any w g now S F h.1).mono ?_
  rintro e w' ⟨he, hb⟩
  exact ⟨he, h.far (Step.of_below hb (fun _ => False)) (fun _ _ h => h) (fun _ h => h.elim), hb⟩
theorem f_adv {W w : World} {g now : Nat} {S : List Tm} {F : Nat → Prop} (h : OneF W w g now S F) (to : Int) :
    Calls Try.prog 15 #[.pointer (some ⟨g, 0, none⟩), .int .i64 to] w fun e w' =>
      ((to < now ∨ 1099511627776 < to) ∧ e = .returned (.tuple #[.slice none 0 0, .int .i64 20]) ∧ w = w') ∨
      (∃ (n : Nat) (fv : Value) (X : List Tm) (F' : Nat → Prop), (n : Int) = to ∧ now ≤ n ∧ n ≤ 1099511627776 ∧ e = .returned (.tuple #[fv, .int .i64 0]) ∧ X.Perm (S.filter (isDue n)) ∧ Rising X ∧
        w'.ownsRow 0 42 2 fv X.length (encs X) ∧ (∀ b, fv.ownBlock = some b → ¬ F' b ∧ w.heap.size ≤ b) ∧ OneF W w' g n (S.filter (isLate n)) F' ∧ Step w w' F F') := by
  obtain ⟨q1, q2, q3⟩ := h
  refine (advance_any w g now to S F q1).mono ?_
  rintro e w' (⟨h1, rfl, rfl⟩ | ⟨n, fv, X, F', h1, h2, h3, rfl, h4, h5, h6, h7, h8, s⟩)
  · exact .inl ⟨h1, rfl, rfl⟩
  · exact .inr ⟨n, fv, X, F', h1, h2, h3, rfl, h4, h5, h6, h7, ⟨h8, below_step q2 s q3, grow_above q2 s q3⟩, s⟩
end Go.Proofs.Ytcobjejaflikjaa.WOneF
