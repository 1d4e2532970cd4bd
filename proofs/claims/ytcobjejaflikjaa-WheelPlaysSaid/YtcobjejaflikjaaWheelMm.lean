/- Layer 2: the wheel's blocks, its slots, its map: what each holds, and how one change carries over. -/
import Derived.Test.YtcobjejaflikjaaWheelObj
import Derived.Maps.OwnOps
namespace Go.Proofs.Ytcobjejaflikjaa.WMm
open Go.RowKit WMath WPure Mem Step WObj

def upd {α : Type} (f : Nat → α) (q : Nat) (x : α) : Nat → α := fun i => if i = q then x else f i
theorem upd_same {α : Type} (f : Nat → α) (q : Nat) (x : α) : upd f q x q = x := by simp [upd]
theorem upd_other {α : Type} (f : Nat → α) {q i : Nat} (h : i ≠ q) (x : α) : upd f q x i = f i := by simp [upd, h]

/-- the wheel's block and its slots' rows -/
structure Mm (w : World) (g now mb : Nat) (v : Nat → Value) (L : Nat → List Tm) (F : Nat → Prop) : Prop where
  head : ∃ cs, Has w g 56 cs ∧ cs.size = 450 ∧ cs[0]? = some (.int .i64 now) ∧ cs[449]? = some (.map (some mb)) ∧ ∀ q, q < 448 → cs[1 + q]? = some (v q)
  rows : ∀ q, q < 448 → w.ownsRow 0 42 2 (v q) (L q).length (encs (L q))
  inF : ∀ q, q < 448 → ∀ b, (v q).ownBlock = some b → F b
  ne : ∀ q, q < 448 → (v q).ownBlock ≠ some g
  apart : ∀ q q', q < 448 → q' < 448 → q ≠ q' → ∀ b, (v q).ownBlock = some b → (v q').ownBlock ≠ some b
  gF : F g
  low : ∀ k, F k → k < w.heap.size

section
variable {w w' : World} {g now mb : Nat} {v : Nat → Value} {L : Nat → List Tm} {F : Nat → Prop}
theorem Mm.lt (h : Mm w g now mb v L F) : g < w.heap.size := h.low g h.gF
theorem Mm.cell0 (h : Mm w g now mb v L F) : w.cell? ⟨g, 0, none⟩ = some (.int .i64 now) := by
  obtain ⟨cs, hh, _, h0, _⟩ := h.head
  rw [hh.cell]; exact h0
theorem Mm.cellM (h : Mm w g now mb v L F) : w.cell? ⟨g, 449, none⟩ = some (.map (some mb)) := by
  obtain ⟨cs, hh, _, _, h0, _⟩ := h.head
  rw [hh.cell]; exact h0
theorem Mm.cellS (h : Mm w g now mb v L F) {q : Nat} (hq : q < 448) : w.cell? ⟨g, 1 + q, none⟩ = some (v q) := by
  obtain ⟨cs, hh, _, _, _, h0⟩ := h.head
  rw [hh.cell]; exact h0 q hq
theorem Mm.free (h : Mm w g now mb v L F) (i : Nat) : w.frozen? ⟨g, i, none⟩ = false := by
  obtain ⟨cs, hh, _⟩ := h.head
  exact hh.free i
theorem Mm.far {G G' : Nat → Prop} (h : Mm w g now mb v L F) (s : Step w w' G G') (hn : ∀ k, F k → ¬ G k) : Mm w' g now mb v L F := by
  obtain ⟨cs, hh, h1, h2, h3, h4⟩ := h.head
  exact ⟨⟨cs, s.has hh (hn g h.gF), h1, h2, h3, h4⟩, fun q hq => s.row (h.rows q hq) (fun b hb => hn b (h.inF q hq b hb)), h.inF, h.ne, h.apart, h.gF, fun k hk => Nat.lt_of_lt_of_le (h.low k hk) s.size⟩
/-- the time is set -/
theorem Mm.time (h : Mm w g now mb v L F) (to : Nat) : Mm (w.setCell ⟨g, 0, none⟩ (.int .i64 to)) g to mb v L F := by
  obtain ⟨cs, hh, h1, h2, h3, h4⟩ := h.head
  have s := Step.set_ w (F := fun k => k = g) (g := g) rfl 0 (.int .i64 to)
  refine ⟨⟨_, hh.set_ 0 (.int .i64 to), by simpa using h1, by simp [h1], ?_, fun q hq => ?_⟩, fun q hq => s.row (h.rows q hq) (fun b hb e => h.ne q hq (by rw [hb, e])), h.inF, h.ne, h.apart, h.gF, fun k hk => Nat.lt_of_lt_of_le (h.low k hk) s.size⟩
  · rw [Array.getElem?_setIfInBounds_ne (by omega)]; exact h3
  · rw [Array.getElem?_setIfInBounds_ne (by omega)]; exact h4 q hq
/-- one slot has turned -/
theorem Mm.laid {q : Nat} {l' : List Tm} (h : Mm w g now mb v L F) (hq : q < 448) (hl : Laid w g q (v q) l' w') :
    ∃ v' F', Mm w' g now mb v' (upd L q l') F' ∧ Step w w' F F' := by
  obtain ⟨x, w1, F1, s1, hr, hx, rfl⟩ := hl
  obtain ⟨cs, hh, h1, h2, h3, h4⟩ := h.head
  have hgl := h.lt
  have hng : ¬ ((v q).ownBlock = some g) := h.ne q hq
  have hh1 := s1.has hh hng
  have s2 := Step.set_ w1 (F := fun k => k = g) (g := g) rfl (1 + q) x
  have hxg : x.ownBlock ≠ some g := fun e => by
    rcases s1.grow g (hx g e) with h5 | ⟨h5, _⟩
    · exact hng h5
    · omega
  have hrow : ∀ i, i < 448 → i ≠ q → w1.ownsRow 0 42 2 (v i) (L i).length (encs (L i)) := fun i hi hne => s1.row (h.rows i hi) (fun b hb e => h.apart i q hi hq hne b hb e)
  refine ⟨upd v q x, fun k => F k ∨ x.ownBlock = some k, ⟨⟨_, hh1.set_ (1 + q) x, by simpa using h1, ?_, ?_, fun i hi => ?_⟩, fun i hi => ?_, fun i hi b hb => ?_, fun i hi => ?_, fun i j hi hj hij b hb => ?_, .inl h.gF, fun k hk => ?_⟩, ?_⟩
  · rw [Array.getElem?_setIfInBounds_ne (by omega)]; exact h2
  · rw [Array.getElem?_setIfInBounds_ne (by omega)]; exact h3
  · by_cases e : i = q
    · subst e
      rw [upd_same, Array.getElem?_setIfInBounds_self_of_lt (by omega)]
    · rw [upd_other _ e, Array.getElem?_setIfInBounds_ne (by omega)]; exact h4 i hi
  · by_cases e : i = q
    · subst e
      rw [upd_same, upd_same]
      exact s2.row hr (fun b hb e => hxg (by rw [hb, e]))
    · rw [upd_other _ e, upd_other _ e]
      exact s2.row (hrow i hi e) (fun b hb e => h.ne i hi (by rw [hb, e]))
  · by_cases e : i = q
    · subst e
      rw [upd_same] at hb
      exact .inr hb
    · rw [upd_other _ e] at hb
      exact .inl (h.inF i hi b hb)
  · by_cases e : i = q
    · subst e
      rw [upd_same]
      exact hxg
    · rw [upd_other _ e]
      exact h.ne i hi
  · by_cases e : i = q
    · subst e
      rw [upd_same] at hb
      rw [upd_other _ (fun e => hij e.symm)]
      intro hbj
      rcases s1.grow b (hx b hb) with h5 | ⟨h5, _⟩
      · exact h.apart _ j hi hj hij b h5 hbj
      · have := row_lt (h.rows j hj) hbj
        omega
    · rw [upd_other _ e] at hb
      by_cases e' : j = q
      · subst e'
        rw [upd_same]
        intro hbj
        rcases s1.grow b (hx b hbj) with h5 | ⟨h5, _⟩
        · exact h.apart i _ hi hj hij b hb h5
        · have := row_lt (h.rows i hi) hb
          omega
      · rw [upd_other _ e']
        exact h.apart i j hi hj hij b hb
  · rcases hk with hk | hk
    · exact Nat.lt_of_lt_of_le (Nat.lt_of_lt_of_le (h.low k hk) s1.size) s2.size
    · exact Nat.lt_of_lt_of_le (row_lt hr hk) s2.size
  · have s1' : Step w w1 F (fun k => F k ∨ x.ownBlock = some k) := by
      refine ⟨s1.os, s1.tape, s1.output, s1.size, fun k hk hn => s1.block k hk (fun hf => hn (h.inF q hq k hf)), fun k hk => ?_⟩
      rcases hk with hk | hk
      · exact .inl hk
      · rcases s1.grow k (hx k hk) with h5 | h5
        · exact .inl (h.inF q hq k h5)
        · exact .inr h5
    exact s1'.trans (Step.set_ w1 (F := fun k => F k ∨ x.ownBlock = some k) (g := g) (.inl h.gF) (1 + q) x)
/-- a slot is emptied -/
theorem Mm.nil {q : Nat} (h : Mm w g now mb v L F) (hq : q < 448) :
    ∃ v' F', Mm (w.setCell ⟨g, 1 + q, none⟩ (.slice none 0 0)) g now mb v' (upd L q []) F' ∧ Step w (w.setCell ⟨g, 1 + q, none⟩ (.slice none 0 0)) F F' :=
  h.laid hq ⟨_, w, _, Step.refl w _, World.ownsRow_nil w 0 _ 2, fun b hb => by simp [Value.ownBlock] at hb, rfl⟩
end

/-- the slots: each holds just the timers whose slot it is -/
def Slots (w : World) (g now mb : Nat) (S : List Tm) (F : Nat → Prop) : Prop :=
  ∃ v L, Mm w g now mb v L F ∧ now ≤ 1099511627776 ∧ (∀ q, q < 448 → (L q).Perm (S.filter fun t => slot now t.2 == q)) ∧ ∀ t ∈ S, now ≤ t.2 ∧ t.2 ≤ 1099511627776
theorem Slots.far {w w' : World} {g now mb : Nat} {S : List Tm} {F G G' : Nat → Prop} (h : Slots w g now mb S F) (s : Step w w' G G') (hn : ∀ k, F k → ¬ G k) : Slots w' g now mb S F := by
  obtain ⟨v, L, hM, rest⟩ := h
  exact ⟨v, L, hM.far s hn, rest⟩

theorem put_any {w : World} {g now mb : Nat} {S : List Tm} {F : Nat → Prop} (h : Slots w g now mb S F) (t : Tm) (hl : now ≤ t.2) (ht : t.2 ≤ 1099511627776) (hS : S.length ≤ 65536) :
    Calls Try.prog 26 #[.pointer (some ⟨g, 0, none⟩), .agg #[.int .i64 t.1, .int .i64 t.2]] w fun e w' => e = .returned (.tuple #[]) ∧ ∃ F', Slots w' g now mb (t :: S) F' ∧ Step w w' F F' := by
  obtain ⟨v, L, hM, hn, hP, hB⟩ := h
  have hq := slot_lt hn ht
  obtain ⟨cs, hh, h1, h2, h3, h4⟩ := hM.head
  have hlen : (L (slot now t.2)).length ≤ 1048576 := by
    have := (hP _ hq).length_eq
    have := List.length_filter_le (fun x : Tm => slot now x.2 == slot now t.2) S
    omega
  refine (put_walk now g t hn ht w _ cs hh h2 (v (slot now t.2)) (L (slot now t.2)) (h4 _ hq) (hM.rows _ hq) (hM.ne _ hq) hlen).mono ?_
  rintro e w' ⟨rfl, hl'⟩
  obtain ⟨v', F', hM', s⟩ := hM.laid hq hl'
  refine ⟨rfl, F', ⟨v', _, hM', hn, fun q hq' => ?_, fun x hx => ?_⟩, s⟩
  · by_cases e : q = slot now t.2
    · subst e
      rw [upd_same, List.filter_cons_of_pos (by simp)]
      exact (List.perm_append_singleton t _).trans ((hP _ hq).cons t)
    · rw [upd_other _ e, List.filter_cons_of_neg (by simp; exact fun h => e h.symm)]
      exact hP q hq'
  · rcases List.mem_cons.1 hx with rfl | hx
    · exact ⟨hl, ht⟩
    · exact hB x hx

/-! ### the map -/
open Go.Maps
theorem law : Keyed Try.prog 3 := int_keyed Try.underlying3
theorem zeroI (w : World) : (zeroValue 3).run Try.prog w = .ok (.int .i64 0) w := by kernel_rfl
theorem wf64 {x : Int} (h1 : -9223372036854775808 ≤ x) (h2 : x ≤ 9223372036854775807) : (Lit.int .i64 x).wf = true := by
  simp [Lit.wf, IntKind.min, IntKind.max, IntKind.bits, IntKind.signed]; omega
theorem keyI {x : Int} (h1 : -9223372036854775808 ≤ x) (h2 : x ≤ 9223372036854775807) : keyOf Try.prog 3 (.int .i64 x) = some (.int .i64 x) := keyOf_int_mk Try.underlying3 (wf64 h1 h2)

abbrev OwnM (w : World) (mb n : Nat) (D : DataW Unit) : Prop := w.ownsMap (H := Unit) Try.prog 3 (plainElem Try.prog 3) mb n D

/-- the map holds just the timers of S -/
structure Times (w : World) (mb : Nat) (S : List Tm) (D : DataW Unit) : Prop where
  own : OwnM w mb (Maps.size D) D
  len : Maps.size D = S.length
  has : ∀ x : Int, Maps.has D (.int .i64 x) = true ↔ ∃ t ∈ S, (t.1 : Int) = x
  at_ : ∀ t ∈ S, D.atKey (.int .i64 t.1) (.lit (.int .i64 0)) = .lit (.int .i64 t.2)

theorem own_tight {w : World} {mb n : Nat} {D : DataW Unit} (h : OwnM w mb n D) : OwnM w mb (Maps.size D) D := by
  obtain ⟨es, clock, hb, F, _, rfl⟩ := h
  exact ⟨es, clock, hb, F, by simp [Maps.size, length_sorted], rfl⟩
theorem Times.far {w w' : World} {mb : Nat} {S : List Tm} {D : DataW Unit} {G G' : Nat → Prop} (h : Times w mb S D) (s : Step w w' G G') (hn : ¬ G mb) : Times w' mb S D :=
  ⟨s.map h.own hn, h.len, h.has, h.at_⟩
theorem Times.lt {w : World} {mb : Nat} {S : List Tm} {D : DataW Unit} (h : Times w mb S D) : mb < w.heap.size := h.own.lt
theorem Times.new (w : World) : Times (w.alloc (.map #[] 0)) w.heap.size [] (.map []) :=
  ⟨World.ownsMap_made w _ _ _, rfl, fun x => by simp [Maps.has_eq], fun t ht => by cases ht⟩
theorem keyLit (x : Int) : WideAt.IsKeyLit (.int .i64 x) := trivial
theorem lit_ne {x y : Int} (h : x ≠ y) : (Lit.int .i64 x) ≠ (Lit.int .i64 y) := fun e => h (by injection e)
theorem Times.put {w w' : World} {mb n : Nat} {S : List Tm} {D : DataW Unit} {t : Tm} (h : Times w mb S D) (hw : OwnM w' mb n (D.put (.int .i64 t.1) (.lit (.int .i64 t.2)))) (hn : ∀ u ∈ S, u.1 ≠ t.1) :
    Times w' mb (t :: S) (D.put (.int .i64 t.1) (.lit (.int .i64 t.2))) := by
  have hf : Maps.has D (.int .i64 t.1) = false := by
    cases hh : Maps.has D (.int .i64 t.1) with
    | false => rfl
    | true =>
      obtain ⟨u, hu, he⟩ := (h.has _).1 hh
      exact absurd (by exact_mod_cast he) (hn u hu)
  have hT := h.own.tidy law
  refine ⟨own_tight hw, ?_, fun x => ?_, fun u hu => ?_⟩
  · rw [size_put hT, hf, if_neg (by simp), h.len]; rfl
  · by_cases e : x = (t.1 : Int)
    · subst e
      rw [has_put_same hT.isMap (keyLit _)]
      simp
    · rw [has_put_other (lit_ne e), h.has]
      simp only [List.mem_cons, exists_eq_or_imp]
      constructor
      · exact .inr
      · rintro (e' | h')
        · exact absurd e'.symm e
        · exact h'
  · rcases List.mem_cons.1 hu with rfl | hu
    · exact atKey_put_same hT.isMap (keyLit _) _ _
    · rw [atKey_put_other (lit_ne (by have := hn u hu; omega)), h.at_ u hu]
theorem Times.del {w w' : World} {mb n : Nat} {S S' : List Tm} {D : DataW Unit} {x : Int} (h : Times w mb S D) (hw : OwnM w' mb n (D.del (.int .i64 x))) (hin : ∃ t ∈ S, (t.1 : Int) = x)
    (hS : ∀ t, t ∈ S' ↔ t ∈ S ∧ (t.1 : Int) ≠ x) (hl : S'.length + 1 = S.length) : Times w' mb S' (D.del (.int .i64 x)) := by
  have hT := h.own.tidy law
  have hs := size_del (k := .int .i64 x) hT
  rw [(h.has x).2 hin, if_pos rfl, h.len] at hs
  refine ⟨own_tight hw, by omega, fun y => ?_, fun u hu => ?_⟩
  · by_cases e : y = x
    · subst e
      rw [has_del_same]
      simp only [Bool.false_eq_true, false_iff]
      rintro ⟨t, ht, he⟩
      exact ((hS t).1 ht).2 he
    · rw [has_del_other (lit_ne e), h.has]
      constructor
      · rintro ⟨t, ht, he⟩
        exact ⟨t, (hS t).2 ⟨ht, by rw [he]; exact e⟩, he⟩
      · rintro ⟨t, ht, he⟩
        exact ⟨t, ((hS t).1 ht).1, he⟩
  · obtain ⟨h1, h2⟩ := (hS u).1 hu
    rw [atKey_del_other (lit_ne h2), h.at_ u h1]
/-- what a look into the map gives -/
theorem Times.look {w : World} {mb : Nat} {S : List Tm} {D : DataW Unit} (h : Times w mb S D) {x : Int} (h1 : -9223372036854775808 ≤ x) (h2 : x ≤ 9223372036854775807) :
    ∃ c : Int, (Instr.lookup 52 (.map (some mb)) (.int .i64 x) true).run Try.prog w = .ok (.tuple #[.int .i64 c, .bool (Maps.has D (.int .i64 x))]) w ∧ (∀ t ∈ S, (t.1 : Int) = x → c = t.2) ∧ ((∀ t ∈ S, (t.1 : Int) ≠ x) → c = 0) := by
  obtain ⟨v, ps, hrun, hv⟩ := h.own.look_ok law Try.underlying52 (zeroI w) (plainElem_int Try.underlying3 (by decide)) (keyI h1 h2)
  obtain ⟨c, rfl, hc, hwc⟩ := plainElem_int_inv Try.underlying3 hv
  refine ⟨c, hrun, fun t ht he => ?_, fun hno => ?_⟩
  · have := h.at_ t ht
    rw [he] at this
    rw [this] at hc
    simp at hc
    exact hc.1.symm
  · have hf : Maps.has D (.int .i64 x) = false := by
      cases hh : Maps.has D (.int .i64 x) with
      | false => rfl
      | true =>
        obtain ⟨u, hu, he⟩ := (h.has _).1 hh
        exact absurd he (hno u hu)
    rw [atKey_of_not_has hf] at hc
    simp at hc
    exact hc.1.symm
end Go.Proofs.Ytcobjejaflikjaa.WMm
