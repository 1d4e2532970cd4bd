/- Layer 2: Advance. -/
import Derived.Test.YtcobjejaflikjaaWheelEmpty
import Derived.Test.YtcobjejaflikjaaWheelSort
namespace Go.Proofs.Ytcobjejaflikjaa.WAdv
open Go.RowKit Go.Maps WMath WPure Mem Step WObj WOrd WMm WLib WDel WOps WSet WMin WNext AppendRow WEmpty WSort

def isLate (to : Nat) (t : Tm) : Bool := decide (to < t.2)
def isDue (to : Nat) (t : Tm) : Bool := !isLate to t

theorem Slots.perm {w : World} {g now mb : Nat} {S S' : List Tm} {F : Nat → Prop} (h : Slots w g now mb S F) (hp : S.Perm S') : Slots w g now mb S' F := by
  obtain ⟨v, L, hM, hn, hP, hB⟩ := h
  exact ⟨v, L, hM, hn, fun q hq => (hP q hq).trans (hp.filter _), fun t ht => hB t (hp.mem_iff.2 ht)⟩
theorem Times.perm {w : World} {mb : Nat} {S S' : List Tm} {D : DataW Unit} (h : Times w mb S D) (hp : S.Perm S') : Times w mb S' D :=
  ⟨h.own, h.len.trans hp.length_eq, fun x => (h.has x).trans ⟨fun ⟨t, a, b⟩ => ⟨t, hp.mem_iff.1 a, b⟩, fun ⟨t, a, b⟩ => ⟨t, hp.mem_iff.2 a, b⟩⟩, fun t ht => h.at_ t (hp.mem_iff.2 ht)⟩

/-- behind the emptying, seen from the later time -/
theorem slots_emptied {w wr : World} {g now mb to : Nat} {S : List Tm} {L : Nat → List Tm} {F0 : Nat → Prop} {tv : Value} (hn : now ≤ to) (h2 : to ≤ 1099511627776) (hP : ∀ q, q < 448 → (L q).Perm (S.filter fun t => slot now t.2 == q)) (hB : ∀ t ∈ S, now ≤ t.2 ∧ t.2 ≤ 1099511627776)
    (hE : EInv w g now mb to L F0 448 tv wr) :
    ∃ F', Slots (wr.setCell ⟨g, 0, none⟩ (.int .i64 to)) g to mb (S.filter fun t => !rch now to (slot now t.2)) F' ∧ Step w (wr.setCell ⟨g, 0, none⟩ (.int .i64 to)) F0 F' ∧
      (wr.setCell ⟨g, 0, none⟩ (.int .i64 to)).ownsRow 0 42 2 tv (Tc now to L 448).length (encs (Tc now to L 448)) ∧ (∀ b, tv.ownBlock = some b → ¬ F' b ∧ w.heap.size ≤ b) ∧
      (Tc now to L 448).Perm (S.filter fun t => rch now to (slot now t.2)) := by
  obtain ⟨v, F', hM, hr, hb, hs⟩ := hE
  have s2 := Step.set_ wr (F := F') (g := g) hM.gF 0 (.int .i64 to)
  refine ⟨F', ⟨v, _, hM.time to, h2, fun q hq => ?_, fun t ht => ?_⟩, hs.trans s2, s2.row hr (fun b e => (hb b e).1), hb, ?_⟩
  · unfold Lc
    rw [List.filter_filter]
    by_cases hrq : reached now to q
    · rw [if_pos ⟨hq, hrq⟩]
      refine List.Perm.of_eq (List.filter_eq_nil_iff.2 fun t ht he => ?_).symm
      simp only [Bool.and_eq_true, beq_iff_eq, Bool.not_eq_true', rch, decide_eq_false_iff_not] at he
      obtain ⟨h3, h4⟩ := he
      obtain ⟨b1, b2⟩ := hB t ht
      obtain ⟨_, h5⟩ := later_of_not b1 hn b2 h2 h4
      rw [← h5, h3] at h4
      exact h4 hrq
    · rw [if_neg (fun h => hrq h.2)]
      refine (hP q hq).trans (List.Perm.of_eq (List.filter_congr fun t ht => ?_))
      obtain ⟨b1, b2⟩ := hB t ht
      rw [Bool.eq_iff_iff]
      simp only [Bool.and_eq_true, beq_iff_eq, Bool.not_eq_true', rch, decide_eq_false_iff_not]
      constructor
      · intro h3
        have h4 : ¬ reached now to (slot now t.2) := by rw [h3]; exact hrq
        exact ⟨by rw [(later_of_not b1 hn b2 h2 h4).2, h3], h4⟩
      · rintro ⟨h3, h4⟩
        rw [← h3, (later_of_not b1 hn b2 h2 h4).2]
  · rw [List.mem_filter] at ht
    obtain ⟨b1, b2⟩ := hB t ht.1
    have h4 : ¬ reached now to (slot now t.2) := by simpa [rch] using ht.2
    exact ⟨by have := (later_of_not b1 hn b2 h2 h4).1; omega, b2⟩
  · refine (flat_perm hP (rch now to) 448 (Nat.le_refl _)).trans (List.Perm.of_eq (List.filter_congr fun t ht => ?_))
    have := slot_lt (show now ≤ 1099511627776 by omega) (hB t ht).2
    simp [this]

/-- i of the timers that were taken have been laid again, or have fired -/
def AInv (w : World) (g mb to : Nat) (R T : List Tm) (tv : Value) (F0 : Nat → Prop) (i : Nat) (fv : Value) (wr : World) : Prop :=
  ∃ F' D', Slots wr g to mb ((T.take i).filter (isLate to) ++ R) F' ∧ Times wr mb (T.drop i ++ ((T.take i).filter (isLate to) ++ R)) D' ∧ ¬ F' mb ∧
    wr.ownsRow 0 42 2 tv T.length (encs T) ∧ (∀ b, tv.ownBlock = some b → ¬ F' b ∧ b ≠ mb ∧ w.heap.size ≤ b) ∧
    wr.ownsRow 0 42 2 fv ((T.take i).filter (isDue to)).length (encs ((T.take i).filter (isDue to))) ∧ (∀ b, fv.ownBlock = some b → ¬ F' b ∧ b ≠ mb ∧ w.heap.size ≤ b ∧ tv.ownBlock ≠ some b) ∧
    Step w wr (plus F0 mb) (plus F' mb)

theorem take_next {T : List Tm} {i : Nat} {t : Tm} (ht : T[i]? = some t) : T.take (i + 1) = T.take i ++ [t] := by rw [List.take_add_one, ht]; rfl
theorem drop_next {T : List Tm} {i : Nat} {t : Tm} (ht : T[i]? = some t) : T.drop i = t :: T.drop (i + 1) := by
  obtain ⟨hlt, he⟩ := List.getElem?_eq_some_iff.1 ht
  rw [← he, List.getElem_cons_drop]

/-- a timer that is isLate has been put again -/
theorem AInv.put {w wr w1 w2 : World} {g mb to i : Nat} {R T : List Tm} {tv fv : Value} {F0 F' F2 : Nat → Prop} {D' : DataW Unit} {t : Tm} (ht : T[i]? = some t) (hl : isLate to t = true)
    (h2 : Times wr mb (T.drop i ++ ((T.take i).filter (isLate to) ++ R)) D') (h3 : ¬ F' mb)
    (h4 : wr.ownsRow 0 42 2 tv T.length (encs T)) (h5 : ∀ b, tv.ownBlock = some b → ¬ F' b ∧ b ≠ mb ∧ w.heap.size ≤ b)
    (h6 : wr.ownsRow 0 42 2 fv ((T.take i).filter (isDue to)).length (encs ((T.take i).filter (isDue to)))) (h7 : ∀ b, fv.ownBlock = some b → ¬ F' b ∧ b ≠ mb ∧ w.heap.size ≤ b ∧ tv.ownBlock ≠ some b)
    (h8 : Step w wr (plus F0 mb) (plus F' mb)) (s1 : Step wr w1 (fun _ => False) (fun _ => False)) (hS : Slots w2 g to mb (t :: ((T.take i).filter (isLate to) ++ R)) F2) (s2 : Step w1 w2 F' F2) :
    AInv w g mb to R T tv F0 (i + 1) fv w2 := by
  have e1 : (T.take (i + 1)).filter (isLate to) = (T.take i).filter (isLate to) ++ [t] := by rw [take_next ht, List.filter_append]; simp [hl]
  have e2 : (T.take (i + 1)).filter (isDue to) = (T.take i).filter (isDue to) := by rw [take_next ht, List.filter_append]; simp [isDue, hl]
  have p1 : (t :: ((T.take i).filter (isLate to) ++ R)).Perm ((T.take (i + 1)).filter (isLate to) ++ R) := by
    rw [e1, List.append_assoc]
    exact List.perm_middle.symm
  have p2 : (T.drop i ++ ((T.take i).filter (isLate to) ++ R)).Perm (T.drop (i + 1) ++ ((T.take (i + 1)).filter (isLate to) ++ R)) := by
    rw [drop_next ht]
    refine List.Perm.trans ?_ (p1.append_left _)
    exact List.perm_middle.symm
  have s12 : Step wr w2 F' F2 := (s1.none F' (fun _ h => h)).trans s2
  refine ⟨F2, D', Slots.perm hS p1, Times.perm (h2.far s12 h3) p2, fun hf => ?_, s12.row h4 (fun b e => (h5 b e).1), fun b e => ⟨fun hf => ?_, (h5 b e).2⟩, by rw [e2]; exact s12.row h6 (fun b e => (h7 b e).1), fun b e => ⟨fun hf => ?_, (h7 b e).2⟩, h8.trans (s12.with_ mb)⟩
  · rcases s12.grow mb hf with h | ⟨h, _⟩
    · exact h3 h
    · have := h2.lt; omega
  · rcases s12.grow b hf with h | ⟨h, _⟩
    · exact (h5 b e).1 h
    · have := row_lt h4 e; omega
  · rcases s12.grow b hf with h | ⟨h, _⟩
    · exact (h7 b e).1 h
    · have := row_lt h6 e; omega

/-- a timer that is due has fired -/
theorem AInv.fire {w wr w1 w2 w3 w4 : World} {g mb to i n : Nat} {R T : List Tm} {tv fv fv' : Value} {F0 F' : Nat → Prop} {D' : DataW Unit} {t : Tm} (ht : T[i]? = some t) (hl : isLate to t = false) (hnd : ((T.drop i ++ ((T.take i).filter (isLate to) ++ R)).map Prod.fst).Nodup)
    (h1 : Slots wr g to mb ((T.take i).filter (isLate to) ++ R) F') (h2 : Times wr mb (T.drop i ++ ((T.take i).filter (isLate to) ++ R)) D') (h3 : ¬ F' mb)
    (h4 : wr.ownsRow 0 42 2 tv T.length (encs T)) (h5 : ∀ b, tv.ownBlock = some b → ¬ F' b ∧ b ≠ mb ∧ w.heap.size ≤ b)
    (_h6 : wr.ownsRow 0 42 2 fv ((T.take i).filter (isDue to)).length (encs ((T.take i).filter (isDue to)))) (h7 : ∀ b, fv.ownBlock = some b → ¬ F' b ∧ b ≠ mb ∧ w.heap.size ≤ b ∧ tv.ownBlock ≠ some b)
    (h8 : Step w wr (plus F0 mb) (plus F' mb)) (s1 : Step wr w1 (fun _ => False) (fun _ => False)) (hown : OwnM w2 mb n (D'.del (.int .i64 t.1))) (s2 : Step w1 w2 (fun k => k = mb) (fun k => k = mb)) (s3 : Step w2 w3 (fun _ => False) (fun _ => False))
    (hrow : w4.ownsRow 0 42 2 fv' (((T.take i).filter (isDue to)).length + 1) (encs ((T.take i).filter (isDue to)) ++ encT t)) (hg : w3.grownBy w4 fv.ownBlock) (hat : fv'.ownBlock = fv.ownBlock ∨ fv'.ownBlock = some w3.heap.size) :
    AInv w g mb to R T tv F0 (i + 1) fv' w4 := by
  have e1 : (T.take (i + 1)).filter (isLate to) = (T.take i).filter (isLate to) := by rw [take_next ht, List.filter_append]; simp [hl]
  have e2 : (T.take (i + 1)).filter (isDue to) = (T.take i).filter (isDue to) ++ [t] := by rw [take_next ht, List.filter_append]; simp [isDue, hl]
  have e3 : T.drop i ++ ((T.take i).filter (isLate to) ++ R) = t :: (T.drop (i + 1) ++ ((T.take i).filter (isLate to) ++ R)) := by rw [drop_next ht]; rfl
  rw [e3] at hnd h2
  have hnd' := hnd
  simp only [List.map_cons, List.nodup_cons, List.mem_map, not_exists, not_and] at hnd'
  have hT2 : Times w2 mb (T.drop (i + 1) ++ ((T.take i).filter (isLate to) ++ R)) (D'.del (.int .i64 t.1)) := by
    refine h2.del hown ⟨t, by simp, rfl⟩ (fun u => ?_) rfl
    rw [List.mem_cons]
    constructor
    · intro hu
      exact ⟨.inr hu, fun e => hnd'.1 u hu (by exact_mod_cast e)⟩
    · rintro ⟨rfl | hu, hne⟩
      · exact absurd rfl hne
      · exact hu
  have s4 : Step w3 w4 (fun k => fv.ownBlock = some k) (fun k => fv.ownBlock = some k) := Step.of_grown hg (fun k e => e)
  have s34 : Step w2 w4 (fun k => fv.ownBlock = some k) (fun k => fv.ownBlock = some k) := (s3.none _ (fun _ h => h)).trans s4
  have s12 : Step wr w2 (fun k => k = mb) (fun k => k = mb) := (s1.none _ (fun _ h => h)).trans s2
  have hfm : ¬ (fv.ownBlock = some mb) := fun e => (h7 mb e).2.1 rfl
  have s14 : Step wr w4 (fun k => k = mb ∨ fv.ownBlock = some k) (fun k => k = mb ∨ fv.ownBlock = some k) := (s12.up (fun _ h => .inl h)).trans (s34.up (fun _ h => .inr h))
  have hnew : ∀ b, fv'.ownBlock = some b → ¬ F' b ∧ b ≠ mb ∧ w.heap.size ≤ b ∧ tv.ownBlock ≠ some b := fun b e => by
    rcases hat with h | h
    · exact h7 b (h ▸ e)
    · rw [h] at e
      injection e with e
      have q3 : wr.heap.size ≤ w3.heap.size := Nat.le_trans s12.size s3.size
      refine ⟨fun hf => ?_, ?_, ?_, fun e' => ?_⟩
      · obtain ⟨v, L, hM, _⟩ := h1
        have := hM.low b hf
        omega
      · have := h2.lt; omega
      · have := h8.size; omega
      · have := row_lt h4 e'; omega
  have hfar : ∀ k, F' k → ¬ (k = mb ∨ fv.ownBlock = some k) := fun k hk e => e.elim (fun e => h3 (e ▸ hk)) (fun e => (h7 k e).1 hk)
  refine ⟨F', D'.del (.int .i64 t.1), by rw [e1]; exact h1.far s14 hfar, by rw [e1]; exact hT2.far s34 hfm, h3, s14.row h4 (fun b e e' => ?_), h5, by rw [e2, List.length_append, encs_append, encs_one]; exact hrow, hnew, ?_⟩
  · rcases e' with rfl | e'
    · exact (h5 _ e).2.1 rfl
    · exact (h7 b e').2.2.2 e
  · have t1 : Step w w2 (plus F0 mb) (plus F' mb) := h8.trans (s12.only F' (fun _ h => h))
    exact t1.beyond s34 (fun k e => (h7 k e).2.2.1)
end Go.Proofs.Ytcobjejaflikjaa.WAdv
