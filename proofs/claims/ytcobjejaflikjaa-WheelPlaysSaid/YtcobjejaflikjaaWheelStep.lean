/- Layer 2: the wheel beside the document's plain one: one step of a script. -/
import Derived.Test.YtcobjejaflikjaaWheelRefA
import Derived.Test.YtcobjejaflikjaaWheelOneF
namespace Go.Proofs.Ytcobjejaflikjaa.WStep
open Go.RowKit Go.Maps WMath WPure Mem Step WObj WOrd WMm WLib WDel WOps WSet WMin WNext WSort WAdv AppendRow WOne WOneF WRef WRefD WRefC WRefS WRefA

/-- the two wheels hold the same -/
def St (W w : World) (g r : Nat) : Prop :=
  ∃ (now : Nat) (S A : List Tm) (v : Value) (F G : Nat → Prop), OneF W w g now S F ∧ RM w r now v A G ∧ (∀ k, F k → ¬ G k) ∧ (∀ k, G k → W.heap.size ≤ k) ∧ A.Perm S
theorem hasId_perm {A S : List Tm} (h : A.Perm S) (x : Int) : hasId A x = hasId S x := by
  rw [Bool.eq_iff_iff]
  simp only [hasId, List.any_eq_true]
  exact ⟨fun ⟨t, ht, e⟩ => ⟨t, h.mem_iff.1 ht, e⟩, fun ⟨t, ht, e⟩ => ⟨t, h.mem_iff.2 ht, e⟩⟩
theorem without_perm {A S : List Tm} (h : A.Perm S) (x : Int) : (without A x).Perm (without S x) := h.filter _
theorem setE_perm {A S : List Tm} (h : A.Perm S) (now : Nat) (x a : Int) : setE now A x a = setE now S x a := by
  unfold setE; rw [hasId_perm h, h.length_eq]
theorem setS_perm {A S : List Tm} (h : A.Perm S) (now : Nat) (x a : Int) : (setS now A x a).Perm (setS now S x a) := by
  unfold setS; rw [setE_perm h]
  split
  · exact (without_perm h x).cons _
  · exact h
section
variable {W w w' : World} {g r now : Nat} {S A : List Tm} {v : Value} {F F' G G' : Nat → Prop}
theorem dis_left (s : Step w w' F F') (hG : ∀ k, G k → k < w.heap.size) (hd : ∀ k, F k → ¬ G k) : ∀ k, F' k → ¬ G k := fun k hk hg => by
  rcases s.grow k hk with h | ⟨h, _⟩
  · exact hd k h hg
  · have := hG k hg; omega
theorem dis_right (s : Step w w' G G') (hF : ∀ k, F k → k < w.heap.size) (hd : ∀ k, F k → ¬ G k) : ∀ k, F k → ¬ G' k := fun k hk hg => by
  rcases s.grow k hg with h | ⟨h, _⟩
  · exact hd k hk h
  · have := hF k hk; omega
theorem up_right (hb : Below W.heap.size W w) (s : Step w w' G G') (hG : ∀ k, G k → W.heap.size ≤ k) : ∀ k, G' k → W.heap.size ≤ k := grow_above hb s hG
end
/-- a world that is only larger holds the two wheels too -/
theorem St.far {W w w' : World} {g r : Nat} (h : St W w g r) (hb : Below w.heap.size w w') : St W w' g r := by
  obtain ⟨now, S, A, v, F, G, h1, h2, h3, h4, h5⟩ := h
  have s := Step.of_below hb (fun _ => False)
  exact ⟨now, S, A, v, F, G, h1.far s (fun _ _ h => h) (fun _ h => h.elim), h2.far s (fun _ _ h => h), h3, h4, h5⟩

/-- the two wheels with their parts, and the step's own cells beside them -/
def Bx (W w : World) (g r bo : Nat) (k a b : Int) (now : Nat) (S A : List Tm) (v : Value) (F G : Nat → Prop) : Prop :=
  OneF W w g now S F ∧ RM w r now v A G ∧ (∀ k, F k → ¬ G k) ∧ (∀ k, G k → W.heap.size ≤ k) ∧ A.Perm S ∧ ¬ F bo ∧ ¬ G bo ∧ Has w bo 31 #[.int .i64 k, .int .i64 a, .int .i64 b]
theorem St.boxed {W w : World} {g r : Nat} (h : St W w g r) (k a b : Int) : ∃ (now : Nat) (S A : List Tm) (v : Value) (F G : Nat → Prop), Bx W (w.alloc (.cells #[.int .i64 k, .int .i64 a, .int .i64 b] 31)) g r w.heap.size k a b now S A v F G := by
  obtain ⟨now, S, A, v, F, G, h1, h2, h3, h4, h5⟩ := h
  have s := Step.alloc w (.cells #[.int .i64 k, .int .i64 a, .int .i64 b] 31) (fun _ => False)
  exact ⟨now, S, A, v, F, G, h1.far s (fun _ _ h => h) (fun _ h => h.elim), h2.far s (fun _ _ h => h), h3, h4, h5, fun h => by have := h1.low _ h; omega, fun h => by have := h2.low _ h; omega, Has.new w _ _⟩
section
variable {W w w' : World} {g r bo now : Nat} {k a b : Int} {S A : List Tm} {v : Value} {F F' G G' : Nat → Prop}
theorem Bx.st (h : Bx W w g r bo k a b now S A v F G) : St W w g r := by
  obtain ⟨h1, h2, h3, h4, h5, _⟩ := h
  exact ⟨now, S, A, v, F, G, h1, h2, h3, h4, h5⟩
theorem Bx.nd (h : Bx W w g r bo k a b now S A v F G) : (A.map Prod.fst).Nodup ∧ A.length ≤ 4096 := by
  obtain ⟨h1, _, _, _, h5, _⟩ := h
  obtain ⟨_, _, h6, h7⟩ := h1.bnd
  exact ⟨(h5.map Prod.fst).nodup_iff.2 h6, by rw [h5.length_eq]; exact h7⟩
/-- what is no wheel's may turn -/
theorem Bx.far (h : Bx W w g r bo k a b now S A v F G) (hb : Below w.heap.size w w') : Bx W w' g r bo k a b now S A v F G := by
  obtain ⟨h1, h2, h3, h4, h5, h6, h7, h8⟩ := h
  have s := Step.of_below hb (fun _ => False)
  exact ⟨h1.far s (fun _ _ h => h) (fun _ h => h.elim), h2.far s (fun _ _ h => h), h3, h4, h5, h6, h7, s.has h8 (fun h => h)⟩
end
/-- between the two calls: the wheel has turned, the plain one not yet -/
def Half (W w : World) (g r bo : Nat) (k a b : Int) (now now' : Nat) (S' A : List Tm) (v : Value) (F' G : Nat → Prop) : Prop :=
  OneF W w g now' S' F' ∧ RM w r now v A G ∧ (∀ k, F' k → ¬ G k) ∧ (∀ k, G k → W.heap.size ≤ k) ∧ ¬ F' bo ∧ ¬ G bo ∧ Has w bo 31 #[.int .i64 k, .int .i64 a, .int .i64 b]
section
variable {W w w' : World} {g r bo now now' : Nat} {k a b : Int} {S S' A A' : List Tm} {v v' : Value} {F F' G G' : Nat → Prop}
theorem Bx.half (h : Bx W w g r bo k a b now S A v F G) (h' : OneF W w' g now' S' F') (s : Step w w' F F') : Half W w' g r bo k a b now now' S' A v F' G := by
  obtain ⟨h1, h2, h3, h4, h5, h6, h7, h8⟩ := h
  exact ⟨h', h2.far s (fun k hk hf => h3 k hf hk), dis_left s h2.low h3, h4, apart s h8.lt h6, h7, s.has h8 h6⟩
theorem Half.done (h : Half W w g r bo k a b now now' S' A v F' G) (h' : RM w' r now' v' A' G') (s : Step w w' G G') (hp : A'.Perm S') : Bx W w' g r bo k a b now' S' A' v' F' G' := by
  obtain ⟨h1, h2, h3, h4, h5, h6, h7⟩ := h
  exact ⟨h1.far s h3 h4, h', dis_right s h1.low h3, up_right h1.below s h4, hp, h5, apart s h7.lt h6, s.has h7 h6⟩
end

set_option maxRecDepth 100000 in
set_option maxHeartbeats 1600000 in
theorem step1 {W w : World} {g r : Nat} (h : St W w g r) (a b : Int) (h1 : -9223372036854775808 ≤ a) (h2 : a ≤ 9223372036854775807) :
    Calls Try.prog 12 #[.pointer (some ⟨g, 0, none⟩), .pointer (some ⟨r, 0, none⟩), .agg #[.int .i64 1, .int .i64 a, .int .i64 b]] w fun e w' => e = .returned (.bool true) ∧ St W w' g r := by
  obtain ⟨now, S, A, v, F, G, hB⟩ := h.boxed 1 a b
  have HB := Lib.hid hB
  obtain ⟨h3, h4, _, _, hp, _, _, hbo⟩ := hB
  have c1 := (hbo.cell 1).trans (show _ = some (Value.int .i64 a) from rfl)
  have c2 := (hbo.cell 2).trans (show _ = some (Value.int .i64 b) from rfl)
  have HF := Lib.hid (f_set h3 a b h1 h2)
  have HP := Lib.hid hp
  clear h h3 h4 hbo hp
  go_enter Try.func12, Try.ntmps12
  go_wp2_with fail
  generalize w.alloc (.cells #[.int .i64 1, .int .i64 a, .int .i64 b] 31) = W1 at HB c1 c2 HF ⊢
  generalize w.heap.size = bo at HB c1 c2 ⊢
  refine HF.out.mono ?_
  rintro e w2 ⟨rfl, F', h5, s⟩
  have h6 := HB.out.half h5 s
  have HH := Lib.hid h6
  obtain ⟨_, h7, _, _, _, _, hbo⟩ := h6
  have c1 := (hbo.cell 1).trans (show _ = some (Value.int .i64 a) from rfl)
  have c2 := (hbo.cell 2).trans (show _ = some (Value.int .i64 b) from rfl)
  have HR := Lib.hid (rset_any w2 r now v A G a b h7 HB.out.nd.1 HB.out.nd.2)
  have tt : (setE now S a b == setE now S a b) = true := beq_self_eq_true _
  clear h5 s h7 hbo
  go_wp2_with fail
  refine HR.out.mono ?_
  rintro e w3 ⟨he, v', A', G', h8, s2, hp2⟩
  rw [setE_perm HP.out] at he
  subst he
  have HX := Lib.hid (HH.out.done h8 s2 (hp2.trans (setS_perm HP.out now a b))).st
  clear h8 s2 hp2 HR c1 c2
  go_wp2_with fail
  go_ret
  exact ⟨rfl, HX.out⟩

set_option maxRecDepth 100000 in
set_option maxHeartbeats 1600000 in
theorem step2 {W w : World} {g r : Nat} (h : St W w g r) (a b : Int) (h1 : -9223372036854775808 ≤ a) (h2 : a ≤ 9223372036854775807) :
    Calls Try.prog 12 #[.pointer (some ⟨g, 0, none⟩), .pointer (some ⟨r, 0, none⟩), .agg #[.int .i64 2, .int .i64 a, .int .i64 b]] w fun e w' => e = .returned (.bool true) ∧ St W w' g r := by
  obtain ⟨now, S, A, v, F, G, hB⟩ := h.boxed 2 a b
  have HB := Lib.hid hB
  obtain ⟨h3, h4, _, _, hp, _, _, hbo⟩ := hB
  have c1 := (hbo.cell 1).trans (show _ = some (Value.int .i64 a) from rfl)
  have HF := Lib.hid (f_cancel h3 a h1 h2)
  have HP := Lib.hid hp
  clear h h3 h4 hbo hp
  go_enter Try.func12, Try.ntmps12
  go_wp2_with fail
  generalize w.alloc (.cells #[.int .i64 2, .int .i64 a, .int .i64 b] 31) = W1 at HB c1 HF ⊢
  generalize w.heap.size = bo at HB c1 ⊢
  refine HF.out.mono ?_
  rintro e w2 ⟨rfl, F', h5, s⟩
  have h6 := HB.out.half h5 s
  have HH := Lib.hid h6
  obtain ⟨_, h7, _, _, _, _, hbo⟩ := h6
  have c1 := (hbo.cell 1).trans (show _ = some (Value.int .i64 a) from rfl)
  have HR := Lib.hid (rcancel_any w2 r now v A G a h7 HB.out.nd.1 (Nat.le_trans HB.out.nd.2 (by omega)))
  have tt : (hasId S a == hasId S a) = true := beq_self_eq_true _
  clear h5 s h7 hbo
  go_wp2_with fail
  refine HR.out.mono ?_
  rintro e w3 ⟨he, v', G', h8, s2⟩
  rw [hasId_perm HP.out] at he
  subst he
  have HX := Lib.hid (HH.out.done h8 s2 (without_perm HP.out a)).st
  clear h8 s2 HR c1
  go_wp2_with fail
  go_ret
  exact ⟨rfl, HX.out⟩

set_option maxRecDepth 100000 in
set_option maxHeartbeats 1600000 in
theorem step6 {W w : World} {g r : Nat} (h : St W w g r) (a b : Int) :
    Calls Try.prog 12 #[.pointer (some ⟨g, 0, none⟩), .pointer (some ⟨r, 0, none⟩), .agg #[.int .i64 6, .int .i64 a, .int .i64 b]] w fun e w' => e = .returned (.bool true) ∧ St W w' g r := by
  obtain ⟨now, S, A, v, F, G, hB⟩ := h.boxed 6 a b
  have HX := Lib.hid (hB.far (Below.refl _ _)).st
  obtain ⟨h3, h4, _, _, hp, _, _, hbo⟩ := hB
  obtain ⟨p, cap, rfl, _⟩ := rrow_shape h4.row
  have hlen := hp.length_eq
  rw [hlen] at h4
  have c0 := (h4.head.cell 0).trans (show _ = some (Value.int .i64 now) from rfl)
  have c1 := (h4.head.cell 1).trans (show _ = some (Value.slice p S.length cap) from rfl)
  have hW := h3.1.far (Step.drew _ (fun _ => False)) (fun _ _ h => h)
  have HN := Lib.hid (now_any _ g now S F hW)
  have HL := Lib.hid (len_any _ g now S F hW)
  have HX := Lib.hid (HX.out.far ((Below.refl _ _).drew))
  have t1 : ((now : Int) == (now : Int)) = true := beq_self_eq_true _
  have t2 : ((S.length : Int) == (S.length : Int)) = true := beq_self_eq_true _
  clear h h3 h4 hbo hp hlen hW
  go_enter Try.func12, Try.ntmps12
  go_wp2_with fail
  generalize w.alloc (.cells #[.int .i64 6, .int .i64 a, .int .i64 b] 31) = W1 at HX c0 c1 HN HL ⊢
  generalize w.heap.size = bo at HX ⊢
  go_region_held3 (fun w' => w'.cell? ⟨r, 0, none⟩ = some (.int .i64 now) ∧ w'.cell? ⟨r, 1, none⟩ = some (.slice p S.length cap)) (go_keep)
    (first | (go_at_call 18; refine HN.out.mono ?_; rintro e w' ⟨rfl, rfl⟩) | (go_at_call 14; refine HL.out.mono ?_; rintro e w' ⟨rfl, rfl⟩))
  go_wp2_with fail
  go_ret
  exact ⟨rfl, HX.out⟩

set_option maxRecDepth 100000 in
set_option maxHeartbeats 1600000 in
theorem step0 {W w : World} {g r : Nat} (h : St W w g r) (k a b : Int) (hk : ¬ (1 ≤ k ∧ k ≤ 7)) :
    Calls Try.prog 12 #[.pointer (some ⟨g, 0, none⟩), .pointer (some ⟨r, 0, none⟩), .agg #[.int .i64 k, .int .i64 a, .int .i64 b]] w fun e w' => e = .returned (.bool true) ∧ St W w' g r := by
  obtain ⟨now, S, A, v, F, G, hB⟩ := h.boxed k a b
  have HX := Lib.hid hB.st
  have q1 : (k == 1) = false := by simp; omega
  have q2 : (k == 2) = false := by simp; omega
  have q3 : (k == 3) = false := by simp; omega
  have q4 : (k == 4) = false := by simp; omega
  have q5 : (k == 5) = false := by simp; omega
  have q6 : (k == 6) = false := by simp; omega
  have q7 : (k == 7) = false := by simp; omega
  clear h hB
  go_enter Try.func12, Try.ntmps12
  go_wp2_with fail
  go_ret
  exact ⟨rfl, HX.out⟩

set_option maxRecDepth 100000 in
set_option maxHeartbeats 1600000 in
theorem step3 {W w : World} {g r : Nat} (h : St W w g r) (a b : Int) (h1 : -9223372036854775808 ≤ a) (h2 : a ≤ 9223372036854775807) :
    Calls Try.prog 12 #[.pointer (some ⟨g, 0, none⟩), .pointer (some ⟨r, 0, none⟩), .agg #[.int .i64 3, .int .i64 a, .int .i64 b]] w fun e w' => e = .returned (.bool true) ∧ St W w' g r := by
  obtain ⟨now, S, A, v, F, G, hB⟩ := h.boxed 3 a b
  have HB := Lib.hid hB
  obtain ⟨h3, h4, _, _, hp, _, _, hbo⟩ := hB
  have k1 := (hbo.cell 1).trans (show _ = some (Value.int .i64 a) from rfl)
  have HF := Lib.hid (due_any _ g now a S F h3.1 h1 h2)
  have HA := Lib.hid (at_any _ r now v A G a h4 (Nat.le_trans HB.out.nd.2 (by omega)))
  have HP := Lib.hid hp
  clear h h3 h4 hbo hp
  go_enter Try.func12, Try.ntmps12
  go_wp2_with fail
  generalize w.alloc (.cells #[.int .i64 3, .int .i64 a, .int .i64 b] 31) = W1 at HB k1 HF HA ⊢
  generalize w.heap.size = bo at HB k1 ⊢
  refine HF.out.mono ?_
  rintro e w2 ⟨⟨c, rfl, hc, hn⟩, rfl⟩
  have HC := Lib.hid hc
  have HN := Lib.hid hn
  clear hc hn HF
  go_wp2_with fail
  refine HA.out.mono ?_
  rintro e w2 ⟨hs, rfl⟩
  have hB := HB.out
  obtain ⟨_, h4, _, _, hp, _, _, _⟩ := hB
  rcases hs with ⟨k, t, hk, hx, _, rfl⟩ | ⟨hno, rfl⟩
  · obtain ⟨hkl, _⟩ := List.getElem?_eq_some_iff.1 hk
    obtain ⟨bb, cap, rfl, hb0⟩ : ∃ b cap, v = .slice (some ⟨b, 0, none⟩) A.length cap ∧ v.ownBlock = some b := by
      rcases h4.row.2 with ⟨_, h0⟩ | ⟨b, cap, _, rfl, _⟩
      · omega
      · exact ⟨b, cap, rfl, rfl⟩
    have c1 := (h4.head.cell 1).trans (show _ = some (Value.slice (some ⟨bb, 0, none⟩) A.length cap) from rfl)
    obtain ⟨d0, d1⟩ := rrow_at h4.row hb0 k t hk
    have hhas : hasId S a = true := by rw [← hasId_perm hp, ← hx]; exact hasId_yes hk
    have hcc : c = t.2 := HC.out t (hp.mem_iff.1 (by obtain ⟨_, e⟩ := List.getElem?_eq_some_iff.1 hk; exact e ▸ List.getElem_mem _)) hx
    subst hcc
    rw [hhas]
    have g5 : ¬ ((k : Int) < 0) := by omega
    have g6 : (0 : Int) ≤ (k : Int) := by omega
    have g6b : decide ((0 : Int) ≤ (k : Int)) = true := decide_eq_true g6
    have g7 : (k : Int) < (A.length : Int) := by omega
    have tt : ((t.2 : Int) == (t.2 : Int)) = true := beq_self_eq_true _
    have HX := Lib.hid HB.out.st
    clear h4 hp hk hx hhas hb0 HC HN HA HB HP
    go_wp2_with fail
    go_ret
    exact ⟨rfl, HX.out⟩
  · have hhas : hasId S a = false := by rw [← hasId_perm hp]; exact hasId_no hno
    have hcc : c = 0 := HN.out (hasId_none hhas)
    subst hcc
    rw [hhas]
    have HX := Lib.hid HB.out.st
    clear h4 hp hno hhas HC HN HA HB HP
    go_wp2_with fail
    go_ret
    exact ⟨rfl, HX.out⟩
end Go.Proofs.Ytcobjejaflikjaa.WStep
