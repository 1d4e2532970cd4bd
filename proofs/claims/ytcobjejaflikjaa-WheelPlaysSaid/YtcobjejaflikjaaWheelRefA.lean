/- Layer 2: the document's wheel: Advance. -/
import Derived.Test.YtcobjejaflikjaaWheelRefS
namespace Go.Proofs.Ytcobjejaflikjaa.WRefA
open Go.RowKit Go.Maps WMath WPure Mem Step WObj WOrd WMm WLib WDel WOps WSet WMin WSort WAdv AppendRow WOne WRef WRefD WRefC WRefS

theorem FirstSays.val {B : List Tm} {e : Ending} (h : FirstSays B e) : ∃ k : Int, e = .returned (.int .i64 k) ∧ FirstSays B (.returned (.int .i64 k)) := by
  rcases h with ⟨k, m, h1, h2, rfl⟩ | ⟨h1, rfl⟩
  · exact ⟨k, rfl, .inl ⟨k, m, h1, h2, rfl⟩⟩
  · exact ⟨-1, rfl, .inr ⟨h1, rfl⟩⟩
theorem adv_done {X B A : List Tm} {n : Nat} (hp : (X ++ B).Perm A) (hX : ∀ x ∈ X, x.2 ≤ n) (hB : ∀ y ∈ B, n < y.2) : X.Perm (A.filter (isDue n)) ∧ B.Perm (A.filter (isLate n)) := by
  have e1 : X.filter (isDue n) = X := List.filter_eq_self.2 fun x hx => by have := hX x hx; simp [isDue, isLate]; omega
  have e2 : B.filter (isDue n) = [] := List.filter_eq_nil_iff.2 fun x hx => by have := hB x hx; simp [isDue, isLate]; omega
  have e3 : X.filter (isLate n) = [] := List.filter_eq_nil_iff.2 fun x hx => by have := hX x hx; simp [isLate]; omega
  have e4 : B.filter (isLate n) = B := List.filter_eq_self.2 fun x hx => by have := hB x hx; simp [isLate]; omega
  have p1 := hp.filter (isDue n)
  have p2 := hp.filter (isLate n)
  rw [List.filter_append, e1, e2, List.append_nil] at p1
  rw [List.filter_append, e3, e4, List.nil_append] at p2
  exact ⟨p1, p2⟩
theorem first_late {B : List Tm} {m : Tm} {n : Nat} (h : FirstOf m B) (hm : n < m.2) : ∀ y ∈ B, n < y.2 := fun y hy => by
  have := h.2 y hy
  unfold ltT at this
  omega
/-- one more has fired -/
theorem fire_one {X B A : List Tm} {m : Tm} {k n : Nat} (hnd : (A.map Prod.fst).Nodup) (hp : (X ++ B).Perm A) (hR : Rising X) (hX : ∀ x ∈ X, x.2 ≤ n) (hlt : ∀ x ∈ X, ∀ y ∈ B, ltT x y) (hk : B[k]? = some m) (hF : FirstOf m B) (hm : m.2 ≤ n) :
    ((X ++ [m]) ++ B.eraseIdx k).Perm A ∧ Rising (X ++ [m]) ∧ (∀ x ∈ X ++ [m], x.2 ≤ n) ∧ (∀ x ∈ X ++ [m], ∀ y ∈ B.eraseIdx k, ltT x y) := by
  have hnB : (B.map Prod.fst).Nodup := by
    have := (hp.map Prod.fst).nodup_iff.2 hnd
    rw [List.map_append, List.nodup_append] at this
    exact this.2.1
  have hmB := hF.1
  refine ⟨?_, ?_, ?_, ?_⟩
  · rw [List.append_assoc]
    refine (List.Perm.append_left X ?_).trans hp
    obtain ⟨hk', e⟩ := List.getElem?_eq_some_iff.1 hk
    have := set_perm m hk
    rw [show B.set k m = B by rw [← e]; exact List.set_getElem_self hk'] at this
    exact this.symm
  · unfold Rising at *
    rw [List.pairwise_append]
    refine ⟨hR, by simp, fun x hx y hy => ?_⟩
    simp only [List.mem_singleton] at hy
    rw [hy]
    exact hlt x hx m hmB
  · intro x hx
    rcases List.mem_append.1 hx with h | h
    · exact hX x h
    · simp only [List.mem_singleton] at h
      rw [h]; exact hm
  · intro x hx y hy
    have hyB : y ∈ B := List.mem_of_mem_eraseIdx hy
    rcases List.mem_append.1 hx with h | h
    · exact hlt x h y hyB
    · simp only [List.mem_singleton] at h
      subst h
      rw [strike_one hnB hk] at hy
      have hne := (mem_without.1 hy).2
      by_cases q : ltT x y
      · exact q
      · have := ltT_total (hF.2 y hyB) q
        rw [this] at hne
        exact absurd rfl hne

/-- the document's Advance under way: what has fired, what the list holds -/
def RInv (w wr : World) (r n : Nat) (A : List Tm) (F : Nat → Prop) (ov : Value) (k : Int) : Prop :=
  ∃ X B vr F', RM wr r n vr B F' ∧ Step w wr F F' ∧ wr.ownsRow 0 59 2 ov X.length (encs X) ∧ (∀ b, ov.ownBlock = some b → ¬ F' b ∧ w.heap.size ≤ b) ∧ (X ++ B).Perm A ∧ Rising X ∧ (∀ x ∈ X, x.2 ≤ n) ∧
    (∀ x ∈ X, ∀ y ∈ B, ltT x y) ∧ FirstSays B (.returned (.int .i64 k))
def lenOf : Value → Nat
  | .slice _ n _ => n
  | _ => 0
theorem RM.timed {w : World} {r now : Nat} {v : Value} {A : List Tm} {F : Nat → Prop} (h : RM w r now v A F) (n : Nat) : RM (w.setCell ⟨r, 0, none⟩ (.int .i64 n)) r n v A F ∧ Step w (w.setCell ⟨r, 0, none⟩ (.int .i64 n)) F F := by
  have s := Step.set_ w (F := F) h.rF 0 (.int .i64 n)
  have s1 := Step.set_ w (F := fun k => k = r) (g := r) rfl 0 (.int .i64 n)
  exact ⟨⟨by simpa using h.head.set_ 0 (.int .i64 n), s1.row h.row (fun b e e' => h.ne (by rw [e, e'])), h.ne, h.rF, h.vF, fun k hk => Nat.lt_of_lt_of_le (h.low k hk) s.size⟩, s⟩

def RAdv (w w' : World) (r : Nat) (A : List Tm) (F : Nat → Prop) (n : Nat) (e : Ending) : Prop :=
  ∃ (fv v' : Value) (X B : List Tm) (F' : Nat → Prop), e = .returned (.tuple #[fv, .int .i64 0]) ∧ X.Perm (A.filter (isDue n)) ∧ Rising X ∧ w'.ownsRow 0 59 2 fv X.length (encs X) ∧ (∀ b, fv.ownBlock = some b → ¬ F' b ∧ w.heap.size ≤ b) ∧
    B.Perm (A.filter (isLate n)) ∧ RM w' r n v' B F' ∧ Step w w' F F'

set_option maxRecDepth 100000 in
set_option maxHeartbeats 1600000 in
theorem radv_ok (w : World) (r now : Nat) (v : Value) (A : List Tm) (F : Nat → Prop) (n : Nat) (h : RM w r now v A F) (hnd : (A.map Prod.fst).Nodup) (hl : A.length ≤ 4096) (ha : now ≤ n) (hb : n ≤ 1099511627776) :
    Calls Try.prog 24 #[.pointer (some ⟨r, 0, none⟩), .int .i64 n] w fun e w' => RAdv w w' r A F n e := by
  obtain ⟨i0, hi, hz0, hz1, hz2⟩ := info_parts infoR
  have c0 := (h.head.cell 0).trans (show _ = some (Value.int .i64 now) from rfl)
  have f0 := h.head.free 0
  have g3 : ¬ ((n : Int) < (now : Int)) := by omega
  have g4 : ¬ (1099511627776 < (n : Int)) := by omega
  have HT := Lib.hid (RM.timed h n)
  have HN := Lib.hid hnd
  clear h hnd
  go_enter Try.func24, Try.ntmps24
  go_wp2_with fail
  refine (rfirst_any _ r n v A F HT.out.1 (by omega)).mono ?_
  rintro e w1 ⟨hs, hw1⟩
  obtain ⟨k0, rfl, hk0⟩ := FirstSays.val hs
  have HI : Hid (RInv w w1 r n A F (.slice none 0 0) k0) := by
    have s := Step.of_below hw1 (fun _ => False)
    exact ⟨[], A, v, F, HT.out.1.far s (fun _ _ h => h), HT.out.2.trans (Step.none s F (fun _ h => h)), World.ownsRow_nil _ 0 _ 2, fun b e => by simp [Value.ownBlock] at e, List.Perm.refl _, List.Pairwise.nil, fun x hx => (by cases hx), fun x hx => (by cases hx), hk0⟩
  clear hs hw1 hk0 HT c0 f0
  go_wp2_with fail
  go_loopw [6, 7] (fun ov kv wr => ∃ k : Int, kv = .int .i64 k ∧ Hid (RInv w wr r n A F ov k)) (fun ov _ _ => A.length + 1 - lenOf ov)
  case atStart => exact ⟨k0, rfl, HI⟩
  case round =>
    obtain ⟨k, rfl, HJ⟩ := hrel
    have hj := HJ.out
    obtain ⟨X, B, vr, F', hR, hS, hO, hoF, hp, hXR, hXn, hXB, hF⟩ := hj
    clear HJ HI
    have hXl : X.length + B.length = A.length := by rw [← List.length_append]; exact hp.length_eq
    have HR := Lib.hid hR
    have HS := Lib.hid hS
    have HO := Lib.hid hO
    have HoF := Lib.hid hoF
    have HP := Lib.hid hp
    have HXR := Lib.hid hXR
    have HXn := Lib.hid hXn
    have HXB := Lib.hid hXB
    rcases hF with ⟨j, m, hm, hF, e⟩ | ⟨hBn, e⟩
    · have hkj : k = (j : Int) := by injection e with e; injection e
      clear e
      subst hkj
      obtain ⟨hjl, _⟩ := List.getElem?_eq_some_iff.1 hm
      obtain ⟨b, cap, rfl, hb0⟩ : ∃ b cap, vr = .slice (some ⟨b, 0, none⟩) B.length cap ∧ vr.ownBlock = some b := by
        rcases hR.row.2 with ⟨_, h0⟩ | ⟨b, cap, _, rfl, _⟩
        · omega
        · exact ⟨b, cap, rfl, rfl⟩
      have c1 := (hR.head.cell 1).trans (show _ = some (Value.slice (some ⟨b, 0, none⟩) B.length cap) from rfl)
      obtain ⟨d0, d1⟩ := rrow_at hR.row hb0 j m hm
      have HM := Lib.hid hm
      have HF := Lib.hid hF
      have g6 : (0 : Int) ≤ (j : Int) := by omega
      have g7 : (j : Int) < (B.length : Int) := by omega
      clear hm hF hR hS hO hoF hp hXR hXn hXB hb0
      by_cases q : m.2 ≤ n
      · have g8 : ((m.2 : Nat) : Int) ≤ (n : Int) := by omega
        obtain ⟨p6, cap6, rfl⟩ := shape_any HO.out
        have HW := Lib.hid (HO.out.alloc (.cells #[.int .i64 m.1, .int .i64 m.2] 59))
        have HN2 := Lib.hid (World.news_of_block (w := wr.alloc (.cells #[.int .i64 m.1, .int .i64 m.2] 59)) (heap_alloc_new wr (.cells #[.int .i64 m.1, .int .i64 m.2] 59)))
        go_wp2_with (at_builtin; refine wpList_append_own_at _ rfl (.tmp 40) (.tmp 48) 27 rfl 0 59 i0 _ 2 16 Try.underlying27 hi hz0 hz1 hz2 rfl (by omega) (.slice p6 X.length cap6) X.length (encs X) rfl HW.out ⟨wr.heap.size, 0, none⟩ 1 1 (encT m) rfl rfl HN2.out (by simp [encT, Value.oneCell']) (by simp only [maxLen]; omega) (by omega) (Nat.zero_le _) ?_; intro v2 w2 hown2 hg2 _ hat2; obtain ⟨p2, cap2, rfl⟩ := shape_any hown2)
        have hsz : (wr.alloc (.cells #[.int .i64 m.1, .int .i64 m.2] 59)).heap.size = wr.heap.size + 1 := by simp
        have S1 : Step wr w2 (fun k => (Value.slice p6 X.length cap6).ownBlock = some k) (fun k => (Value.slice p2 (X.length + 1) cap2).ownBlock = some k) := by
          refine ((Step.alloc wr _ (fun k => (Value.slice p6 X.length cap6).ownBlock = some k)).trans (Step.of_grown hg2 (fun k e => e))).regrow (fun j e => ?_)
          have hl2 := row_lt hown2 e
          rcases hat2 with h | h
          · exact .inl (h ▸ e)
          · rw [h] at e; injection e with e
            exact .inr ⟨by rw [← e, hsz]; omega, hl2⟩
        have R2 := HR.out.far S1 (fun k hk e => (HoF.out k e).1 hk)
        have HOB := Lib.hid (show ∀ i, (Value.slice p2 (X.length + 1) cap2).ownBlock = some i → ¬ F' i ∧ w.heap.size ≤ i ∧ i < w2.heap.size from fun i e => by
          have hl2 := row_lt hown2 e
          rcases S1.grow i e with h | ⟨h, _⟩
          · exact ⟨(HoF.out i h).1, (HoF.out i h).2, hl2⟩
          · exact ⟨fun hf => by have := HR.out.low i hf; omega, Nat.le_trans HS.out.size h, hl2⟩)
        have HS1 := Lib.hid (HS.out.beyond S1 (fun i e => (HoF.out i e).2))
        have HO2 := Lib.hid hown2
        clear hown2 hg2 hat2 S1 c1 d0 d1 hsz
        refine (drop_any w2 r n _ B F' j B.length R2 rfl hjl (by omega)).mono ?_
        rintro e w3 ⟨rfl, v3, F3, R3, s3⟩
        have HR3 := Lib.hid R3
        have HS3 := Lib.hid s3
        clear R2 R3 s3
        go_wp2_with fail
        refine (rfirst_any w3 r n v3 (B.eraseIdx j) F3 HR3.out (Nat.le_trans (List.length_eraseIdx_le _ _) (by omega))).mono ?_
        rintro e w4 ⟨hs, hw4⟩
        obtain ⟨k4, rfl, hk4⟩ := FirstSays.val hs
        have HK4 := Lib.hid hk4
        have HW4 := Lib.hid hw4
        clear hs hk4 hw4
        go_wp2_with fail
        have s4 := Step.of_below HW4.out (fun _ => False)
        obtain ⟨q1, q2, q3, q4⟩ := fire_one HN.out HP.out HXR.out HXn.out HXB.out HM.out HF.out q
        have hrow3 := HS3.out.row HO2.out (fun i e => (HOB.out i e).1)
        refine ⟨⟨k4, rfl, Lib.hid ⟨X ++ [m], B.eraseIdx j, v3, F3, HR3.out.far s4 (fun _ _ h => h), (HS1.out.trans HS3.out).trans (Step.none s4 _ (fun _ h => h)), ?_, fun i e => ⟨WOneF.apart HS3.out (HOB.out i e).2.2 (HOB.out i e).1, (HOB.out i e).2.1⟩, q1, q2, q3, q4, HK4.out⟩⟩, ?_⟩
        · have := s4.row hrow3 (fun _ _ h => h)
          simpa [encs_append, encs_one] using this
        · simp only [lenOf]; omega
      · have g8 : ¬ (((m.2 : Nat) : Int) ≤ (n : Int)) := by omega
        go_wp2_with fail
        go_ret2
        obtain ⟨p1, p2⟩ := adv_done HP.out HXn.out (first_late HF.out (by omega))
        exact ⟨_, _, X, B, F', rfl, p1, HXR.out, HO.out, HoF.out, p2, HR.out, HS.out⟩
    · have hk1 : k = -1 := by injection e with e; injection e
      clear e
      subst hk1
      have HBN := Lib.hid hBn
      clear hR hS hO hoF hp hXR hXn hXB hBn
      go_wp2_with fail
      go_ret2
      obtain ⟨p1, p2⟩ := adv_done HP.out HXn.out (fun y hy => by rw [HBN.out] at hy; cases hy)
      exact ⟨_, _, X, B, F', rfl, p1, HXR.out, HO.out, HoF.out, p2, HR.out, HS.out⟩

theorem radv_no (w : World) (r now : Nat) (v : Value) (A : List Tm) (F : Nat → Prop) (to : Int) (h : RM w r now v A F) (q : to < now ∨ 1099511627776 < to) :
    Calls Try.prog 24 #[.pointer (some ⟨r, 0, none⟩), .int .i64 to] w fun e w' => e = .returned (.tuple #[.slice none 0 0, .int .i64 20]) ∧ w = w' := by
  have c0 := (h.head.cell 0).trans (show _ = some (Value.int .i64 now) from rfl)
  clear h
  rcases q with q | q
  · go_enter Try.func24, Try.ntmps24
    go_wp2_with fail
    go_ret2
    exact ⟨rfl, rfl⟩
  · by_cases q3 : to < (now : Int)
    · go_enter Try.func24, Try.ntmps24
      go_wp2_with fail
      go_ret2
      exact ⟨rfl, rfl⟩
    · go_enter Try.func24, Try.ntmps24
      go_wp2_with fail
      go_ret2
      exact ⟨rfl, rfl⟩

theorem hasId_mem {A : List Tm} {x : Int} (h : hasId A x = true) : ∃ t ∈ A, (t.1 : Int) = x := by
  simp only [hasId, List.any_eq_true] at h
  obtain ⟨t, ht, e⟩ := h
  exact ⟨t, ht, by simpa using e⟩
theorem hasId_none {A : List Tm} {x : Int} (h : hasId A x = false) : ∀ t ∈ A, (t.1 : Int) ≠ x := fun t ht e => by
  have : hasId A x = true := by simp only [hasId, List.any_eq_true]; exact ⟨t, ht, by simpa using e⟩
  rw [h] at this; cases this
theorem rset_any (w : World) (r now : Nat) (v : Value) (A : List Tm) (F : Nat → Prop) (x a : Int) (h : RM w r now v A F) (hnd : (A.map Prod.fst).Nodup) (hl : A.length ≤ 4096) :
    Calls Try.prog 20 #[.pointer (some ⟨r, 0, none⟩), .int .i64 x, .int .i64 a] w fun e w' => e = .returned (.int .i64 (setE now A x a)) ∧ ∃ v' A' F', RM w' r now v' A' F' ∧ Step w w' F F' ∧ A'.Perm (setS now A x a) := by
  by_cases hE : setE now A x a = 0
  · have hs : setS now A x a = (x.toNat, a.toNat) :: without A x := by unfold setS; rw [if_pos hE]
    rw [hE, hs]
    have q1 : ¬ (x < 0 ∨ 1099511627776 < x) := fun q => by unfold setE at hE; rw [if_pos q] at hE; cases hE
    have q2 : ¬ (a < (now : Int) ∨ 1099511627776 < a) := fun q => by unfold setE at hE; rw [if_neg q1, if_pos q] at hE; cases hE
    have q3 : ¬ (hasId A x = false ∧ 4096 ≤ A.length) := fun q => by unfold setE at hE; rw [if_neg q1, if_neg q2, if_pos q] at hE; cases hE
    obtain ⟨y, rfl⟩ : ∃ y : Nat, x = y := ⟨x.toNat, by omega⟩
    obtain ⟨b, rfl⟩ : ∃ b : Nat, a = b := ⟨a.toNat, by omega⟩
    simp only [Int.toNat_natCast]
    cases hh : hasId A (y : Int) with
    | true =>
      obtain ⟨t, ht, e⟩ := hasId_mem hh
      obtain rfl : t.1 = y := by omega
      refine (rset_old w r now v A F t b h hnd hl ht (by omega) (by omega) (by omega)).mono ?_
      rintro e w' ⟨rfl, A', h1, h2, h3⟩
      exact ⟨rfl, v, A', F, h1, h2, h3⟩
    | false =>
      have hno := hasId_none hh
      refine (rset_new w r now v A F y b h (by have : ¬ 4096 ≤ A.length := fun q => q3 ⟨hh, q⟩; omega) hno (by omega) (by omega) (by omega)).mono ?_
      rintro e w' ⟨rfl, v', F', h1, h2⟩
      refine ⟨rfl, v', _, F', h1, h2, ?_⟩
      rw [without_no hno]
      exact List.perm_append_comm
  · have hs : setS now A x a = A := by unfold setS; rw [if_neg hE]
    rw [hs]
    refine (rset_no w r now v A F x a h hl hE).mono ?_
    rintro e w' ⟨rfl, rfl⟩
    exact ⟨rfl, v, A, F, h, Step.refl _ _, List.Perm.refl _⟩
end Go.Proofs.Ytcobjejaflikjaa.WRefA
