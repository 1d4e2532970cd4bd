/- Layer 2: the document's wheel: Set. -/
import Derived.Test.YtcobjejaflikjaaWheelRefC
namespace Go.Proofs.Ytcobjejaflikjaa.WRefS
open Go.RowKit Go.Maps WMath WPure Mem Step WObj WOrd WMm WLib WDel WOps WSet WMin AppendRow WOne WRef WRefD WRefC

theorem encs_set : ∀ (A : List Tm) (k : Nat) (t u : Tm), A[k]? = some t → u.1 = t.1 → (encs A).set (k * 2 + 1) (.int .i64 u.2) = encs (A.set k u)
  | [], k, _, _, h, _ => by simp at h
  | y :: A, 0, t, u, h, e => by
    simp only [List.getElem?_cons_zero, Option.some.injEq] at h
    subst h
    simp [encs, encT, e]
  | y :: A, k + 1, t, u, h, e => by
    have ih := encs_set A k t u (by simpa using h) e
    have e2 : (k + 1) * 2 + 1 = (k * 2 + 1) + 1 + 1 := by omega
    rw [e2]
    simp only [encs, encT, List.flatMap_cons, List.set_cons_succ, List.cons_append, List.nil_append] at ih ⊢
    rw [ih]
theorem set_perm {A : List Tm} {k : Nat} {t : Tm} (u : Tm) (h : A[k]? = some t) : (A.set k u).Perm (u :: A.eraseIdx k) := by
  obtain ⟨hk, _⟩ := List.getElem?_eq_some_iff.1 h
  rw [List.set_eq_take_append_cons_drop, if_pos hk, List.eraseIdx_eq_take_drop_succ]
  exact List.perm_middle

set_option maxHeartbeats 1600000 in
theorem rset_old (w : World) (r now : Nat) (v : Value) (A : List Tm) (F : Nat → Prop) (t : Tm) (a : Nat) (h : RM w r now v A F) (hnd : (A.map Prod.fst).Nodup) (hl : A.length ≤ 4096) (ht : t ∈ A) (hx : t.1 ≤ 1099511627776) (ha : now ≤ a) (hb : a ≤ 1099511627776) :
    Calls Try.prog 20 #[.pointer (some ⟨r, 0, none⟩), .int .i64 t.1, .int .i64 a] w fun e w' => e = .returned (.int .i64 0) ∧ ∃ A', RM w' r now v A' F ∧ Step w w' F F ∧ A'.Perm ((t.1, a) :: without A (t.1 : Int)) := by
  have HA := Lib.hid (at_any w r now v A F (t.1 : Int) h (by omega))
  obtain ⟨b, cap, rfl, hb0⟩ : ∃ b cap, v = .slice (some ⟨b, 0, none⟩) A.length cap ∧ v.ownBlock = some b := by
    rcases h.row.2 with ⟨_, h0⟩ | ⟨b, cap, _, rfl, _⟩
    · have := List.length_pos_of_mem ht; omega
    · exact ⟨b, cap, rfl, rfl⟩
  have c0 := (h.head.cell 0).trans (show _ = some (Value.int .i64 now) from rfl)
  have c1 := (h.head.cell 1).trans (show _ = some (Value.slice (some ⟨b, 0, none⟩) A.length cap) from rfl)
  have HR := Lib.hid h
  have fz := fun j => h.row.frozenAt j
  have HAT := Lib.hid (rrow_at h.row hb0)
  have HN := Lib.hid hnd
  have HM := Lib.hid ht
  have g1 : ¬ ((t.1 : Int) < 0) := by omega
  have g2 : ¬ (1099511627776 < (t.1 : Int)) := by omega
  have g3 : ¬ ((a : Int) < (now : Int)) := by omega
  have g4 : ¬ (1099511627776 < (a : Int)) := by omega
  clear h hnd ht hb0
  go_enter Try.func20, Try.ntmps20
  go_wp2_with fail
  refine HA.out.mono ?_
  rintro e w' ⟨hs, rfl⟩
  rcases hs with ⟨k, t2, hk, hx2, _, rfl⟩ | ⟨hno, rfl⟩
  · obtain ⟨hkl, _⟩ := List.getElem?_eq_some_iff.1 hk
    have g5 : ¬ ((k : Int) < 0) := by omega
    have g6 : (0 : Int) ≤ (k : Int) := by omega
    have g7 : (k : Int) < (A.length : Int) := by omega
    obtain ⟨d0, d1⟩ := HAT.out k t2 hk
    have HK := Lib.hid hk
    have HX := Lib.hid (show t2.1 = t.1 by omega)
    have f1 := fz (k * 2 + 1)
    clear hk HA hx2 fz
    go_wp2_with fail
    go_ret
    obtain ⟨q1, _⟩ := HR.out.row.stored (k * 2 + 1) (.int .i64 a)
    have hbr : r ≠ b := fun e => HR.out.ne (by rw [e]; rfl)
    have s := Step.set_ w (HR.out.vF b rfl) (k * 2 + 1) (.int .i64 a)
    have hlen : (A.set k (t.1, a)).length = A.length := List.length_set
    refine ⟨rfl, A.set k (t.1, a), ⟨HR.out.head.far (p := ⟨b, k * 2 + 1, none⟩) hbr _, ?_, HR.out.ne, HR.out.rF, HR.out.vF, fun j hj => Nat.lt_of_lt_of_le (HR.out.low j hj) s.size⟩, s, ?_⟩
    · rw [hlen, ← encs_set A k t2 (t.1, a) HK.out HX.out.symm]
      exact q1
    · rw [← HX.out, ← strike_one HN.out HK.out]
      exact set_perm _ HK.out
  · exact absurd rfl (hno t HM.out)

/-- a list that was the wheel's own, or has moved, is stored in the wheel -/
theorem RM.stored2 {w w2 : World} {r now : Nat} {v v2 : Value} {A B : List Tm} {F : Nat → Prop} (h : RM w r now v A F) (s : Step w w2 (fun k => v.ownBlock = some k) (fun k => v2.ownBlock = some k)) (hr : w2.ownsRow 0 59 2 v2 B.length (encs B)) :
    ∃ F', RM (w2.setCell ⟨r, 1, none⟩ v2) r now v2 B F' ∧ Step w (w2.setCell ⟨r, 1, none⟩ v2) F F' := by
  have h2 := s.has h.head h.ne
  have hne : v2.ownBlock ≠ some r := fun e => by
    rcases s.grow r e with h1 | ⟨h1, _⟩
    · exact h.ne h1
    · have := h.low r h.rF; omega
  have s2 := Step.set_ w2 (F := fun k => k = r) (g := r) rfl 1 v2
  refine ⟨fun k => F k ∨ v2.ownBlock = some k, ⟨by simpa using h2.set_ 1 v2, s2.row hr (fun b e e' => hne (by rw [e, e'])), hne, .inl h.rF, fun b e => .inr e, fun k hk => ?_⟩, ?_⟩
  · rcases hk with hk | hk
    · exact Nat.lt_of_lt_of_le (Nat.lt_of_lt_of_le (h.low k hk) s.size) s2.size
    · exact Nat.lt_of_lt_of_le (row_lt hr hk) s2.size
  · have s1 : Step w w2 F (fun k => F k ∨ v2.ownBlock = some k) :=
      ⟨s.os, s.tape, s.output, s.size, fun k hk hn => s.block k hk (fun e => hn (h.vF k e)), fun k hk => hk.elim .inl (fun e => (s.grow k e).elim (fun h' => .inl (h.vF k h')) .inr)⟩
    exact s1.trans (Step.set_ w2 (F := fun k => F k ∨ v2.ownBlock = some k) (g := r) (.inl h.rF) 1 v2)

set_option maxRecDepth 100000 in
set_option maxHeartbeats 1600000 in
theorem rset_new (w : World) (r now : Nat) (v : Value) (A : List Tm) (F : Nat → Prop) (x a : Nat) (h : RM w r now v A F) (hl : A.length < 4096) (hno : ∀ t ∈ A, (t.1 : Int) ≠ x) (hx : x ≤ 1099511627776) (ha : now ≤ a) (hb : a ≤ 1099511627776) :
    Calls Try.prog 20 #[.pointer (some ⟨r, 0, none⟩), .int .i64 x, .int .i64 a] w fun e w' => e = .returned (.int .i64 0) ∧ ∃ v' F', RM w' r now v' (A ++ [(x, a)]) F' ∧ Step w w' F F' := by
  have HA := Lib.hid (at_any w r now v A F (x : Int) h (by omega))
  obtain ⟨i0, hi, hz0, hz1, hz2⟩ := info_parts infoR
  obtain ⟨p, cap, rfl, _⟩ := rrow_shape h.row
  have c0 := (h.head.cell 0).trans (show _ = some (Value.int .i64 now) from rfl)
  have c1 := (h.head.cell 1).trans (show _ = some (Value.slice p A.length cap) from rfl)
  have hrl := h.head.lt
  have hne : some r ≠ (Value.slice p A.length cap).ownBlock := fun e => h.ne e.symm
  have k1 : (w.alloc (.cells #[.int .i64 x, .int .i64 a] 59)).cell? ⟨r, 1, none⟩ = some (Value.slice p A.length cap) := (World.cell?_alloc_past _ _ _ hrl).trans c1
  have k2 : (w.alloc (.cells #[.int .i64 x, .int .i64 a] 59)).frozen? ⟨r, 1, none⟩ = false := (World.frozen?_alloc_past _ _ _ hrl).trans (h.head.free 1)
  have k3 : r < (w.alloc (.cells #[.int .i64 x, .int .i64 a] 59)).heap.size := by simp; omega
  have HW := Lib.hid (h.row.alloc (.cells #[.int .i64 x, .int .i64 a] 59))
  have hnews := World.news_of_block (w := w.alloc (.cells #[.int .i64 x, .int .i64 a] 59)) (heap_alloc_new w (.cells #[.int .i64 x, .int .i64 a] 59))
  have HN := Lib.hid hnews
  have HR := Lib.hid h
  have HO := Lib.hid hno
  have g1 : ¬ ((x : Int) < 0) := by omega
  have g2 : ¬ (1099511627776 < (x : Int)) := by omega
  have g3 : ¬ ((a : Int) < (now : Int)) := by omega
  have g4 : ¬ (1099511627776 < (a : Int)) := by omega
  have g5 : ¬ ((4096 : Int) ≤ (A.length : Int)) := by omega
  clear h hno hnews
  go_enter Try.func20, Try.ntmps20
  go_wp2_with fail
  refine HA.out.mono ?_
  rintro e w' ⟨hs, rfl⟩
  rcases hs with ⟨k, t2, hk, hx2, _, rfl⟩ | ⟨_, rfl⟩
  · obtain ⟨hkl, e⟩ := List.getElem?_eq_some_iff.1 hk
    exact absurd hx2 (HO.out t2 (e ▸ List.getElem_mem hkl))
  · clear HA
    go_wp2_with (at_builtin; refine wpList_append_own_at _ rfl (.tmp 51) (.tmp 55) 27 rfl 0 59 i0 _ 2 16 Try.underlying27 hi hz0 hz1 hz2 rfl (by omega) (.slice p A.length cap) A.length (encs A) rfl HW.out ⟨w.heap.size, 0, none⟩ 1 1 (encT (x, a)) rfl rfl HN.out (by simp [encT, Value.oneCell']) (by simp only [maxLen]; omega) (by omega) (Nat.zero_le _) ?_; intro v2 w2 hown2 hg2 _ hat2; have c1' := (hg2.cell_far ⟨r, 1, none⟩ k3 hne).trans k1; have f1' := (hg2.frozen_far ⟨r, 1, none⟩ k3 hne).trans k2; obtain ⟨p2, cap2, rfl⟩ := shape_any hown2)
    go_ret
    have S1 : Step w w2 (fun k => (Value.slice p A.length cap).ownBlock = some k) (fun k => (Value.slice p2 (A.length + 1) cap2).ownBlock = some k) := by
      refine ((Step.alloc w _ (fun k => (Value.slice p A.length cap).ownBlock = some k)).trans (Step.of_grown hg2 (fun k e => e))).regrow (fun j e => ?_)
      have hl2 := row_lt hown2 e
      rcases hat2 with h | h
      · exact .inl (h ▸ e)
      · rw [h] at e; injection e with e
        refine .inr ⟨?_, hl2⟩
        rw [← e]; simp
    obtain ⟨F', R', s'⟩ := RM.stored2 (B := A ++ [(x, a)]) HR.out S1 (by simpa [encs_append, encs_one] using hown2)
    exact ⟨rfl, _, F', R', s'⟩
end Go.Proofs.Ytcobjejaflikjaa.WRefS
