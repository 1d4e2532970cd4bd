/- Layer 2: the document's wheel: drop. -/
import Derived.Test.YtcobjejaflikjaaWheelRef
namespace Go.Proofs.Ytcobjejaflikjaa.WRefD
open Go.RowKit Go.Maps WMath WPure Mem Step WObj WOrd WMm WLib WDel WMin AppendRow WOne WRef

theorem infoR : (Try.prog.info? 59).map (fun i => (i.zero, i.size, i.bytes)) = some (some (.agg #[.int .i64 0, .int .i64 0]), 2, 16) := by kernel_rfl
/-- a new list is stored in the wheel -/
theorem RM.stored {w w2 : World} {r now : Nat} {v v2 : Value} {A B : List Tm} {F : Nat → Prop} (h : RM w r now v A F) (s : Step w w2 (fun _ => False) (fun k => v2.ownBlock = some k)) (hr : w2.ownsRow 0 59 2 v2 B.length (encs B)) :
    ∃ F', RM (w2.setCell ⟨r, 1, none⟩ v2) r now v2 B F' ∧ Step w (w2.setCell ⟨r, 1, none⟩ v2) F F' := by
  have h2 := s.has h.head (fun h => h)
  have hne : v2.ownBlock ≠ some r := fun e => by
    rcases s.grow r e with h1 | ⟨h1, _⟩
    · exact h1
    · have := h.low r h.rF; omega
  have s2 := Step.set_ w2 (F := fun k => k = r) (g := r) rfl 1 v2
  refine ⟨fun k => F k ∨ v2.ownBlock = some k, ⟨by simpa using h2.set_ 1 v2, s2.row hr (fun b e e' => hne (by rw [e, e'])), hne, .inl h.rF, fun b e => .inr e, fun k hk => ?_⟩, ?_⟩
  · rcases hk with hk | hk
    · exact Nat.lt_of_lt_of_le (Nat.lt_of_lt_of_le (h.low k hk) s.size) s2.size
    · exact Nat.lt_of_lt_of_le (row_lt hr hk) s2.size
  · have s1 : Step w w2 F (fun k => F k ∨ v2.ownBlock = some k) :=
      ⟨s.os, s.tape, s.output, s.size, fun k hk _ => s.block k hk (fun h => h), fun k hk => hk.elim .inl (fun e => (s.grow k e).elim (fun h => h.elim) .inr)⟩
    exact s1.trans (Step.set_ w2 (F := fun k => F k ∨ v2.ownBlock = some k) (g := r) (.inl h.rF) 1 v2)

theorem shape_any {w : World} {e : TypeId} {v : Value} {n : Nat} {xs : List Value} (h : w.ownsRow 0 e 2 v n xs) : ∃ p cap, v = .slice p n cap := by
  rcases h.2 with ⟨h, hn⟩ | ⟨b, cap, _, h, _⟩
  · exact ⟨none, 0, by rw [h, hn]⟩
  · exact ⟨_, cap, h⟩
theorem far_of {w w1 w2 : World} {r i : Nat} {u : Value} {v v1 : Value} (hr : r < w.heap.size) (hg1 : w.grownBy w1 v.ownBlock) (hat : v1.ownBlock = none ∨ v1.ownBlock = some w.heap.size) (hg2 : w1.grownBy w2 v1.ownBlock) (c : w1.cell? ⟨r, i, none⟩ = some u) (f : w1.frozen? ⟨r, i, none⟩ = false) :
    w2.cell? ⟨r, i, none⟩ = some u ∧ w2.frozen? ⟨r, i, none⟩ = false := by
  have hlt : r < w1.heap.size := Nat.lt_of_lt_of_le hr hg1.size
  have hne : some r ≠ v1.ownBlock := fun e => by
    rcases hat with h | h
    · rw [h] at e; cases e
    · rw [h] at e; injection e with e; omega
  exact ⟨(hg2.cell_far ⟨r, i, none⟩ hlt hne).trans c, (hg2.frozen_far ⟨r, i, none⟩ hlt hne).trans f⟩

set_option maxHeartbeats 3200000 in
set_option maxRecDepth 100000 in
theorem drop_any (w : World) (r now : Nat) (v : Value) (A : List Tm) (F : Nat → Prop) (k n : Nat) (h : RM w r now v A F) (hn : A.length = n) (hk : k < n) (hl : n ≤ 65536) :
    Calls Try.prog 36 #[.pointer (some ⟨r, 0, none⟩), .int .i64 k] w fun e w' => e = .returned (.tuple #[]) ∧ ∃ v' F', RM w' r now v' (A.eraseIdx k) F' ∧ Step w w' F F' := by
  obtain ⟨i0, hi, hz0, hz1, hz2⟩ := info_parts infoR
  obtain ⟨b, cap, cur, rfl, hnc, hcm, hcs, htk, hh⟩ : ∃ b cap, ∃ cur : Array Value, v = .slice (some ⟨b, 0, none⟩) n cap ∧ n ≤ cap ∧ cap ≤ maxLen ∧ cur.size = cap * 2 ∧ cur.toList.take (n * 2) = encs A ∧ Has w b 59 cur := by
    rcases h.row.2 with ⟨_, h0⟩ | ⟨g, cap', cur, he, _, hh, h1, h2, h3, h4⟩
    · omega
    · rw [hn] at h1 h4 he
      exact ⟨g, cap', cur, he, h1, h2, h3, h4, ⟨hh⟩⟩
  simp only [maxLen] at hcm
  have hat := rrow_at h.row (b := b) rfl
  have hsrcl : (encs (A.drop (k + 1))).length = (n - (k + 1)) * 2 := by rw [encs_len, List.length_drop, hn]
  have htl : (encs (A.take k)).length = k * 2 := by rw [encs_len, List.length_take, hn, Nat.min_eq_left (by omega)]
  have hcell : ∀ j u, (encs A)[j]? = some u → w.cell? ⟨b, j, none⟩ = some u := by
    intro j u hu
    rw [← htk, List.getElem?_take] at hu
    split at hu
    · rw [hh.cell]; simpa using hu
    · cases hu
  have hadd : ∀ j, (⟨b, 0, none⟩ : Addr).add j = ⟨b, j, none⟩ := fun j => by unfold Addr.add; split <;> simp_all
  have N1 : Hid (∀ j u, (encs (A.take k))[j]? = some u → w.cell? ((⟨b, 0, none⟩ : Addr).add j) = some u) := by
    intro j u hu
    rw [hadd]
    rw [← encs_take, List.getElem?_take] at hu
    split at hu
    · exact hcell j u hu
    · cases hu
  have hnews : ∀ j u, (encs (A.drop (k + 1)))[j]? = some u → w.cell? ⟨b, (k + 1) * 2 + j, none⟩ = some u := by
    intro j u hu
    rw [← encs_drop, List.getElem?_drop] at hu
    exact hcell _ u hu
  obtain ⟨AD, hA, hsrc⟩ : ∃ AD : Addr, (if cap = k + 1 then some (⟨b, 0, none⟩ : Addr) else some ⟨b, (k + 1) * 2, none⟩) = some AD ∧ Hid (∀ w1 : World, w.grownBy w1 none → ∀ j u, (encs (A.drop (k + 1)))[j]? = some u → w1.cell? (AD.add j) = some u) := by
    by_cases hc : cap = k + 1
    · refine ⟨⟨b, 0, none⟩, by simp [hc], fun w1 _ j u hu => ?_⟩
      have h0 : (encs (A.drop (k + 1))).length = 0 := by rw [hsrcl]; omega
      rw [List.length_eq_zero_iff.1 h0] at hu
      simp at hu
    · refine ⟨⟨b, (k + 1) * 2, none⟩, by simp [hc], fun w1 hg j u hu => ?_⟩
      rw [Addr.add_lit]
      exact hg.cell (hnews j u hu) (by simp)
  have c1 := (h.head.cell 1).trans (show _ = some (Value.slice (some ⟨b, 0, none⟩) n cap) from rfl)
  have f1 := h.head.free 1
  have hrl := h.head.lt
  have HH := Lib.hid h
  have s1 : Hid ((encs (A.drop (k + 1))).length = (n - (k + 1)) * 2) := hsrcl
  have s2 : Hid (∀ u ∈ encs (A.drop (k + 1)), u.oneCell' = true) := encs_cells _
  have t1 : Hid ((encs (A.take k)).length = k * 2) := htl
  have t2 : Hid (∀ u ∈ encs (A.take k), u.oneCell' = true) := encs_cells _
  have hwr : IntKind.i64.wrap ((k : Int) + 1) = (k : Int) + 1 := by rw [IntKind.wrap_i64]; omega
  have hp0 : (0 : Int) ≤ (k : Int) + 1 := by omega
  have hp1 : (k : Int) + 1 ≤ (n : Int) := by omega
  have hp2 : ((k : Int) + 1).toNat = k + 1 := by omega
  have hp3 : (k : Int) ≤ (cap : Int) := by omega
  have hkc : k ≤ cap := by omega
  have hk1 : k + 1 ≤ n := by omega
  have hnl : w.ownsRow 0 59 2 (.slice none 0 0) 0 [] := World.ownsRow_nil w 0 _ 2
  clear h hat hnews hcell htk hh hcs htl hsrcl hadd
  go_enter Try.func36, Try.ntmps36
  go_wp2_with (first
    | (at_builtin; refine wpList_append_own_at _ rfl (.tmp 5) (.tmp 11) 27 rfl 0 59 i0 _ 2 16 Try.underlying27 hi hz0 hz1 hz2 rfl (by omega) (.slice none 0 0) 0 [] rfl hnl ⟨b, 0, none⟩ k cap _ rfl t1.out N1.out t2.out (by simp only [maxLen]; omega) (by omega) (Nat.zero_le _) ?_; intro v1 w1 hown1 hg1 _ hat1; have c1' := (hg1.cell_far ⟨r, 1, none⟩ hrl (by simp [Value.ownBlock])).trans c1; have f1' := (hg1.frozen_far ⟨r, 1, none⟩ hrl (by simp [Value.ownBlock])).trans f1)
    | (at_builtin; refine wpList_append_own_at _ rfl (.tmp 13) (.tmp 20) 27 rfl 0 59 i0 _ 2 16 Try.underlying27 hi hz0 hz1 hz2 rfl (by omega) v1 (0 + k) ([] ++ encs (A.take k)) rfl hown1 AD (n - (k + 1)) (cap - (k + 1)) _ (by simp [Act.eval]) s1.out (hsrc.out _ hg1) s2.out (by simp only [maxLen]; omega) (by omega) (Nat.zero_le _) ?_; intro v2 w2 hown2 hg2 _ hat2; obtain ⟨c1'', f1''⟩ := far_of hrl hg1 hat1 hg2 c1' f1'; obtain ⟨p2, cap2, rfl⟩ := shape_any hown2))
  go_end0
  have S1 : Step w w1 (fun _ => False) (fun k => v1.ownBlock = some k) := by
    refine (Step.of_grown (F := fun _ => False) hg1 (fun k e => by simp [Value.ownBlock] at e)).regrow (fun k e => ?_)
    rcases hat1 with h | h
    · rw [h] at e; simp [Value.ownBlock] at e
    · rw [h] at e; injection e with e
      have := row_lt hown1 (h.trans (by rw [e]))
      exact .inr ⟨by omega, this⟩
  have S2 : Step w1 w2 (fun k => v1.ownBlock = some k) (fun j => (Value.slice p2 (k + (n - (k + 1))) cap2).ownBlock = some j) := by
    have hown2' := hown2
    have hat2' := hat2
    rw [Nat.zero_add] at hown2' hat2'
    refine (Step.of_grown (F := fun k => v1.ownBlock = some k) hg2 (fun k e => e)).regrow (fun j e => ?_)
    have hl2 := row_lt hown2' e
    rcases hat2' with h | h
    · exact .inl (h ▸ e)
    · rw [h] at e; injection e with e
      exact .inr ⟨by omega, hl2⟩
  have hB : (A.eraseIdx k).length = k + (n - (k + 1)) := by rw [List.length_eraseIdx, hn, if_pos hk]; omega
  obtain ⟨F', R', s'⟩ := RM.stored (B := A.eraseIdx k) HH.out (S1.trans S2) (by rw [hB, List.eraseIdx_eq_take_drop_succ, encs_append]; simpa using hown2)
  exact ⟨rfl, _, F', R', s'⟩
end Go.Proofs.Ytcobjejaflikjaa.WRefD
