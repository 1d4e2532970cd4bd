/- Layer 2: slices.Delete of one timer. -/
import Derived.Test.YtcobjejaflikjaaWheelLib
import Derived.Laws.IdiomCopy
namespace Go.Proofs.Ytcobjejaflikjaa.WDel
open Go.RowKit WMath WPure Mem Step WObj WOrd WLib

def setAll : Array Value → Nat → List Value → Array Value
  | cs, _, [] => cs
  | cs, o, v :: r => setAll (cs.setIfInBounds o v) (o + 1) r
theorem setAll_size : ∀ (vs : List Value) (cs : Array Value) (o : Nat), (setAll cs o vs).size = cs.size
  | [], _, _ => rfl
  | v :: r, cs, o => by simp [setAll, setAll_size r]
theorem setAll_list : ∀ (vs : List Value) (cs : Array Value) (o : Nat), o + vs.length ≤ cs.size → (setAll cs o vs).toList = cs.toList.take o ++ vs ++ cs.toList.drop (o + vs.length)
  | [], cs, o, h => by simp [setAll]
  | v :: r, cs, o, h => by
    simp only [List.length_cons] at h
    rw [setAll, setAll_list r _ _ (by simp; omega)]
    rw [Array.toList_setIfInBounds]
    have h1 : (cs.toList.set o v).take (o + 1) = cs.toList.take o ++ [v] := by
      rw [List.take_succ_eq_append_getElem (by simp; omega), List.take_set_of_le (Nat.le_refl _)]
      simp
    have h2 : (cs.toList.set o v).drop (o + 1 + r.length) = cs.toList.drop (o + (v :: r).length) := by
      rw [List.drop_set_of_lt (by omega), List.length_cons, show o + 1 + r.length = o + (r.length + 1) by omega]
    rw [h1, h2]
    simp
theorem Has_setCells {g : Nat} {t : TypeId} : ∀ (vs : List Value) {w : World} {cs : Array Value} (o : Nat), Has w g t cs → Has (w.setCells g o vs) g t (setAll cs o vs)
  | [], _, _, _, h => h
  | v :: r, _, _, o, h => Has_setCells r (o + 1) (h.set_ o v)
theorem own_setCells {a : World} {g : Nat} : ∀ (vs : List Value) {w : World} (o : Nat), a.grownBy w (some g) → a.grownBy (w.setCells g o vs) (some g)
  | [], _, _, h => h
  | v :: r, _, o, h => own_setCells r (o + 1) (own_set h o v)
theorem encs_take : ∀ (l : List Tm) (k : Nat), (encs l).take (k * 2) = encs (l.take k)
  | [], k => by simp [encs]
  | x :: l, 0 => by simp [encs]
  | x :: l, k + 1 => by
    have ih := encs_take l k
    rw [show (k + 1) * 2 = k * 2 + 1 + 1 by omega]
    simpa [encs, encT] using ih
theorem encs_drop : ∀ (l : List Tm) (k : Nat), (encs l).drop (k * 2) = encs (l.drop k)
  | [], k => by simp [encs]
  | x :: l, 0 => by simp [encs]
  | x :: l, k + 1 => by
    have ih := encs_drop l k
    rw [show (k + 1) * 2 = k * 2 + 1 + 1 by omega]
    simpa [encs, encT] using ih
theorem encs_cells (l : List Tm) : ∀ u ∈ encs l, u.oneCell' = true := by
  intro u hu
  simp only [encs, List.mem_flatMap, encT] at hu
  obtain ⟨t, _, ht⟩ := hu
  simp at ht
  rcases ht with rfl | rfl <;> rfl
theorem zeroT (w : World) : (zeroValue 42).run Try.prog w = .ok (.agg #[.int .i64 0, .int .i64 0]) w := by kernel_rfl

theorem run_clear_one (w : World) (b o c : Nat) (ty : TypeId) (cs : Array Value) (t : TypeId) (H : Has w b t cs) (ho : o + 2 ≤ cs.size) :
    (Builtin.clear_ #[38] ty #[.slice (some ⟨b, o, none⟩) 1 c]).run Try.prog w = .ok (.tuple #[]) (w.setCells b o [.int .i64 0, .int .i64 0]) := by
  have hst := run_storeCells_cells (P := Try.prog) b o [.int .i64 0, .int .i64 0] 0 w (fun j hj => by
      simp only [List.length_cons, List.length_nil] at hj
      rw [H.cell, Array.getElem?_eq_getElem (by omega)]; rfl) (fun j hj => H.free _) (by intro v hv; simp at hv; rw [hv]; rfl)
  simp only [Nat.add_zero] at hst
  have hz : (Builtin.zeroCells (Value.agg #[.int .i64 0, .int .i64 0]).cells 1).toList = [Value.int .i64 0, Value.int .i64 0] := by kernel_rfl
  simp [Builtin.clear_, run_underlying Try.underlying38, hz, hst]

set_option maxHeartbeats 1600000 in
set_option maxRecDepth 1000000 in
theorem delete_any (b cap k n : Nat) (l : List Tm) (w : World) (hr : w.ownsRow 0 42 2 (.slice (some ⟨b, 0, none⟩) n cap) n (encs l)) (hn : l.length = n) (hk : k < n) (hbig : n ≤ 1048576) :
    Calls Try.prog 33 #[.slice (some ⟨b, 0, none⟩) n cap, .int .i64 k, .int .i64 ((k : Int) + 1)] w fun e w' =>
      e = .returned (.slice (some ⟨b, 0, none⟩) (n - 1) cap) ∧ w'.ownsRow 0 42 2 (.slice (some ⟨b, 0, none⟩) (n - 1) cap) (n - 1) (encs (l.eraseIdx k)) ∧ w.grownBy w' (some b) := by
  obtain ⟨i0, hi, hz0, hz1, hz2⟩ := info_parts infoT
  obtain ⟨cur, hnc, hcm, hcs, htk, hh⟩ : ∃ cur : Array Value, n ≤ cap ∧ cap ≤ maxLen ∧ cur.size = cap * 2 ∧ cur.toList.take (n * 2) = encs l ∧ Has w b 42 cur := by
    rcases hr.2 with ⟨h, _⟩ | ⟨g, cap', cur, he, _, hh, h1, h2, h3, h4⟩
    · cases h
    · simp only [Value.slice.injEq, Option.some.injEq, Addr.mk.injEq, and_true, true_and] at he
      obtain ⟨rfl, rfl⟩ := he
      exact ⟨cur, h1, h2, h3, h4, ⟨hh⟩⟩
  simp only [maxLen] at hcm
  have hsrcl : (encs (l.drop (k + 1))).length = (n - (k + 1)) * 2 := by rw [encs_len, List.length_drop, hn]
  have hnews : ∀ j u, (encs (l.drop (k + 1)))[j]? = some u → w.cell? ⟨b, (k + 1) * 2 + j, none⟩ = some u := by
    intro j u hu
    rw [← encs_drop, List.getElem?_drop] at hu
    rw [← htk, List.getElem?_take] at hu
    split at hu
    · rw [hh.cell]
      simpa using hu
    · cases hu
  obtain ⟨A, hA, hsrc⟩ : ∃ A : Addr, (if cap = k + 1 then some (⟨b, 0, none⟩ : Addr) else some ⟨b, (k + 1) * 2, none⟩) = some A ∧ Hid (∀ j u, (encs (l.drop (k + 1)))[j]? = some u → w.drew.cell? (A.add j) = some u) := by
    by_cases h : cap = k + 1
    · refine ⟨⟨b, 0, none⟩, by simp [h], fun j u hu => ?_⟩
      have h0 : (encs (l.drop (k + 1))).length = 0 := by rw [hsrcl]; omega
      rw [List.length_eq_zero_iff.1 h0] at hu
      simp at hu
    · refine ⟨⟨b, (k + 1) * 2, none⟩, by simp [h], fun j u hu => ?_⟩
      rw [Addr.add_lit]
      exact hnews j u hu
  have s1 : Hid ((encs (l.drop (k + 1))).length = (n - (k + 1)) * 2) := hsrcl
  have s2 : Hid (∀ u ∈ encs (l.drop (k + 1)), u.oneCell' = true) := encs_cells _
  have s3 : Hid (∀ j, j < (encs (l.drop (k + 1))).length → (w.drew.cell? ⟨b, 0 + k * 2 + j, none⟩).isSome = true ∧ w.drew.frozen? ⟨b, 0 + k * 2 + j, none⟩ = false) := by
    intro j hj
    rw [hsrcl] at hj
    have hlt : 0 + k * 2 + j < cur.size := by omega
    exact ⟨by show (w.cell? _).isSome = true; rw [hh.cell, Array.getElem?_eq_getElem hlt]; rfl, hh.free _⟩
  obtain ⟨W1, hW1⟩ : ∃ W1, W1 = w.drew.setCells b (0 + k * 2) (encs (l.drop (k + 1))) := ⟨_, rfl⟩
  have H1 : Has W1 b 42 (setAll cur (0 + k * 2) (encs (l.drop (k + 1)))) := by rw [hW1]; exact Has_setCells _ _ hh.drew
  have G1 : w.grownBy W1 (some b) := by rw [hW1]; exact own_setCells _ _ (own_drew (World.grownBy.refl w _))
  have L1 : (setAll cur (0 + k * 2) (encs (l.drop (k + 1)))).toList.take ((n - 1) * 2) = encs (l.eraseIdx k) := by
    rw [setAll_list _ _ _ (by rw [hsrcl]; omega), List.eraseIdx_eq_take_drop_succ, encs_append]
    have e1 : cur.toList.take (0 + k * 2) = encs (l.take k) := by
      rw [Nat.zero_add, ← encs_take, ← htk, List.take_take, Nat.min_eq_left (by omega)]
    rw [e1, List.take_append_of_le_length (by simp only [List.length_append, encs_len, List.length_take, List.length_drop]; omega), List.take_of_length_le (by simp only [List.length_append, encs_len, List.length_take, List.length_drop]; omega)]
  have Z1 := setAll_size (encs (l.drop (k + 1))) cur (0 + k * 2)
  generalize setAll cur (0 + k * 2) (encs (l.drop (k + 1))) = cs1 at H1 L1 Z1
  have hcl := fun ty c => run_clear_one W1 b ((n - 1) * 2) c ty cs1 _ H1 (by omega)
  have H2 : Has (W1.setCells b ((n - 1) * 2) [.int .i64 0, .int .i64 0]) b 42 (setAll cs1 ((n - 1) * 2) [.int .i64 0, .int .i64 0]) := Has_setCells _ _ H1
  have G2 : w.grownBy (W1.setCells b ((n - 1) * 2) [.int .i64 0, .int .i64 0]) (some b) := own_setCells _ _ G1
  have R2 : (W1.setCells b ((n - 1) * 2) [.int .i64 0, .int .i64 0]).ownsRow 0 42 2 (.slice (some ⟨b, 0, none⟩) (n - 1) cap) (n - 1) (encs (l.eraseIdx k)) := by
    refine ⟨by rw [encs_len, List.length_eraseIdx]; simp [hn, hk], .inr ⟨b, cap, _, rfl, Nat.zero_le _, H2.at_, by omega, by simp only [maxLen]; omega, by rw [setAll_size, Z1, hcs], ?_⟩⟩
    rw [setAll_list _ _ _ (by simp; omega), List.append_assoc, List.take_append_of_le_length (by simp; omega), List.take_take, Nat.min_self, L1]
  have HW := Lib.hid hW1
  have HR2 := Lib.hid R2
  have HG2 := Lib.hid G2
  have en : k + (n - (k + 1)) = n - 1 := by omega
  have e1 : n - (n - 1) = 1 := by omega
  have hwr : IntKind.i64.wrap ((k : Int) + 1) = (k : Int) + 1 := by rw [IntKind.wrap_i64]; omega
  have hp0 : (0 : Int) ≤ (k : Int) + 1 := by omega
  have hp1 : (k : Int) + 1 ≤ (n : Int) := by omega
  have hp2 : ((k : Int) + 1).toNat = k + 1 := by omega
  have hp3 : (k : Int) ≤ (k : Int) + 1 := by omega
  have hne : ((k : Int) == (k : Int) + 1) = false := by simp; omega
  have hnn : (n : Int) ≤ (cap : Int) := by omega
  have hkc : k ≤ cap := by omega
  have hk1 : k + 1 ≤ n := by omega
  have hncp : n ≤ cap := by omega
  clear hr hnews hh H1 G1 L1 H2 G2 R2 hW1 htk hsrcl Z1
  go_enter Try.func33, Try.ntmps33
  go_wp2_with fail
  go_region_law (refine step_append_room rfl (.tmp 22) (.tmp 25) 38 rfl 42 i0 2 Try.underlying38 hi hz1 b 0 k cap (by simp [Act.eval, Act.put]) A (n - (k + 1)) (cap - (k + 1)) (encs (l.drop (k + 1))) (by simp [Act.eval, Act.put]) s1.out hsrc.out s2.out (by omega) s3.out ?_; rw [← HW.out, en])
  all_goals
    go_wp2
    go_ret
    exact ⟨rfl, HR2.out, HG2.out⟩
end Go.Proofs.Ytcobjejaflikjaa.WDel
