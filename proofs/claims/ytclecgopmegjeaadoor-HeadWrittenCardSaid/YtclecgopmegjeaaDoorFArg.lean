/- An argument that is a list of fields, of bulk at most 1048576. -/
import Derived.Test.YtclecgopmegjeaaDoorFlds
import Derived.Test.YtclecgopmegjeaaDoorRows
import Derived.Deep.SlicePairs
namespace Go.Proofs.YtclecgopmegjeaaDoor.FArg
open Go.ChangeShapes Go.WideShapes Go.ChangeAt Go.RowKit Go.Deep LexPure Bytes Ret Rows1 FieldsPure Flds
set_option maxRecDepth 20000
theorem plain_cell {w : World} {a : Addr} {v : Value} (h : w.cell? a = some v) : a = ⟨a.block, a.off, none⟩ := by
  obtain ⟨b, o, e⟩ := a
  cases e with
  | none => rfl
  | some e =>
    have := World.cell?_spot h
    cases this
theorem add_plain (b o i : Nat) : (⟨b, o, none⟩ : Addr).add i = ⟨b, o + i, none⟩ := by unfold Addr.add; split <;> simp_all
theorem bulk_pos {H : Type} (d : DataW H) : 1 ≤ Rows.uptoBulk d := by
  cases d with
  | lit l => cases l <;> simp [Rows.uptoBulk]
  | _ => simp [Rows.uptoBulk]
theorem bulkAll_len {H : Type} : ∀ l : List (DataW H), l.length ≤ Rows.uptoBulkAll l
  | [] => by simp [Rows.uptoBulkAll]
  | d :: r => by
    have h1 := bulk_pos d
    have h2 := bulkAll_len r
    rw [Rows.uptoBulkAll, List.length_cons]
    omega
theorem bulkAll_mem {H : Type} : ∀ (l : List (DataW H)) (d : DataW H), d ∈ l → Rows.uptoBulk d ≤ Rows.uptoBulkAll l
  | [], _, h => by cases h
  | x :: r, d, h => by
    rw [Rows.uptoBulkAll]
    rcases List.mem_cons.1 h with rfl | h
    · omega
    · have := bulkAll_mem r d h
      omega
/-- a list's value is nil, or it has an address -/
def Nice (v : Value) (n : Nat) : Prop := v = .slice none 0 0 ∨ ∃ a cap, v = .slice (some a) n cap
theorem fields_arg {H : Type} {enc : TypeId × Value → H} {W : World} {base : Nat} {v : Value} {d : DataW H} {p : List MemPlace} (hv : Value.okWide Tryd.prog W .any base 23 v)
    (h : DataW.Trod enc Tryd.prog W 0 (fun _ => true) true 23 v d p) (hb : Rows.uptoBulk d ≤ 1048576) :
    ∃ G, FL W v G ∧ Few G ∧ G.length ≤ 1048576 ∧ Nice v G.length := by
  obtain ⟨a0, len, cap, rfl⟩ := okWide_slice Tryd.underlying23 hv
  obtain ⟨fuel, hf⟩ := h
  have he : Tryd.prog.underlying 37 = some (.struct #[(Tryd.prog.fieldsOf 37)[0]!, (Tryd.prog.fieldsOf 37)[1]!]) := by kernel_rfl
  rcases open_slice_pairs Tryd.underlying23 he (by kernel_rfl) (by kernel_rfl) (by kernel_rfl) (by kernel_rfl) (by kernel_rfl) hf with ⟨hc, hx⟩ | ⟨a, len', cap', m, n, V0, V1, D0, D1, P0, P1, hc, _, hlc, hcm, hm, hx, hi⟩
  · have hc' : Value.slice a0 len cap = .slice none 0 0 := by simpa [Value.cells] using hc
    injection hc' with e1 e2 e3
    subst e1 e2 e3
    exact ⟨[], ⟨none, 0, rfl, Nat.zero_le _, fun h => absurd h (by simp)⟩, fun j hj => absurd hj (by simp), Nat.zero_le _, .inl rfl⟩
  · have hc' : Value.slice a0 len cap = .slice (some a) len' cap' := by simpa [Value.cells] using hc
    injection hc' with e1 e2 e3
    subst e1 e2 e3
    injection hx with hd hp
    have hlm : len ≤ m := by rw [hm, if_pos rfl]; exact hlc
    have hS : ∀ i, i < m → ∃ s t : ByteArray, V0 i = .string s ∧ V1 i = .string t ∧ D0 i = .lit (.string s.data.toList) ∧ D1 i = .lit (.string t.data.toList) := fun i him => by
      obtain ⟨_, _, t0, t1⟩ := hi i him
      have u0 : Tryd.prog.underlying (Tryd.prog.fieldsOf 37)[0]!.type = some .string := by kernel_rfl
      have u1 : Tryd.prog.underlying (Tryd.prog.fieldsOf 37)[1]!.type = some .string := by kernel_rfl
      obtain ⟨s, hs, hs2, _⟩ := DataW.trod_string u0 t0
      obtain ⟨t, ht, ht2, _⟩ := DataW.trod_string u1 t1
      exact ⟨s, t, by simpa using hs, by simpa using ht, by simpa using congrArg Prod.fst hs2, by simpa using congrArg Prod.fst ht2⟩
    rw [hd, Rows.uptoBulk] at hb
    have hlen := bulkAll_len ((List.range len).map fun i => DataW.agg [D0 i, D1 i])
    rw [List.length_map, List.length_range] at hlen
    have hget : ∀ i : Nat, i < len → ∃ f : HField, V0 i = .string (ofL f.1) ∧ V1 i = .string (ofL f.2) ∧ f.1.length ≤ 1048576 ∧ f.2.length ≤ 1048576 := fun i hil => by
      obtain ⟨s, t, hs, ht, hs2, ht2⟩ := hS i (by omega)
      have hb2 := bulkAll_mem ((List.range len).map fun i => DataW.agg [D0 i, D1 i]) (.agg [D0 i, D1 i]) (List.mem_map.2 ⟨i, by simpa using hil, rfl⟩)
      rw [hs2, ht2] at hb2
      simp only [Rows.uptoBulk, Rows.uptoBulkAll] at hb2
      exact ⟨(toL s, toL t), by rw [hs, ofL_toL], by rw [ht, ofL_toL], by show s.data.toList.length ≤ _; omega, by show t.data.toList.length ≤ _; omega⟩
    let f : Nat → HField := fun i => if h : i < len then (hget i h).choose else ([], [])
    have hfs : ∀ i (h : i < len), V0 i = .string (ofL (f i).1) ∧ V1 i = .string (ofL (f i).2) ∧ (f i).1.length ≤ 1048576 ∧ (f i).2.length ≤ 1048576 := fun i h => by
      have := (hget i h).choose_spec
      simp only [f, dif_pos h]
      exact this
    refine ⟨(List.range len).map f, ⟨some a, cap, by simp, by simp; omega, fun h0 => ?_⟩, fun j hj => ?_, by simp; omega, .inr ⟨a, cap, by simp⟩⟩
    · rw [List.length_map, List.length_range] at h0
      obtain ⟨c0, _⟩ := hi 0 (by omega)
      have ha := plain_cell c0
      have hae : a = ⟨a.block, a.off, none⟩ := by
        obtain ⟨b, o, e⟩ := a
        cases e with
        | none => rfl
        | some e => simp [Addr.add] at ha
      have hblk := World.block_lt_of_cell? _ _ c0
      obtain ⟨b, o, e⟩ := a
      injection hae with _ _ e3
      subst e3
      refine ⟨b, o, rfl, by simpa [Addr.add] using hblk, fun j hj => ?_⟩
      rw [List.length_map, List.length_range] at hj
      obtain ⟨c1, c2, _⟩ := hi j (by omega)
      obtain ⟨v0, v1, _, _⟩ := hfs j hj
      rw [v0] at c1
      rw [v1] at c2
      simp only [List.getElem_map, List.getElem_range]
      rw [add_plain] at c1 c2
      exact ⟨c1, by rw [Nat.add_assoc]; exact c2⟩
    · rw [List.length_map, List.length_range] at hj
      simp only [List.getElem_map, List.getElem_range]
      exact (hfs j hj).2.2
/-- the same where each string and each slice takes what memory holds: the first form -/
theorem fields_arg_wide {H : Type} {enc : TypeId × Value → H} {W : World} {base : Nat} {v : Value} {d : DataW H} {p : List MemPlace} (hv : Value.okWide Tryd.prog W .any base 23 v)
    (h : DataW.Trod enc Tryd.prog W 0 (fun _ => true) true 23 v d p) (hb : (d.weights Tryd.prog 23).all (· ≤ reachBytes) = true) :
    ∃ G, FL W v G ∧ (∀ (j : Nat) (h : j < G.length), G[j].1.length ≤ 9223372036854775807 ∧ G[j].2.length ≤ 9223372036854775807) ∧ G.length ≤ 4398046510976 ∧ Nice v G.length := by
  obtain ⟨a0, len, cap, rfl⟩ := okWide_slice Tryd.underlying23 hv
  obtain ⟨fuel, hf⟩ := h
  have he : Tryd.prog.underlying 37 = some (.struct #[(Tryd.prog.fieldsOf 37)[0]!, (Tryd.prog.fieldsOf 37)[1]!]) := by kernel_rfl
  rcases open_slice_pairs Tryd.underlying23 he (by kernel_rfl) (by kernel_rfl) (by kernel_rfl) (by kernel_rfl) (by kernel_rfl) hf with ⟨hc, hx⟩ | ⟨a, len', cap', m, n, V0, V1, D0, D1, P0, P1, hc, _, hlc, hcm, hm, hx, hi⟩
  · have hc' : Value.slice a0 len cap = .slice none 0 0 := by simpa [Value.cells] using hc
    injection hc' with e1 e2 e3
    subst e1 e2 e3
    exact ⟨[], ⟨none, 0, rfl, Nat.zero_le _, fun h => absurd h (by simp)⟩, fun j hj => absurd hj (by simp), Nat.zero_le _, .inl rfl⟩
  · have hc' : Value.slice a0 len cap = .slice (some a) len' cap' := by simpa [Value.cells] using hc
    injection hc' with e1 e2 e3
    subst e1 e2 e3
    injection hx with hd hp
    have hlm : len ≤ m := by rw [hm, if_pos rfl]; exact hlc
    have hS : ∀ i, i < m → ∃ f : HField, V0 i = .string (ofL f.1) ∧ V1 i = .string (ofL f.2) ∧ f.1.length ≤ 9223372036854775807 ∧ f.2.length ≤ 9223372036854775807 := fun i him => by
      obtain ⟨_, _, t0, t1⟩ := hi i him
      have u0 : Tryd.prog.underlying (Tryd.prog.fieldsOf 37)[0]!.type = some .string := by kernel_rfl
      have u1 : Tryd.prog.underlying (Tryd.prog.fieldsOf 37)[1]!.type = some .string := by kernel_rfl
      obtain ⟨s, hs, _, ls⟩ := DataW.trod_string u0 t0
      obtain ⟨t, ht, _, lt⟩ := DataW.trod_string u1 t1
      unfold maxLen at ls lt
      exact ⟨(toL s, toL t), by rw [ofL_toL]; simpa using hs, by rw [ofL_toL]; simpa using ht, by rw [toL_length]; exact ls, by rw [toL_length]; exact lt⟩
    have hlen : len * 32 ≤ 140737488351232 := by
      rw [hd] at hb
      simp only [DataW.weights, Tryd.underlying23, List.all_cons, Bool.and_eq_true] at hb
      have h1 := of_decide_eq_true hb.1
      rw [show Tryd.prog.bytesOf 37 = 32 by kernel_rfl, List.length_map, List.length_range] at h1
      unfold reachBytes at h1
      omega
    let f : Nat → HField := fun i => if h : i < m then (hS i h).choose else ([], [])
    have hfs : ∀ i (h : i < m), V0 i = .string (ofL (f i).1) ∧ V1 i = .string (ofL (f i).2) ∧ (f i).1.length ≤ 9223372036854775807 ∧ (f i).2.length ≤ 9223372036854775807 := fun i h => by
      have := (hS i h).choose_spec
      simp only [f, dif_pos h]
      exact this
    refine ⟨(List.range len).map f, ⟨some a, cap, by simp, by simp; omega, fun h0 => ?_⟩, fun j hj => ?_, by simp; omega, .inr ⟨a, cap, by simp⟩⟩
    · rw [List.length_map, List.length_range] at h0
      obtain ⟨c0, _⟩ := hi 0 (by omega)
      have ha := plain_cell c0
      have hae : a = ⟨a.block, a.off, none⟩ := by
        obtain ⟨b, o, e⟩ := a
        cases e with
        | none => rfl
        | some e => simp [Addr.add] at ha
      have hblk := World.block_lt_of_cell? _ _ c0
      obtain ⟨b, o, e⟩ := a
      injection hae with _ _ e3
      subst e3
      refine ⟨b, o, rfl, by simpa [Addr.add] using hblk, fun j hj => ?_⟩
      rw [List.length_map, List.length_range] at hj
      obtain ⟨c1, c2, _⟩ := hi j (by omega)
      obtain ⟨v0, v1, _, _⟩ := hfs j (by omega)
      rw [v0] at c1
      rw [v1] at c2
      simp only [List.getElem_map, List.getElem_range]
      rw [add_plain] at c1 c2
      exact ⟨c1, by rw [Nat.add_assoc]; exact c2⟩
    · rw [List.length_map, List.length_range] at hj
      simp only [List.getElem_map, List.getElem_range]
      exact (hfs j (by omega)).2.2
theorem weightsAll_mem {H : Type} {P : Program} {e : TypeId} (q : Nat → Bool) : ∀ l : List (DataW H), (DataW.weightsAll P e l).all q = true → ∀ d ∈ l, (d.weights P e).all q = true
  | [], _, d, hd => by cases hd
  | x :: l, h, d, hd => by
    simp only [DataW.weightsAll, List.all_append, Bool.and_eq_true] at h
    rcases List.mem_cons.1 hd with rfl | hd
    · exact h.1
    · exact weightsAll_mem q l h.2 d hd
theorem fields_arg_reach {H : Type} {enc : TypeId × Value → H} {W : World} {base : Nat} {v : Value} {d : DataW H} {p : List MemPlace} (hv : Value.okWide Tryd.prog W .any base 23 v)
    (h : DataW.Trod enc Tryd.prog W 0 (fun _ => true) true 23 v d p) (hb : (d.weights Tryd.prog 23).all (· ≤ reachBytes) = true) :
    ∃ G, FL W v G ∧ Far G ∧ G.length ≤ 4398046510976 ∧ Nice v G.length := by
  obtain ⟨a0, len, cap, rfl⟩ := okWide_slice Tryd.underlying23 hv
  obtain ⟨fuel, hf⟩ := h
  have he : Tryd.prog.underlying 37 = some (.struct #[(Tryd.prog.fieldsOf 37)[0]!, (Tryd.prog.fieldsOf 37)[1]!]) := by kernel_rfl
  rcases open_slice_pairs Tryd.underlying23 he (by kernel_rfl) (by kernel_rfl) (by kernel_rfl) (by kernel_rfl) (by kernel_rfl) hf with ⟨hc, hx⟩ | ⟨a, len', cap', m, n, V0, V1, D0, D1, P0, P1, hc, _, hlc, hcm, hm, hx, hi⟩
  · have hc' : Value.slice a0 len cap = .slice none 0 0 := by simpa [Value.cells] using hc
    injection hc' with e1 e2 e3
    subst e1 e2 e3
    exact ⟨[], ⟨none, 0, rfl, Nat.zero_le _, fun h => absurd h (by simp)⟩, fun j hj => absurd hj (by simp), Nat.zero_le _, .inl rfl⟩
  · have hc' : Value.slice a0 len cap = .slice (some a) len' cap' := by simpa [Value.cells] using hc
    injection hc' with e1 e2 e3
    subst e1 e2 e3
    injection hx with hd hp
    have hlm : len ≤ m := by rw [hm, if_pos rfl]; exact hlc
    have hall : ∀ i, i < len → ((DataW.agg [D0 i, D1 i]).weights Tryd.prog 37).all (· ≤ reachBytes) = true := fun i hil => by
      rw [hd] at hb
      simp only [DataW.weights, Tryd.underlying23, List.all_cons, Bool.and_eq_true, List.all_append] at hb
      exact weightsAll_mem _ _ hb.2.1 _ (List.mem_map.2 ⟨i, List.mem_range.2 hil, rfl⟩)
    have hS : ∀ i, i < m → ∃ f : HField, V0 i = .string (ofL f.1) ∧ V1 i = .string (ofL f.2) ∧ (i < len → f.1.length ≤ 140737488351232 ∧ f.2.length ≤ 140737488351232) := fun i him => by
      obtain ⟨_, _, t0, t1⟩ := hi i him
      have u0 : Tryd.prog.underlying (Tryd.prog.fieldsOf 37)[0]!.type = some .string := by kernel_rfl
      have u1 : Tryd.prog.underlying (Tryd.prog.fieldsOf 37)[1]!.type = some .string := by kernel_rfl
      obtain ⟨s, hs, hs2, _⟩ := DataW.trod_string u0 t0
      obtain ⟨t, ht, ht2, _⟩ := DataW.trod_string u1 t1
      have e0 : D0 i = .lit (.string s.data.toList) := by simpa using congrArg Prod.fst hs2
      have e1 : D1 i = .lit (.string t.data.toList) := by simpa using congrArg Prod.fst ht2
      refine ⟨(toL s, toL t), by rw [ofL_toL]; simpa using hs, by rw [ofL_toL]; simpa using ht, fun hil => ?_⟩
      have h := hall i hil
      rw [e0, e1] at h
      simp only [DataW.weights, he, List.map_cons, List.map_nil, DataW.weightsEach, List.all_append, List.all_cons, List.all_nil, Bool.and_true, Bool.and_eq_true] at h
      have h1 := of_decide_eq_true h.1
      have h2 := of_decide_eq_true h.2
      unfold reachBytes at h1 h2
      exact ⟨h1, h2⟩
    have hlen : len * 32 ≤ 140737488351232 := by
      rw [hd] at hb
      simp only [DataW.weights, Tryd.underlying23, List.all_cons, Bool.and_eq_true] at hb
      have h1 := of_decide_eq_true hb.1
      rw [show Tryd.prog.bytesOf 37 = 32 by kernel_rfl, List.length_map, List.length_range] at h1
      unfold reachBytes at h1
      omega
    let f : Nat → HField := fun i => if h : i < m then (hS i h).choose else ([], [])
    have hfs : ∀ i (h : i < m), V0 i = .string (ofL (f i).1) ∧ V1 i = .string (ofL (f i).2) ∧ (i < len → (f i).1.length ≤ 140737488351232 ∧ (f i).2.length ≤ 140737488351232) := fun i h => by
      have := (hS i h).choose_spec
      simp only [f, dif_pos h]
      exact this
    refine ⟨(List.range len).map f, ⟨some a, cap, by simp, by simp; omega, fun h0 => ?_⟩, fun j hj => ?_, by simp; omega, .inr ⟨a, cap, by simp⟩⟩
    · rw [List.length_map, List.length_range] at h0
      obtain ⟨c0, _⟩ := hi 0 (by omega)
      have ha := plain_cell c0
      have hae : a = ⟨a.block, a.off, none⟩ := by
        obtain ⟨b, o, e⟩ := a
        cases e with
        | none => rfl
        | some e => simp [Addr.add] at ha
      have hblk := World.block_lt_of_cell? _ _ c0
      obtain ⟨b, o, e⟩ := a
      injection hae with _ _ e3
      subst e3
      refine ⟨b, o, rfl, by simpa [Addr.add] using hblk, fun j hj => ?_⟩
      rw [List.length_map, List.length_range] at hj
      obtain ⟨c1, c2, _⟩ := hi j (by omega)
      obtain ⟨v0, v1, _⟩ := hfs j (by omega)
      rw [v0] at c1
      rw [v1] at c2
      simp only [List.getElem_map, List.getElem_range]
      rw [add_plain] at c1 c2
      exact ⟨c1, by rw [Nat.add_assoc]; exact c2⟩
    · rw [List.length_map, List.length_range] at hj
      simp only [List.getElem_map, List.getElem_range]
      exact (hfs j (by omega)).2.2 (by omega)
end Go.Proofs.YtclecgopmegjeaaDoor.FArg
