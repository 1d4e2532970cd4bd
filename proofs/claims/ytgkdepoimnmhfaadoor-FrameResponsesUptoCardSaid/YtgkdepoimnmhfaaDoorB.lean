/- Texts of this seat, one behind another: FArg, FRow, FCopied, FrAnchor, HArg, LawCard. -/
import Derived.Test.YtgkdepoimnmhfaaDoorRows
import Derived.Deep.SlicePairs
import Derived.Laws.ResultCell
import Derived.Laws.StructEq
import Derived.Deep.Fields
import Derived.Test.YtgkdepoimnmhfaaDoorCards
import Derived.Test.YtgkdepoimnmhfaaDoorTie
import Derived.Deep.DeepHandedRow
import Derived.Lay
import Derived.SevenTiedAt
import Derived.Test.YtgkdepoimnmhfaaDoorA1
import Derived.Test.YtgkdepoimnmhfaaDoorA2
import Derived.Test.YtgkdepoimnmhfaaDoorA4
/- An argument that is a list of fields, of bulk at most 1048576. -/
namespace Go.Proofs.YtgkdepoimnmhfaaDoor.FArg
open Go.ChangeShapes Go.WideShapes Go.ChangeAt Go.RowKit Go.Deep LexPure Bytes Ret Rows1 FieldsPure Flds
set_option maxRecDepth 20000
theorem plain_cell {w : World} {a : Addr} {v : Value} (h : w.cell? a = some v) : a = ⟨a.block, a.off, none⟩ := by
  obtain ⟨b, o, e⟩ := a
  cases e with
  | none => rfl
  | some e =>
    have := World.cell?_spot h
    cases this
theorem add_plain (b o i : Nat) : (⟨b, o, none⟩ : Addr).add i = ⟨b, o + i, none⟩ := by unfold Addr.add; split <;> simp_all
theorem bulk_pos {H : Type} (d : DataW H) : 1 ≤ Rows.uptoBulk d := by
  cases d with
  | lit l => cases l <;> simp [Rows.uptoBulk]
  | _ => simp [Rows.uptoBulk]
theorem bulkAll_len {H : Type} : ∀ l : List (DataW H), l.length ≤ Rows.uptoBulkAll l
  | [] => by simp [Rows.uptoBulkAll]
  | d :: r => by
    have h1 := bulk_pos d
    have h2 := bulkAll_len r
    rw [Rows.uptoBulkAll, List.length_cons]
    omega
theorem bulkAll_mem {H : Type} : ∀ (l : List (DataW H)) (d : DataW H), d ∈ l → Rows.uptoBulk d ≤ Rows.uptoBulkAll l
  | [], _, h => by cases h
  | x :: r, d, h => by
    rw [Rows.uptoBulkAll]
    rcases List.mem_cons.1 h with rfl | h
    · omega
    · have := bulkAll_mem r d h
      omega
/-- a list's value is nil, or it has an address -/
def Nice (v : Value) (n : Nat) : Prop := v = .slice none 0 0 ∨ ∃ a cap, v = .slice (some a) n cap
theorem fields_core {H : Type} {enc : TypeId × Value → H} {W : World} {v : Value} {d : DataW H} {p : List MemPlace} {fuel : Nat}
    (hf : DataW.trod enc Tryd.prog W 0 (fun _ => true) true fuel 22 [v] = some (d, p)) (hb : Rows.uptoBulk d ≤ 1048576) :
    ∃ G, FL W v G ∧ Few G ∧ G.length ≤ 1048576 ∧ Nice v G.length := by
  have he : Tryd.prog.underlying 41 = some (.struct #[(Tryd.prog.fieldsOf 41)[0]!, (Tryd.prog.fieldsOf 41)[1]!]) := by kernel_rfl
  rcases open_slice_pairs Tryd.underlying22 he (by kernel_rfl) (by kernel_rfl) (by kernel_rfl) (by kernel_rfl) (by kernel_rfl) hf with ⟨hc, hx⟩ | ⟨a, len, cap, m, n, V0, V1, D0, D1, P0, P1, hc, _, hlc, hcm, hm, hx, hi⟩
  · obtain rfl : v = .slice none 0 0 := by simpa using hc
    exact ⟨[], ⟨none, 0, rfl, Nat.zero_le _, fun h => absurd h (by simp)⟩, fun j hj => absurd hj (by simp), Nat.zero_le _, .inl rfl⟩
  · obtain rfl : v = .slice (some a) len cap := by simpa using hc
    injection hx with hd hp
    have hlm : len ≤ m := by rw [hm, if_pos rfl]; exact hlc
    have hS : ∀ i, i < m → ∃ s t : ByteArray, V0 i = .string s ∧ V1 i = .string t ∧ D0 i = .lit (.string s.data.toList) ∧ D1 i = .lit (.string t.data.toList) := fun i him => by
      obtain ⟨_, _, t0, t1⟩ := hi i him
      have u0 : Tryd.prog.underlying (Tryd.prog.fieldsOf 41)[0]!.type = some .string := by kernel_rfl
      have u1 : Tryd.prog.underlying (Tryd.prog.fieldsOf 41)[1]!.type = some .string := by kernel_rfl
      obtain ⟨s, hs, hs2, _⟩ := DataW.trod_string u0 t0
      obtain ⟨t, ht, ht2, _⟩ := DataW.trod_string u1 t1
      exact ⟨s, t, by simpa using hs, by simpa using ht, by simpa using congrArg Prod.fst hs2, by simpa using congrArg Prod.fst ht2⟩
    rw [hd, Rows.uptoBulk] at hb
    have hlen := bulkAll_len ((List.range len).map fun i => DataW.agg [D0 i, D1 i])
    rw [List.length_map, List.length_range] at hlen
    have hget : ∀ i : Nat, i < len → ∃ f : HField, V0 i = .string (ofL f.1) ∧ V1 i = .string (ofL f.2) ∧ f.1.length ≤ 1048576 ∧ f.2.length ≤ 1048576 := fun i hil => by
      obtain ⟨s, t, hs, ht, hs2, ht2⟩ := hS i (by omega)
      have hb2 := bulkAll_mem ((List.range len).map fun i => DataW.agg [D0 i, D1 i]) (.agg [D0 i, D1 i]) (List.mem_map.2 ⟨i, by simpa using hil, rfl⟩)
      rw [hs2, ht2] at hb2
      simp only [Rows.uptoBulk, Rows.uptoBulkAll] at hb2
      exact ⟨(toL s, toL t), by rw [hs, ofL_toL], by rw [ht, ofL_toL], by show s.data.toList.length ≤ _; omega, by show t.data.toList.length ≤ _; omega⟩
    let f : Nat → HField := fun i => if h : i < len then (hget i h).choose else ([], [])
    have hfs : ∀ i (h : i < len), V0 i = .string (ofL (f i).1) ∧ V1 i = .string (ofL (f i).2) ∧ (f i).1.length ≤ 1048576 ∧ (f i).2.length ≤ 1048576 := fun i h => by
      have := (hget i h).choose_spec
      simp only [f, dif_pos h]
      exact this
    refine ⟨(List.range len).map f, ⟨some a, cap, by simp, by simp; omega, fun h0 => ?_⟩, fun j hj => ?_, by simp; omega, .inr ⟨a, cap, by simp⟩⟩
    · rw [List.length_map, List.length_range] at h0
      obtain ⟨c0, _⟩ := hi 0 (by omega)
      have ha := plain_cell c0
      have hae : a = ⟨a.block, a.off, none⟩ := by
        obtain ⟨b, o, e⟩ := a
        cases e with
        | none => rfl
        | some e => simp [Addr.add] at ha
      have hblk := World.block_lt_of_cell? _ _ c0
      obtain ⟨b, o, e⟩ := a
      injection hae with _ _ e3
      subst e3
      refine ⟨b, o, rfl, by simpa [Addr.add] using hblk, fun j hj => ?_⟩
      rw [List.length_map, List.length_range] at hj
      obtain ⟨c1, c2, _⟩ := hi j (by omega)
      obtain ⟨v0, v1, _, _⟩ := hfs j hj
      rw [v0] at c1
      rw [v1] at c2
      simp only [List.getElem_map, List.getElem_range]
      rw [add_plain] at c1 c2
      exact ⟨c1, by rw [Nat.add_assoc]; exact c2⟩
    · rw [List.length_map, List.length_range] at hj
      simp only [List.getElem_map, List.getElem_range]
      exact (hfs j hj).2.2
theorem fields_arg {H : Type} {enc : TypeId × Value → H} {W : World} {base : Nat} {v : Value} {d : DataW H} {p : List MemPlace} (hv : Value.okWide Tryd.prog W .any base 22 v)
    (h : DataW.Trod enc Tryd.prog W 0 (fun _ => true) true 22 v d p) (hb : Rows.uptoBulk d ≤ 1048576) :
    ∃ G, FL W v G ∧ Few G ∧ G.length ≤ 1048576 ∧ Nice v G.length := by
  obtain ⟨a0, len, cap, rfl⟩ := okWide_slice Tryd.underlying22 hv
  obtain ⟨fuel, hf⟩ := h
  exact fields_core (by simpa [Value.cells] using hf) hb
/-- the same where each string and each slice takes what memory holds: the first form -/
theorem fields_arg_wide {H : Type} {enc : TypeId × Value → H} {W : World} {base : Nat} {v : Value} {d : DataW H} {p : List MemPlace} (hv : Value.okWide Tryd.prog W .any base 22 v)
    (h : DataW.Trod enc Tryd.prog W 0 (fun _ => true) true 22 v d p) (hb : (d.weights Tryd.prog 22).all (· ≤ reachBytes) = true) :
    ∃ G, FL W v G ∧ (∀ (j : Nat) (h : j < G.length), G[j].1.length ≤ 9223372036854775807 ∧ G[j].2.length ≤ 9223372036854775807) ∧ G.length ≤ 4398046510976 ∧ Nice v G.length := by
  obtain ⟨a0, len, cap, rfl⟩ := okWide_slice Tryd.underlying22 hv
  obtain ⟨fuel, hf⟩ := h
  have he : Tryd.prog.underlying 41 = some (.struct #[(Tryd.prog.fieldsOf 41)[0]!, (Tryd.prog.fieldsOf 41)[1]!]) := by kernel_rfl
  rcases open_slice_pairs Tryd.underlying22 he (by kernel_rfl) (by kernel_rfl) (by kernel_rfl) (by kernel_rfl) (by kernel_rfl) hf with ⟨hc, hx⟩ | ⟨a, len', cap', m, n, V0, V1, D0, D1, P0, P1, hc, _, hlc, hcm, hm, hx, hi⟩
  · have hc' : Value.slice a0 len cap = .slice none 0 0 := by simpa [Value.cells] using hc
    injection hc' with e1 e2 e3
    subst e1 e2 e3
    exact ⟨[], ⟨none, 0, rfl, Nat.zero_le _, fun h => absurd h (by simp)⟩, fun j hj => absurd hj (by simp), Nat.zero_le _, .inl rfl⟩
  · have hc' : Value.slice a0 len cap = .slice (some a) len' cap' := by simpa [Value.cells] using hc
    injection hc' with e1 e2 e3
    subst e1 e2 e3
    injection hx with hd hp
    have hlm : len ≤ m := by rw [hm, if_pos rfl]; exact hlc
    have hS : ∀ i, i < m → ∃ f : HField, V0 i = .string (ofL f.1) ∧ V1 i = .string (ofL f.2) ∧ f.1.length ≤ 9223372036854775807 ∧ f.2.length ≤ 9223372036854775807 := fun i him => by
      obtain ⟨_, _, t0, t1⟩ := hi i him
      have u0 : Tryd.prog.underlying (Tryd.prog.fieldsOf 41)[0]!.type = some .string := by kernel_rfl
      have u1 : Tryd.prog.underlying (Tryd.prog.fieldsOf 41)[1]!.type = some .string := by kernel_rfl
      obtain ⟨s, hs, _, ls⟩ := DataW.trod_string u0 t0
      obtain ⟨t, ht, _, lt⟩ := DataW.trod_string u1 t1
      unfold maxLen at ls lt
      exact ⟨(toL s, toL t), by rw [ofL_toL]; simpa using hs, by rw [ofL_toL]; simpa using ht, by rw [toL_length]; exact ls, by rw [toL_length]; exact lt⟩
    have hlen : len * 32 ≤ 140737488351232 := by
      rw [hd] at hb
      simp only [DataW.weights, Tryd.underlying22, List.all_cons, Bool.and_eq_true] at hb
      have h1 := of_decide_eq_true hb.1
      rw [show Tryd.prog.bytesOf 41 = 32 by kernel_rfl, List.length_map, List.length_range] at h1
      unfold reachBytes at h1
      omega
    let f : Nat → HField := fun i => if h : i < m then (hS i h).choose else ([], [])
    have hfs : ∀ i (h : i < m), V0 i = .string (ofL (f i).1) ∧ V1 i = .string (ofL (f i).2) ∧ (f i).1.length ≤ 9223372036854775807 ∧ (f i).2.length ≤ 9223372036854775807 := fun i h => by
      have := (hS i h).choose_spec
      simp only [f, dif_pos h]
      exact this
    refine ⟨(List.range len).map f, ⟨some a, cap, by simp, by simp; omega, fun h0 => ?_⟩, fun j hj => ?_, by simp; omega, .inr ⟨a, cap, by simp⟩⟩
    · rw [List.length_map, List.length_range] at h0
      obtain ⟨c0, _⟩ := hi 0 (by omega)
      have ha := plain_cell c0
      have hae : a = ⟨a.block, a.off, none⟩ := by
        obtain ⟨b, o, e⟩ := a
        cases e with
        | none => rfl
        | some e => simp [Addr.add] at ha
      have hblk := World.block_lt_of_cell? _ _ c0
      obtain ⟨b, o, e⟩ := a
      injection hae with _ _ e3
      subst e3
      refine ⟨b, o, rfl, by simpa [Addr.add] using hblk, fun j hj => ?_⟩
      rw [List.length_map, List.length_range] at hj
      obtain ⟨c1, c2, _⟩ := hi j (by omega)
      obtain ⟨v0, v1, _, _⟩ := hfs j (by omega)
      rw [v0] at c1
      rw [v1] at c2
      simp only [List.getElem_map, List.getElem_range]
      rw [add_plain] at c1 c2
      exact ⟨c1, by rw [Nat.add_assoc]; exact c2⟩
    · rw [List.length_map, List.length_range] at hj
      simp only [List.getElem_map, List.getElem_range]
      exact (hfs j (by omega)).2.2
theorem weightsAll_mem {H : Type} {P : Program} {e : TypeId} (q : Nat → Bool) : ∀ l : List (DataW H), (DataW.weightsAll P e l).all q = true → ∀ d ∈ l, (d.weights P e).all q = true
  | [], _, d, hd => by cases hd
  | x :: l, h, d, hd => by
    simp only [DataW.weightsAll, List.all_append, Bool.and_eq_true] at h
    rcases List.mem_cons.1 hd with rfl | hd
    · exact h.1
    · exact weightsAll_mem q l h.2 d hd
theorem fields_core_reach {H : Type} {enc : TypeId × Value → H} {W : World} {v : Value} {d : DataW H} {p : List MemPlace} {fuel : Nat}
    (hf : DataW.trod enc Tryd.prog W 0 (fun _ => true) true fuel 22 [v] = some (d, p)) (hb : (d.weights Tryd.prog 22).all (· ≤ reachBytes) = true) :
    ∃ G, FL W v G ∧ Far G ∧ G.length ≤ 4398046510976 ∧ Nice v G.length := by
  have he : Tryd.prog.underlying 41 = some (.struct #[(Tryd.prog.fieldsOf 41)[0]!, (Tryd.prog.fieldsOf 41)[1]!]) := by kernel_rfl
  rcases open_slice_pairs Tryd.underlying22 he (by kernel_rfl) (by kernel_rfl) (by kernel_rfl) (by kernel_rfl) (by kernel_rfl) hf with ⟨hc, hx⟩ | ⟨a, len, cap, m, n, V0, V1, D0, D1, P0, P1, hc, _, hlc, hcm, hm, hx, hi⟩
  · obtain rfl : v = .slice none 0 0 := by simpa using hc
    exact ⟨[], ⟨none, 0, rfl, Nat.zero_le _, fun h => absurd h (by simp)⟩, fun j hj => absurd hj (by simp), Nat.zero_le _, .inl rfl⟩
  · obtain rfl : v = .slice (some a) len cap := by simpa using hc
    injection hx with hd hp
    have hlm : len ≤ m := by rw [hm, if_pos rfl]; exact hlc
    have hall : ∀ i, i < len → ((DataW.agg [D0 i, D1 i]).weights Tryd.prog 41).all (· ≤ reachBytes) = true := fun i hil => by
      rw [hd] at hb
      simp only [DataW.weights, Tryd.underlying22, List.all_cons, Bool.and_eq_true, List.all_append] at hb
      exact weightsAll_mem _ _ hb.2.1 _ (List.mem_map.2 ⟨i, List.mem_range.2 hil, rfl⟩)
    have hS : ∀ i, i < m → ∃ f : HField, V0 i = .string (ofL f.1) ∧ V1 i = .string (ofL f.2) ∧ (i < len → f.1.length ≤ 140737488351232 ∧ f.2.length ≤ 140737488351232) := fun i him => by
      obtain ⟨_, _, t0, t1⟩ := hi i him
      have u0 : Tryd.prog.underlying (Tryd.prog.fieldsOf 41)[0]!.type = some .string := by kernel_rfl
      have u1 : Tryd.prog.underlying (Tryd.prog.fieldsOf 41)[1]!.type = some .string := by kernel_rfl
      obtain ⟨s, hs, hs2, _⟩ := DataW.trod_string u0 t0
      obtain ⟨t, ht, ht2, _⟩ := DataW.trod_string u1 t1
      have e0 : D0 i = .lit (.string s.data.toList) := by simpa using congrArg Prod.fst hs2
      have e1 : D1 i = .lit (.string t.data.toList) := by simpa using congrArg Prod.fst ht2
      refine ⟨(toL s, toL t), by rw [ofL_toL]; simpa using hs, by rw [ofL_toL]; simpa using ht, fun hil => ?_⟩
      have h := hall i hil
      rw [e0, e1] at h
      simp only [DataW.weights, he, List.map_cons, List.map_nil, DataW.weightsEach, List.all_append, List.all_cons, List.all_nil, Bool.and_true, Bool.and_eq_true] at h
      have h1 := of_decide_eq_true h.1
      have h2 := of_decide_eq_true h.2
      unfold reachBytes at h1 h2
      exact ⟨h1, h2⟩
    have hlen : len * 32 ≤ 140737488351232 := by
      rw [hd] at hb
      simp only [DataW.weights, Tryd.underlying22, List.all_cons, Bool.and_eq_true] at hb
      have h1 := of_decide_eq_true hb.1
      rw [show Tryd.prog.bytesOf 41 = 32 by kernel_rfl, List.length_map, List.length_range] at h1
      unfold reachBytes at h1
      omega
    let f : Nat → HField := fun i => if h : i < m then (hS i h).choose else ([], [])
    have hfs : ∀ i (h : i < m), V0 i = .string (ofL (f i).1) ∧ V1 i = .string (ofL (f i).2) ∧ (i < len → (f i).1.length ≤ 140737488351232 ∧ (f i).2.length ≤ 140737488351232) := fun i h => by
      have := (hS i h).choose_spec
      simp only [f, dif_pos h]
      exact this
    refine ⟨(List.range len).map f, ⟨some a, cap, by simp, by simp; omega, fun h0 => ?_⟩, fun j hj => ?_, by simp; omega, .inr ⟨a, cap, by simp⟩⟩
    · rw [List.length_map, List.length_range] at h0
      obtain ⟨c0, _⟩ := hi 0 (by omega)
      have ha := plain_cell c0
      have hae : a = ⟨a.block, a.off, none⟩ := by
        obtain ⟨b, o, e⟩ := a
        cases e with
        | none => rfl
        | some e => simp [Addr.add] at ha
      have hblk := World.block_lt_of_cell? _ _ c0
      obtain ⟨b, o, e⟩ := a
      injection hae with _ _ e3
      subst e3
      refine ⟨b, o, rfl, by simpa [Addr.add] using hblk, fun j hj => ?_⟩
      rw [List.length_map, List.length_range] at hj
      obtain ⟨c1, c2, _⟩ := hi j (by omega)
      obtain ⟨v0, v1, _⟩ := hfs j (by omega)
      rw [v0] at c1
      rw [v1] at c2
      simp only [List.getElem_map, List.getElem_range]
      rw [add_plain] at c1 c2
      exact ⟨c1, by rw [Nat.add_assoc]; exact c2⟩
    · rw [List.length_map, List.length_range] at hj
      simp only [List.getElem_map, List.getElem_range]
      exact (hfs j (by omega)).2.2 (by omega)
theorem fields_arg_reach {H : Type} {enc : TypeId × Value → H} {W : World} {base : Nat} {v : Value} {d : DataW H} {p : List MemPlace} (hv : Value.okWide Tryd.prog W .any base 22 v)
    (h : DataW.Trod enc Tryd.prog W 0 (fun _ => true) true 22 v d p) (hb : (d.weights Tryd.prog 22).all (· ≤ reachBytes) = true) :
    ∃ G, FL W v G ∧ Far G ∧ G.length ≤ 4398046510976 ∧ Nice v G.length := by
  obtain ⟨a0, len, cap, rfl⟩ := okWide_slice Tryd.underlying22 hv
  obtain ⟨fuel, hf⟩ := h
  exact fields_core_reach (by simpa [Value.cells] using hf) hb
end Go.Proofs.YtgkdepoimnmhfaaDoor.FArg

/- A list of fields appended to a row of one's own. -/
namespace Go.Proofs.YtgkdepoimnmhfaaDoor.FRow
open Go.ChangeShapes Go.WideShapes Go.ChangeAt Go.RowKit LexPure Bytes Ret Rows1 FieldsPure Flds KeptRow Mem
set_option maxRecDepth 20000
/-- a list's value is nil, or it has an address -/
abbrev Nice := FArg.Nice
theorem encFs_len (G : List HField) : (encFs G).length = G.length * 2 := by
  induction G with
  | nil => rfl
  | cons f G ih =>
    rw [show f :: G = [f] ++ G from rfl, encFs_append, List.length_append, ih]
    simp [encFs, encF]
    omega
theorem encFs_cells (G : List HField) : ∀ u ∈ encFs G, u.oneCell' = true := by
  intro u hu
  unfold encFs at hu
  obtain ⟨f, _, hf⟩ := List.mem_flatMap.1 hu
  unfold encF at hf
  simp only [List.mem_cons, List.not_mem_nil, or_false] at hf
  rcases hf with rfl | rfl <;> rfl
theorem encFs_get (G : List HField) (j : Nat) (u : Value) (h : (encFs G)[j]? = some u) : ∃ i, ∃ hi : i < G.length, (j = i * 2 ∧ u = .string (ofL G[i].1)) ∨ (j = i * 2 + 1 ∧ u = .string (ofL G[i].2)) := by
  have hj : j < G.length * 2 := by rw [← encFs_len]; exact (List.getElem?_eq_some_iff.1 h).1
  have hi : j / 2 < G.length := by omega
  obtain ⟨h1, h2⟩ := encFs_at G (j / 2) G[j / 2] (List.getElem?_eq_getElem hi)
  refine ⟨j / 2, hi, ?_⟩
  rcases Nat.mod_two_eq_zero_or_one j with e | e
  · have ej : j = j / 2 * 2 := by omega
    rw [← ej] at h1
    rw [h1] at h
    exact .inl ⟨ej, (Option.some.inj h).symm⟩
  · have ej : j = j / 2 * 2 + 1 := by omega
    rw [← ej] at h2
    rw [h2] at h
    exact .inr ⟨ej, (Option.some.inj h).symm⟩
set_option maxHeartbeats 800000 in
theorem run_append_list {w : World} (ty base : Nat) (v : Value) (n : Nat) (xs : List Value) (hown : w.ownsRow base 41 2 v n xs) (y : Value) (G : List HField) (hF : FL w y G) (hy : Nice y G.length)
    (h63 : n + G.length ≤ 4398046511104) (hbase : base ≤ w.heap.size) :
    ∃ v' w', (Builtin.append_ #[22, 22] ty #[v, y]).run Tryd.prog w = .ok v' w' ∧ w'.ownsRow base 41 2 v' (n + G.length) (xs ++ encFs G) ∧ w.grownBy w' v.ownBlock := by
  obtain ⟨i0, hi, hz0, hz1, hz2⟩ := info_parts infoF
  rcases hy with rfl | ⟨a, cap, rfl⟩
  · obtain ⟨p', c', hv, _, _⟩ := hF
    have hlen : G.length = 0 := by injection hv with _ h _; exact h.symm
    have hG : G = [] := List.eq_nil_of_length_eq_zero hlen
    subst hG
    exact ⟨v, w, run_append_owned_none (P := Tryd.prog) (w := w) base 22 ty 41 i0 2 Tryd.underlying22 hi v n xs hown, by simpa [encFs] using hown, World.grownBy.refl w _⟩
  · obtain ⟨p', c', hv, hle, hc⟩ := hF
    injection hv with e1 _ e3
    subst e1 e3
    obtain ⟨v', w', hr, h2, h3, _, _⟩ := run_append_own_at (P := Tryd.prog) w base 22 ty 41 i0 _ 2 32 Tryd.underlying22 hi hz0 hz1 hz2 rfl (by omega) v n xs hown a G.length cap (encFs G) (encFs_len G)
      (fun j u h => by
        obtain ⟨i, hi, hh⟩ := encFs_get G j u h
        obtain ⟨g', o', e, _, hcell⟩ := hc (by omega)
        injection e with e
        subst e
        rw [FArg.add_plain]
        rcases hh with ⟨rfl, rfl⟩ | ⟨rfl, rfl⟩
        · exact (hcell i hi).1
        · exact (hcell i hi).2) (encFs_cells G) (by unfold maxLen; omega) (by omega) hbase
    exact ⟨v', w', hr, h2, h3⟩
theorem wpList_append_list {w : World} {ops : Array Oper} {rest : List Oper} {o : Oper} {a : Act} {Q : Exit → Act → World → Prop} (hgd : o.guard = none) (s x : Operand)
    (ho : o.op = .call { callee := .builtin .append, args := #[s, x], argTypes := #[22, 22] }) (base : Nat) (v : Value) (n : Nat) (xs : List Value) (hs : a.eval s = v) (hown : w.ownsRow base 41 2 v n xs)
    (y : Value) (G : List HField) (hx : a.eval x = y) (hF : FL w y G) (hy : Nice y G.length) (h63 : n + G.length ≤ 4398046511104) (hbase : base ≤ w.heap.size)
    (h : ∀ v' w', w'.ownsRow base 41 2 v' (n + G.length) (xs ++ encFs G) → w.grownBy w' v.ownBlock → wpList Tryd.prog ops Q rest (a.put o.dst v') w') :
    wpList Tryd.prog ops Q (o :: rest) a w := by
  refine wpList_plain hgd fun K hK => ?_
  obtain ⟨v', w', hrun, r1, r2⟩ := run_append_list o.type base v n xs hown y G hF hy h63 hbase
  unfold Oper.wp execOp
  simp only [ho, resolve, invoke, builtin, Sem.run_bind, Sem.run_pure, Result.andThen_ok, List.map_toArray, List.map_cons, List.map_nil, hs, hx, hrun]
  exact hK _ _ (h v' w' r1 r2)
/-- an empty list that is no nil -/
theorem owns_none (w : World) (t : TypeId) (base : Nat) (hb : base ≤ w.heap.size) : (w.alloc (.cells #[] t)).ownsRow base t 2 (.slice (some ⟨w.heap.size, 0, none⟩) 0 0) 0 [] :=
  ⟨rfl, .inr ⟨w.heap.size, 0, #[], rfl, hb, heap_alloc_new w _, Nat.le_refl _, Nat.zero_le _, rfl, rfl⟩⟩
/-- behind 'append([]api.Field{}, l...)' -/
theorem copied {w1 w4 : World} {v4 : Value} {G : List HField} (h : w4.ownsRow w1.heap.size 41 2 v4 (0 + G.length) ([] ++ encFs G))
    (hg : (w1.alloc (.cells #[] 41)).grownBy w4 (Value.slice (some ⟨w1.heap.size, 0, none⟩) 0 0).ownBlock) :
    w4.ownsRow w1.heap.size 41 2 v4 G.length (encFs G) ∧ Below w1.heap.size w1 w4 := by
  rw [Nat.zero_add, List.nil_append] at h
  exact ⟨h, ((Below.refl _ w1).alloc (Nat.le_refl _) _).grown hg (by simp) (fun j e => by cases e; exact Nat.le_refl _)⟩
theorem fl_new (w : World) (G : List HField) (cells : List Value) (cap : Nat) (hc : cells = encFs G) (hle : G.length ≤ 4398046511104) :
    FL (w.alloc (.cells cells.toArray 41)) (.slice (some ⟨w.heap.size, 0, none⟩) G.length cap) G := by
  refine ⟨_, cap, rfl, hle, fun _ => ⟨w.heap.size, 0, rfl, by simp, fun j hj => ?_⟩⟩
  have h := (Has.new w 41 cells.toArray).cell
  obtain ⟨h1, h2⟩ := encFs_at G j G[j] (List.getElem?_eq_getElem hj)
  rw [Nat.zero_add, h, h]
  subst hc
  constructor
  · simpa using h1
  · simpa using h2
end Go.Proofs.YtgkdepoimnmhfaaDoor.FRow

/- Layer 9: the law's copy of a head. -/
namespace Go.Proofs.YtgkdepoimnmhfaaDoor.FCopied
open Go.ChangeShapes Go.WideShapes Go.ChangeAt Go.RowKit LexPure Bytes Ret Rows1 FieldsPure HeadPure Flds HBox KeptRow Held FRow Mem
set_option maxRecDepth 20000
theorem results_cell1 {fn : Func} {p : Tmp} {ty : TypeId} (h : fn.results = #[.cell p ty]) (tmps : Array Value) (P : Program) (w : World) :
    (results fn tmps).run P w = ((asAddr (tmps.getD p undef)).run P w).andThen fun a w₁ => (loadVar ty a).run P w₁ := by
  simp only [results, h]
  simp [Sem.run_bind, Result.andThen]
theorem end_hbox1 {W : World} {g : Nat} {h : H8} {l : Value} {tmps : Array Value} {p : Tmp} (hp : tmps.getD p undef = .pointer (some ⟨g, 0, none⟩)) (b : HBox W g h l) :
    (((asAddr (tmps.getD p undef)).run Tryd.prog W).andThen fun a w₁ => (loadVar 24 a).run Tryd.prog w₁) = .ok (hv h l) W := by
  rw [hp]
  have := hload b
  simp [asAddr, Result.andThen, this]
theorem nice_row {w : World} {base n size : Nat} {e : TypeId} {v : Value} {xs : List Value} (h : w.ownsRow base e size v n xs) : Nice v n := by
  rcases h.2 with ⟨hv, _⟩ | ⟨g, cap, cur, hv, _⟩
  · exact .inl hv
  · exact .inr ⟨_, cap, hv⟩
theorem grown_two {w W3 w4 : World} {h : H8} {v : Value} (b3 : Below w.heap.size w W3) (hg : W3.grownBy w4 (some (w.heap.size + 1 + 1))) (BP : Has W3 w.heap.size 24 (hc h v)) (BR : Has W3 (w.heap.size + 1) 24 (hc zero8 (.slice none 0 0))) :
    Below w.heap.size w w4 ∧ HBox w4 w.heap.size h v ∧ HBox w4 (w.heap.size + 1) zero8 (.slice none 0 0) :=
  ⟨Below.grown b3 hg b3.size (fun j e => by have := Option.some.inj e; omega), ⟨BP.grown hg (fun e => by have := Option.some.inj e; omega)⟩, ⟨BR.grown hg (fun e => by have := Option.some.inj e; omega)⟩⟩
set_option maxHeartbeats 1600000 in
theorem copied_row (h : H8) (v : Value) (hle : h.fields.length ≤ 4398046511104) (hy : Nice v h.fields.length) (w : World) (hF : FL w v h.fields) :
    Calls Tryd.prog 11 #[hv h v] w fun e w' => ∃ v', e = .returned (hv h v') ∧ w'.ownsRow w.heap.size 41 2 v' h.fields.length (encFs h.fields) ∧ Below w.heap.size w w' := by
  obtain ⟨p, cap, rfl, _, _⟩ := id hF
  have b1 := (Below.refl w.heap.size w).alloc (Nat.le_refl _) (.cells (hc h (.slice p h.fields.length cap)) 24)
  have b2 := b1.alloc (by simp) (.cells (hc zero8 (.slice none 0 0)) 24)
  have s1 : (w.alloc (.cells (hc h (.slice p h.fields.length cap)) 24)).heap.size = w.heap.size + 1 := by simp
  have s2 : ((w.alloc (.cells (hc h (.slice p h.fields.length cap)) 24)).alloc (.cells (hc zero8 (.slice none 0 0)) 24)).heap.size = w.heap.size + 1 + 1 := by simp
  have BP := ((Has.new w 24 (hc h (.slice p h.fields.length cap))).alloc (.cells (hc zero8 (.slice none 0 0)) 24)).alloc (.cells #[] 41)
  have BR := (Has.new (w.alloc (.cells (hc h (.slice p h.fields.length cap)) 24)) 24 (hc zero8 (.slice none 0 0))).alloc (.cells #[] 41)
  have hown := owns_none ((w.alloc (.cells (hc h (.slice p h.fields.length cap)) 24)).alloc (.cells (hc zero8 (.slice none 0 0)) 24)) 41 (w.heap.size + 1 + 1) (by rw [s2]; exact Nat.le_refl _)
  have b3 := b2.alloc (by rw [s2]; omega) (.cells #[] 41)
  have hF3 := hF.below b3
  have hsz : w.heap.size + 1 + 1 ≤ (((w.alloc (.cells (hc h (.slice p h.fields.length cap)) 24)).alloc (.cells (hc zero8 (.slice none 0 0)) 24)).alloc (.cells #[] 41)).heap.size := by simp
  rw [s2] at hown
  rw [s1] at BR
  clear hF b1 b2 s1 s2
  unfold hc at BP BR hown b3 hF3 hsz
  go_enter Tryd.func11, Tryd.ntmps11
  unfold hv
  go_wp2_with (at_builtin; refine wpList_append_list rfl _ _ rfl (w.heap.size + 1 + 1) _ 0 [] rfl hown _ h.fields rfl hF3 hy (by omega) hsz ?_; intro v4 w4 hown4 hg4; rw [Nat.zero_add, List.nil_append] at hown4; obtain ⟨hb4, cP, cR⟩ := grown_two b3 hg4 BP BR; obtain ⟨p4, cap4, rfl, _, _⟩ := fl_of hown4 (by omega); obtain ⟨d0, d1, d2, d3, d4, d5⟩ := cP.cells; obtain ⟨y0, y1, y2, y3, y4, y5⟩ := cP.frees; have cP5 := cP.setF (.slice p4 h.fields.length cap4); have cR5 := cR.far (p := ⟨w.heap.size, 5, none⟩) (show w.heap.size + 1 ≠ w.heap.size by omega) (.slice p4 h.fields.length cap4); obtain ⟨r0, r1, r2, r3, r4, r5⟩ := cR5.cells; obtain ⟨x0, x1, x2, x3, x4, x5⟩ := cR5.frees; obtain ⟨e0, e1, e2, e3, e4, e5⟩ := cP5.cells)
  have HE := Lib.hid (cR5.put h (.slice p4 h.fields.length cap4))
  have HB := Lib.hid (below_hput (hb4.setCell (p := ⟨w.heap.size, 5, none⟩) (Nat.le_refl _) (.slice p4 h.fields.length cap4)) (g := w.heap.size + 1) (by omega) h (.slice p4 h.fields.length cap4))
  have HL := Lib.hid (row_mono (row_hput (ownsRow_setCell_below hown4 (a := ⟨w.heap.size, 5, none⟩) (show w.heap.size < w.heap.size + 1 + 1 by omega) (.slice p4 h.fields.length cap4)) (g := w.heap.size + 1) (by omega) h (.slice p4 h.fields.length cap4)) (show w.heap.size ≤ w.heap.size + 1 + 1 by omega))
  refine bodyPost_ret (v := hv h (.slice p4 h.fields.length cap4)) ?_ rfl ⟨_, rfl, HL.out, HB.out⟩
  rw [results_cell1 rfl]
  exact end_hbox1 rfl HE.out
theorem copied_any (h : H8) (v : Value) (hle : h.fields.length ≤ 4398046511104) (hy : Nice v h.fields.length) (w : World) (hF : FL w v h.fields) :
    Calls Tryd.prog 11 #[hv h v] w fun e w' => ∃ v', e = .returned (hv h v') ∧ FL w' v' h.fields ∧ Nice v' h.fields.length ∧ Below w.heap.size w w' :=
  (copied_row h v hle hy w hF).mono (fun e w' ⟨v', h1, h2, h3⟩ => ⟨v', h1, fl_of h2 (by omega), nice_row h2, h3⟩)
end Go.Proofs.YtgkdepoimnmhfaaDoor.FCopied

/- The document's two examples, with which each law of layer 9 begins. -/
namespace Go.Proofs.YtgkdepoimnmhfaaDoor.FrAnchor
open Go.ChangeShapes Go.WideShapes Go.ChangeAt Go.RowKit LexPure Bytes Ret Rows1 FieldsPure HeadPure FramePure Flds HBox KeptRow FRow FrameObj Mem
set_option maxRecDepth 20000
set_option linter.unusedVariables false
theorem eqFr (a b : Int) (w : World) : (binOp .eql 27 (.agg #[.int .i64 a, .int .i64 b]) (.agg #[.int .i64 a, .int .i64 b])).run Tryd.prog w = .ok (.bool true) w := by
  have u3 := Tryd.underlying3
  have a3 := Tryd.isAgg3
  have z3 := Tryd.sizeOf3
  have hS : Tryd.prog.underlying 27 = some (.struct (Tryd.prog.fieldsOf 27)) := by kernel_rfl
  have hp : Tryd.prog.stoodInHeld 27 = false := by kernel_rfl
  rw [run_eql_struct, show (10000 : Nat) = 9999 + 1 from rfl, run_equalIn_agg w 9999 27 _ _ hS hp]
  simp only [Program.fieldsOf, Tryd.underlying27]
  go_simp
def exA : List HField := [([99, 111, 110, 116, 101, 110, 116, 45, 108, 101, 110, 103, 116, 104], [53, 44, 32, 53])]
def exB : List HField := [([84, 114, 97, 110, 115, 102, 101, 114, 45, 69, 110, 99, 111, 100, 105, 110, 103], [99, 104, 117, 110, 107, 101, 100]), ([67, 111, 110, 116, 101, 110, 116, 45, 76, 101, 110, 103, 116, 104], [53])]
theorem exA1 : request9 1 exA 9 = (2, 5, 0) := by decide +kernel
theorem exB1 : request9 1 exB 9 = (0, 0, 90) := by decide +kernel
theorem exFew (G : List HField) (h : G.all (fun f => decide (f.1.length ≤ 1048576 ∧ f.2.length ≤ 1048576)) = true) : Few G := fun j hj => of_decide_eq_true (List.all_eq_true.1 h _ (List.getElem_mem hj))
set_option maxHeartbeats 1600000 in
theorem anchor_any (w : World) (hm : Fit w) :
    Calls Tryd.prog 9 #[] w fun e w' => e = .returned (.bool true) ∧ Below w.heap.size w w' := by
  have FA := fun w : World => fl_new w exA [.string ⟨#[99, 111, 110, 116, 101, 110, 116, 45, 108, 101, 110, 103, 116, 104]⟩, .string ⟨#[53, 44, 32, 53]⟩] 1 rfl (by decide)
  have FB := fun w : World => fl_new w exB [.string ⟨#[84, 114, 97, 110, 115, 102, 101, 114, 45, 69, 110, 99, 111, 100, 105, 110, 103]⟩, .string ⟨#[99, 104, 117, 110, 107, 101, 100]⟩, .string ⟨#[67, 111, 110, 116, 101, 110, 116, 45, 76, 101, 110, 103, 116, 104]⟩, .string ⟨#[53]⟩] 2 rfl (by decide)
  have U1 := Lib.hid (fun w v hF hm => prequest9_any ⟨[], [], 0, [], 1, exA⟩ v 9 (exFew exA (by decide)) (by decide) w hF hm)
  have U2 := Lib.hid (fun w v hF hm => prequest9_any ⟨[], [], 0, [], 1, exB⟩ v 9 (exFew exB (by decide)) (by decide) w hF hm)
  dsimp only at U1 U2
  rw [exA1] at U1
  rw [exB1] at U2
  unfold frv9 hv at U1 U2
  dsimp only at U1 U2
  rw [show ofL [] = ⟨#[]⟩ from rfl] at U1 U2
  have HM := Lib.hid hm
  replace FA := Lib.hid FA
  replace FB := Lib.hid FB
  have hA : exA.length = 1 := rfl
  have hB : exB.length = 2 := rfl
  rw [hA] at FA
  rw [hB] at FB
  clear hm
  go_enter Tryd.func9, Tryd.ntmps9
  go_wp2_with fail
  have ba := (Below.refl w.heap.size w).alloc (Nat.le_refl _) (.cells #[.string ⟨#[99, 111, 110, 116, 101, 110, 116, 45, 108, 101, 110, 103, 116, 104]⟩, .string ⟨#[53, 44, 32, 53]⟩] 41)
  refine (U1.out _ _ (FA.out w) (HM.out.below ba)).mono ?_
  rintro e w1 ⟨rfl, hb1⟩
  replace hb1 := ba.trans (hb1.mono ba.size)
  have bf := hb1.alloc hb1.size (.cells #[.int .i64 2, .int .i64 5] 27)
  have bb := bf.alloc bf.size (.cells #[.string ⟨#[84, 114, 97, 110, 115, 102, 101, 114, 45, 69, 110, 99, 111, 100, 105, 110, 103]⟩, .string ⟨#[99, 104, 117, 110, 107, 101, 100]⟩, .string ⟨#[67, 111, 110, 116, 101, 110, 116, 45, 76, 101, 110, 103, 116, 104]⟩, .string ⟨#[53]⟩] 41)
  have hF2 := FB.out (w1.alloc (.cells #[.int .i64 2, .int .i64 5] 27))
  rw [World.size_alloc] at hF2
  have d := ((Has.new w1 27 #[.int .i64 2, .int .i64 5]).alloc (.cells #[.string ⟨#[84, 114, 97, 110, 115, 102, 101, 114, 45, 69, 110, 99, 111, 100, 105, 110, 103]⟩, .string ⟨#[99, 104, 117, 110, 107, 101, 100]⟩, .string ⟨#[67, 111, 110, 116, 101, 110, 116, 45, 76, 101, 110, 103, 116, 104]⟩, .string ⟨#[53]⟩] 41)).cell
  have d0 := d 0
  have d1 := d 1
  have hs1 := World.block_lt_of_cell? _ _ d1
  have q := eqFr 2 5
  have hf := Lib.hid (HM.out.below bb)
  replace bb := Lib.hid bb
  replace hF2 := Lib.hid hF2
  clear ba hb1 bf d FA FB U1 HM
  go_wp2_with fail
  refine (U2.out _ _ hF2.out hf.out).mono ?_
  rintro e w2 ⟨rfl, hb2⟩
  have e0 := (hb2.cell (p := ⟨w1.heap.size, 0, none⟩) hs1).trans d0
  have e1 := (hb2.cell (p := ⟨w1.heap.size, 1, none⟩) hs1).trans d1
  have hs2 := Nat.lt_of_lt_of_le hs1 hb2.size
  have bc := bb.out.trans (hb2.mono bb.out.size)
  have bd := Lib.hid (bc.alloc bc.size (.cells #[.int .i64 0, .int .i64 0] 27))
  have hal := (Below.refl w2.heap.size w2).alloc (Nat.le_refl _) (.cells #[.int .i64 0, .int .i64 0] 27)
  have g0 := (hal.cell (p := ⟨w1.heap.size, 0, none⟩) hs2).trans e0
  have g1 := (hal.cell (p := ⟨w1.heap.size, 1, none⟩) hs2).trans e1
  clear hb2 bc hal d0 d1 hs1 hf bb hF2 U2
  go_wp2_with fail
  go_ret
  exact ⟨rfl, bd.out⟩
end Go.Proofs.YtgkdepoimnmhfaaDoor.FrAnchor

/- An argument that is a head, of bulk at most 1048576. -/
namespace Go.Proofs.YtgkdepoimnmhfaaDoor.HArg
open Go.ChangeShapes Go.WideShapes Go.ChangeAt Go.RowKit Go.Deep LexPure Bytes Ret Rows1 FieldsPure Flds HeadPure HBox FArg
set_option maxRecDepth 20000
theorem head_arg {H : Type} {enc : TypeId × Value → H} {W : World} {base : Nat} {v : Value} {d : DataW H} {p : List MemPlace} (hv : Value.okWide Tryd.prog W .any base 24 v)
    (h : DataW.Trod enc Tryd.prog W 0 (fun _ => true) true 24 v d p) (hb : Rows.uptoBulk d ≤ 1048576) :
    ∃ (x : H8) (l : Value), v = HBox.hv x l ∧ FL W l x.fields ∧ Few x.fields ∧ x.fields.length ≤ 1048576 ∧ Nice l x.fields.length ∧ x.method.length ≤ 1048576 ∧ x.target.length ≤ 1048576 ∧ x.reason.length ≤ 1048576 ∧ (Lit.int .i64 x.status).wf = true ∧ (Lit.int .i64 x.minor).wf = true := by
  have he : Tryd.prog.underlying 24 = some (.struct (Tryd.prog.fieldsOf 24)) := by kernel_rfl
  have hC : Tryd.prog.cellsOf 24 = 6 := by kernel_rfl
  have hone := hone_of (show oneCellFields Tryd.prog (Tryd.prog.fieldsOf 24) = true by kernel_rfl)
  obtain ⟨cs, rfl, hsz⟩ := okWide_struct he hv
  obtain ⟨l⟩ := cs
  match l, hsz.trans hC with
  | [c0, c1, c2, c3, c4, c5], _ =>
    obtain ⟨fuel, hf⟩ := h
    obtain ⟨xs, n, _, hx, _, hlen, hg⟩ := DataW.trod_struct he hf
    have hl6 : (Tryd.prog.fieldsOf 24).size = 6 := by kernel_rfl
    match xs, hlen.trans hl6 with
    | [y0, y1, y2, y3, y4, y5], _ =>
      have key : ∀ i (hi : i < 6), DataW.trod enc Tryd.prog W 0 (fun _ => true) true n (Tryd.prog.fieldsOf 24)[i]!.type [[c0, c1, c2, c3, c4, c5][i]] = some [y0, y1, y2, y3, y4, y5][i] := fun i hi => by
        have hq : (Tryd.prog.fieldsOf 24)[i]? = some (Tryd.prog.fieldsOf 24)[i]! := by
          rw [getElem!_pos _ i (by rw [hl6]; exact hi)]
          exact Array.getElem?_eq_getElem _
        have h1 := hg i _ hq
        obtain ⟨o1, k1⟩ := hone i _ hq
        rw [o1, k1] at h1
        have h2 : ((Value.agg ⟨[c0, c1, c2, c3, c4, c5]⟩).cells.toList.drop i).take 1 = [[c0, c1, c2, c3, c4, c5][i]] := by
          rw [show (Value.agg ⟨[c0, c1, c2, c3, c4, c5]⟩).cells.toList = [c0, c1, c2, c3, c4, c5] from rfl, List.drop_eq_getElem_cons (by simpa using hi)]
          rfl
        rw [h2] at h1
        rw [h1, List.getElem?_eq_getElem (by simpa using hi)]
      have u : ∀ i, i = 0 ∨ i = 1 ∨ i = 3 → Tryd.prog.underlying (Tryd.prog.fieldsOf 24)[i]!.type = some .string := by
        rintro i (rfl | rfl | rfl) <;> kernel_rfl
      have u2 : ∀ i, i = 2 ∨ i = 4 → Tryd.prog.underlying (Tryd.prog.fieldsOf 24)[i]!.type = some (.int .i64) := by
        rintro i (rfl | rfl) <;> kernel_rfl
      have u5 : (Tryd.prog.fieldsOf 24)[5]!.type = 22 := by kernel_rfl
      obtain ⟨s0, e0, x0, _⟩ := DataW.trod_string (u 0 (by simp)) (key 0 (by decide))
      obtain ⟨s1, e1, x1, _⟩ := DataW.trod_string (u 1 (by simp)) (key 1 (by decide))
      obtain ⟨n2, e2, x2, w2⟩ := DataW.trod_int (u2 2 (by simp)) (key 2 (by decide))
      obtain ⟨s3, e3, x3, _⟩ := DataW.trod_string (u 3 (by simp)) (key 3 (by decide))
      obtain ⟨n4, e4, x4, w4⟩ := DataW.trod_int (u2 4 (by simp)) (key 4 (by decide))
      have k5 := key 5 (by decide)
      rw [u5] at k5
      obtain ⟨y5a, y5b⟩ := y5
      have hd : d = .agg [y0.1, y1.1, y2.1, y3.1, y4.1, y5a] := by simpa using congrArg Prod.fst hx
      rw [hd] at hb
      simp only [Rows.uptoBulk, Rows.uptoBulkAll] at hb
      obtain ⟨G, hF, hG, hl, hn⟩ := fields_core (v := c5) (d := y5a) (p := y5b) (fuel := n) k5 (by omega)
      have b0 : s0.size ≤ 1048576 := by
        have : y0.1 = .lit (.string s0.data.toList) := congrArg Prod.fst x0
        rw [this] at hb
        simp only [Rows.uptoBulk] at hb
        have e : s0.data.size = s0.size := rfl
        simp only [Array.length_toList] at hb
        omega
      have b1 : s1.size ≤ 1048576 := by
        have : y1.1 = .lit (.string s1.data.toList) := congrArg Prod.fst x1
        rw [this] at hb
        simp only [Rows.uptoBulk] at hb
        have e : s1.data.size = s1.size := rfl
        simp only [Array.length_toList] at hb
        omega
      have b3 : s3.size ≤ 1048576 := by
        have : y3.1 = .lit (.string s3.data.toList) := congrArg Prod.fst x3
        rw [this] at hb
        simp only [Rows.uptoBulk] at hb
        have e : s3.data.size = s3.size := rfl
        simp only [Array.length_toList] at hb
        omega
      refine ⟨⟨toL s0, toL s1, n2, toL s3, n4, G⟩, c5, ?_, hF, hG, hl, hn, by rw [toL_length]; exact b0, by rw [toL_length]; exact b1, by rw [toL_length]; exact b3, w2, w4⟩
      unfold HBox.hv
      simp only [ofL_toL]
      obtain rfl : c0 = .string s0 := by simpa using e0
      obtain rfl : c1 = .string s1 := by simpa using e1
      obtain rfl : c2 = .int .i64 n2 := by simpa using e2
      obtain rfl : c3 = .string s3 := by simpa using e3
      obtain rfl : c4 = .int .i64 n4 := by simpa using e4
      rfl
/-- the same where each text and each list takes what memory holds: the first form -/
theorem head_arg_reach {H : Type} {enc : TypeId × Value → H} {W : World} {base : Nat} {v : Value} {d : DataW H} {p : List MemPlace} (hv : Value.okWide Tryd.prog W .any base 24 v)
    (h : DataW.Trod enc Tryd.prog W 0 (fun _ => true) true 24 v d p) (hb : (d.weights Tryd.prog 24).all (· ≤ reachBytes) = true) :
    ∃ (x : H8) (l : Value), v = HBox.hv x l ∧ FL W l x.fields ∧ Far x.fields ∧ x.fields.length ≤ 4398046510976 ∧ Nice l x.fields.length ∧ (Lit.int .i64 x.status).wf = true := by
  have he : Tryd.prog.underlying 24 = some (.struct (Tryd.prog.fieldsOf 24)) := by kernel_rfl
  have hC : Tryd.prog.cellsOf 24 = 6 := by kernel_rfl
  have hone := hone_of (show oneCellFields Tryd.prog (Tryd.prog.fieldsOf 24) = true by kernel_rfl)
  obtain ⟨cs, rfl, hsz⟩ := okWide_struct he hv
  obtain ⟨l⟩ := cs
  match l, hsz.trans hC with
  | [c0, c1, c2, c3, c4, c5], _ =>
    obtain ⟨fuel, hf⟩ := h
    obtain ⟨xs, n, _, hx, _, hlen, hg⟩ := DataW.trod_struct he hf
    have hl6 : (Tryd.prog.fieldsOf 24).size = 6 := by kernel_rfl
    match xs, hlen.trans hl6 with
    | [y0, y1, y2, y3, y4, y5], _ =>
      have key : ∀ i (hi : i < 6), DataW.trod enc Tryd.prog W 0 (fun _ => true) true n (Tryd.prog.fieldsOf 24)[i]!.type [[c0, c1, c2, c3, c4, c5][i]] = some [y0, y1, y2, y3, y4, y5][i] := fun i hi => by
        have hq : (Tryd.prog.fieldsOf 24)[i]? = some (Tryd.prog.fieldsOf 24)[i]! := by
          rw [getElem!_pos _ i (by rw [hl6]; exact hi)]
          exact Array.getElem?_eq_getElem _
        have h1 := hg i _ hq
        obtain ⟨o1, k1⟩ := hone i _ hq
        rw [o1, k1] at h1
        have h2 : ((Value.agg ⟨[c0, c1, c2, c3, c4, c5]⟩).cells.toList.drop i).take 1 = [[c0, c1, c2, c3, c4, c5][i]] := by
          rw [show (Value.agg ⟨[c0, c1, c2, c3, c4, c5]⟩).cells.toList = [c0, c1, c2, c3, c4, c5] from rfl, List.drop_eq_getElem_cons (by simpa using hi)]
          rfl
        rw [h2] at h1
        rw [h1, List.getElem?_eq_getElem (by simpa using hi)]
      have u : ∀ i, i = 0 ∨ i = 1 ∨ i = 3 → Tryd.prog.underlying (Tryd.prog.fieldsOf 24)[i]!.type = some .string := by
        rintro i (rfl | rfl | rfl) <;> kernel_rfl
      have u2 : ∀ i, i = 2 ∨ i = 4 → Tryd.prog.underlying (Tryd.prog.fieldsOf 24)[i]!.type = some (.int .i64) := by
        rintro i (rfl | rfl) <;> kernel_rfl
      have u5 : (Tryd.prog.fieldsOf 24)[5]!.type = 22 := by kernel_rfl
      obtain ⟨s0, e0, x0, _⟩ := DataW.trod_string (u 0 (by simp)) (key 0 (by decide))
      obtain ⟨s1, e1, x1, _⟩ := DataW.trod_string (u 1 (by simp)) (key 1 (by decide))
      obtain ⟨n2, e2, x2, w2⟩ := DataW.trod_int (u2 2 (by simp)) (key 2 (by decide))
      obtain ⟨s3, e3, x3, _⟩ := DataW.trod_string (u 3 (by simp)) (key 3 (by decide))
      obtain ⟨n4, e4, x4, w4⟩ := DataW.trod_int (u2 4 (by simp)) (key 4 (by decide))
      have k5 := key 5 (by decide)
      rw [u5] at k5
      obtain ⟨y5a, y5b⟩ := y5
      have hd : d = .agg [y0.1, y1.1, y2.1, y3.1, y4.1, y5a] := by simpa using congrArg Prod.fst hx
      have hT : (Tryd.prog.fieldsOf 24).toList.map (·.type) = [9, 9, 3, 9, 3, 22] := by kernel_rfl
      rw [hd] at hb
      simp only [DataW.weights, he, hT, DataW.weightsEach, List.append_nil, List.all_append, Bool.and_eq_true] at hb
      obtain ⟨G, hF, hG, hl, hn⟩ := fields_core_reach (v := c5) (d := y5a) (p := y5b) (fuel := n) k5 hb.2.2.2.2.2
      refine ⟨⟨toL s0, toL s1, n2, toL s3, n4, G⟩, c5, ?_, hF, hG, hl, hn, w2⟩
      unfold HBox.hv
      simp only [ofL_toL]
      obtain rfl : c0 = .string s0 := by simpa using e0
      obtain rfl : c1 = .string s1 := by simpa using e1
      obtain rfl : c2 = .int .i64 n2 := by simpa using e2
      obtain rfl : c3 = .string s3 := by simpa using e3
      obtain rfl : c4 = .int .i64 n4 := by simpa using e4
      rfl
end Go.Proofs.YtgkdepoimnmhfaaDoor.HArg

/- The row's step for a law whose row lists variables, and its card: the witness in the world that the listed data lay. -/
namespace Go.Proofs.YtgkdepoimnmhfaaDoor.LawCard
open Go.ChangeShapes Go.WideShapes Go.ChangeAt Go.RowKit
variable {H : Type} {enc : TypeId × Value → H}
/-- there is an input that fits: in the world that the listed data lay -/
theorem witness {C : Checked} {os : Os} {f : FuncId} {fn : Func} {s : OpenSpec} {conds : List PathCond} {apart : Bool} {laid : List (String × DataW Unit)} (args : Array Value)
    (hv : ((World.laidAll C.prog os laid).forCall (fun _ _ => 0) ⟨#[], args, []⟩).variablesZipB C.prog = true)
    (hr : (((World.laidAll C.prog os laid).forCall (fun _ _ => 0) ⟨#[], args, []⟩).heap.toList.drop C.prog.globals.size).take ((begin C.prog (fun _ _ => 0) default).world.heap.size - C.prog.globals.size) =
      (begin C.prog (fun _ _ => 0) default).world.heap.toList.drop C.prog.globals.size)
    (hok : Input.okWideB C.prog ((World.laidAll C.prog os laid).forCall (fun _ _ => 0) ⟨#[], args, []⟩) f ⟨#[], args, []⟩ = true)
    (hplain : ∀ w, laidMetH C.prog laid w = laidMet C.prog laid w)
    (hf : (World.holding C.prog os ⟨#[], #[], []⟩).layFits C.prog laid [] = true)
    (hi : (World.holding C.prog os ⟨#[], #[], []⟩).layIfaces C.prog laid (World.laidAll C.prog os laid) = true)
    {x : List (DataW H) × List (DataW H) × List MemPlace} (hx : DataW.whole enc C.prog ((World.laidAll C.prog os laid).forCall (fun _ _ => 0) ⟨#[], args, []⟩).memory fn.params.toList s.vars apart args.toList 8 = some x)
    (hconds : conds.all (PathCond.test C.prog ⟨fn.params.toList, x.1, s.bare.plain.varTypes C.prog, x.2.1⟩) = true) (hkk : ∀ k, s.cond = some k → k H (x.1 ++ x.2.1) = true)
    (hsz : s.bare.sizedB enc C.prog fn apart ((World.laidAll C.prog os laid).forCall (fun _ _ => 0) ⟨#[], args, []⟩).memory args 8 = true) :
    ∃ (w : World) (tape : Tape) (i : Input), w.os = os ∧ (w.forCall tape i).Shaped C.prog ∧ i.vars = [] ∧ Input.okWide C.prog (w.forCall tape i) .any w.heap.size f i ∧
      s.preRow enc C.prog fn conds apart laid (w.forCall tape i).memory i.args ∧ ({} : Assume).holds C.prog (lone (Frame.enter C.prog f i.args .normal) [] (w.forCall tape i)) :=
  ⟨World.laidAll C.prog os laid, fun _ _ => 0, ⟨#[], args, []⟩, World.laidAll_os _ _ _, World.shaped_of_ZipB hv hr, (Input.okWide_of_okWideB (base := 0) hok).1, (Input.okWide_of_okWideB hok).2,
    OpenSpec.preRow_of_cond 8 hx hconds hkk hsz (by rw [hplain]; exact laidMet_laidAll _ hf hi), by
    simp only [Assume.holds]
    exact ⟨by simp, by simp, fun _ => Modest.zero, by simp, by simp⟩⟩
end Go.Proofs.YtgkdepoimnmhfaaDoor.LawCard
