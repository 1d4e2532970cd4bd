/- Texts of this seat, one behind another: FArg, FRow, L13Base, PEmReq, L13Arg, L13Plain, R7Same, LawCard. -/
import Derived.Test.YtblpooddamkfdaaDoorRows
import Derived.Deep.SlicePairs
import Derived.MakeChecks
import Derived.LaidSub
import Derived.Lib.LaidTab
import Derived.Deep.Fields
import Derived.Laws.Tables
import Derived.Laws.ResultCell
import Derived.Outline
import Derived.LoopTactic
import Derived.Laws.StructEq
import Derived.Deep.QuietTactic
import Derived.BigQuiet
import Derived.Test.YtblpooddamkfdaaDoorCards
import Derived.Test.YtblpooddamkfdaaDoorTie
import Derived.Deep.DeepHandedRow
import Derived.Lay
import Derived.SevenTiedAt
import Derived.Test.YtblpooddamkfdaaDoorA1
import Derived.Test.YtblpooddamkfdaaDoorA3
import Derived.Test.YtblpooddamkfdaaDoorA2
/- An argument that is a list of fields, of bulk at most 1048576. -/
namespace Go.Proofs.YtblpooddamkfdaaDoor.FArg
open Go.ChangeShapes Go.WideShapes Go.ChangeAt Go.RowKit Go.Deep LexPure Bytes Ret Rows1 FieldsPure Flds
set_option maxRecDepth 20000
theorem plain_cell {w : World} {a : Addr} {v : Value} (h : w.cell? a = some v) : a = ⟨a.block, a.off, none⟩ := by
  obtain ⟨b, o, e⟩ := a
  cases e with
  | none => rfl
  | some e =>
    have := World.cell?_spot h
    cases this
theorem add_plain (b o i : Nat) : (⟨b, o, none⟩ : Addr).add i = ⟨b, o + i, none⟩ := by unfold Addr.add; split <;> simp_all
theorem bulk_pos {H : Type} (d : DataW H) : 1 ≤ Rows.uptoBulk d := by
  cases d with
  | lit l => cases l <;> simp [Rows.uptoBulk]
  | _ => simp [Rows.uptoBulk]
theorem bulkAll_len {H : Type} : ∀ l : List (DataW H), l.length ≤ Rows.uptoBulkAll l
  | [] => by simp [Rows.uptoBulkAll]
  | d :: r => by
    have h1 := bulk_pos d
    have h2 := bulkAll_len r
    rw [Rows.uptoBulkAll, List.length_cons]
    omega
theorem bulkAll_mem {H : Type} : ∀ (l : List (DataW H)) (d : DataW H), d ∈ l → Rows.uptoBulk d ≤ Rows.uptoBulkAll l
  | [], _, h => by cases h
  | x :: r, d, h => by
    rw [Rows.uptoBulkAll]
    rcases List.mem_cons.1 h with rfl | h
    · omega
    · have := bulkAll_mem r d h
      omega
/-- a list's value is nil, or it has an address -/
def Nice (v : Value) (n : Nat) : Prop := v = .slice none 0 0 ∨ ∃ a cap, v = .slice (some a) n cap
theorem fields_core {H : Type} {enc : TypeId × Value → H} {W : World} {v : Value} {d : DataW H} {p : List MemPlace} {fuel : Nat}
    (hf : DataW.trod enc Tryd.prog W 0 (fun _ => true) true fuel 22 [v] = some (d, p)) (hb : Rows.uptoBulk d ≤ 1048576) :
    ∃ G, FL W v G ∧ Few G ∧ G.length ≤ 1048576 ∧ Nice v G.length := by
  have he : Tryd.prog.underlying 61 = some (.struct #[(Tryd.prog.fieldsOf 61)[0]!, (Tryd.prog.fieldsOf 61)[1]!]) := by kernel_rfl
  rcases open_slice_pairs Tryd.underlying22 he (by kernel_rfl) (by kernel_rfl) (by kernel_rfl) (by kernel_rfl) (by kernel_rfl) hf with ⟨hc, hx⟩ | ⟨a, len, cap, m, n, V0, V1, D0, D1, P0, P1, hc, _, hlc, hcm, hm, hx, hi⟩
  · obtain rfl : v = .slice none 0 0 := by simpa using hc
    exact ⟨[], ⟨none, 0, rfl, Nat.zero_le _, fun h => absurd h (by simp)⟩, fun j hj => absurd hj (by simp), Nat.zero_le _, .inl rfl⟩
  · obtain rfl : v = .slice (some a) len cap := by simpa using hc
    injection hx with hd hp
    have hlm : len ≤ m := by rw [hm, if_pos rfl]; exact hlc
    have hS : ∀ i, i < m → ∃ s t : ByteArray, V0 i = .string s ∧ V1 i = .string t ∧ D0 i = .lit (.string s.data.toList) ∧ D1 i = .lit (.string t.data.toList) := fun i him => by
      obtain ⟨_, _, t0, t1⟩ := hi i him
      have u0 : Tryd.prog.underlying (Tryd.prog.fieldsOf 61)[0]!.type = some .string := by kernel_rfl
      have u1 : Tryd.prog.underlying (Tryd.prog.fieldsOf 61)[1]!.type = some .string := by kernel_rfl
      obtain ⟨s, hs, hs2, _⟩ := DataW.trod_string u0 t0
      obtain ⟨t, ht, ht2, _⟩ := DataW.trod_string u1 t1
      exact ⟨s, t, by simpa using hs, by simpa using ht, by simpa using congrArg Prod.fst hs2, by simpa using congrArg Prod.fst ht2⟩
    rw [hd, Rows.uptoBulk] at hb
    have hlen := bulkAll_len ((List.range len).map fun i => DataW.agg [D0 i, D1 i])
    rw [List.length_map, List.length_range] at hlen
    have hget : ∀ i : Nat, i < len → ∃ f : HField, V0 i = .string (ofL f.1) ∧ V1 i = .string (ofL f.2) ∧ f.1.length ≤ 1048576 ∧ f.2.length ≤ 1048576 := fun i hil => by
      obtain ⟨s, t, hs, ht, hs2, ht2⟩ := hS i (by omega)
      have hb2 := bulkAll_mem ((List.range len).map fun i => DataW.agg [D0 i, D1 i]) (.agg [D0 i, D1 i]) (List.mem_map.2 ⟨i, by simpa using hil, rfl⟩)
      rw [hs2, ht2] at hb2
      simp only [Rows.uptoBulk, Rows.uptoBulkAll] at hb2
      exact ⟨(toL s, toL t), by rw [hs, ofL_toL], by rw [ht, ofL_toL], by show s.data.toList.length ≤ _; omega, by show t.data.toList.length ≤ _; omega⟩
    let f : Nat → HField := fun i => if h : i < len then (hget i h).choose else ([], [])
    have hfs : ∀ i (h : i < len), V0 i = .string (ofL (f i).1) ∧ V1 i = .string (ofL (f i).2) ∧ (f i).1.length ≤ 1048576 ∧ (f i).2.length ≤ 1048576 := fun i h => by
      have := (hget i h).choose_spec
      simp only [f, dif_pos h]
      exact this
    refine ⟨(List.range len).map f, ⟨some a, cap, by simp, by simp; omega, fun h0 => ?_⟩, fun j hj => ?_, by simp; omega, .inr ⟨a, cap, by simp⟩⟩
    · rw [List.length_map, List.length_range] at h0
      obtain ⟨c0, _⟩ := hi 0 (by omega)
      have ha := plain_cell c0
      have hae : a = ⟨a.block, a.off, none⟩ := by
        obtain ⟨b, o, e⟩ := a
        cases e with
        | none => rfl
        | some e => simp [Addr.add] at ha
      have hblk := World.block_lt_of_cell? _ _ c0
      obtain ⟨b, o, e⟩ := a
      injection hae with _ _ e3
      subst e3
      refine ⟨b, o, rfl, by simpa [Addr.add] using hblk, fun j hj => ?_⟩
      rw [List.length_map, List.length_range] at hj
      obtain ⟨c1, c2, _⟩ := hi j (by omega)
      obtain ⟨v0, v1, _, _⟩ := hfs j hj
      rw [v0] at c1
      rw [v1] at c2
      simp only [List.getElem_map, List.getElem_range]
      rw [add_plain] at c1 c2
      exact ⟨c1, by rw [Nat.add_assoc]; exact c2⟩
    · rw [List.length_map, List.length_range] at hj
      simp only [List.getElem_map, List.getElem_range]
      exact (hfs j hj).2.2
theorem fields_arg {H : Type} {enc : TypeId × Value → H} {W : World} {base : Nat} {v : Value} {d : DataW H} {p : List MemPlace} (hv : Value.okWide Tryd.prog W .any base 22 v)
    (h : DataW.Trod enc Tryd.prog W 0 (fun _ => true) true 22 v d p) (hb : Rows.uptoBulk d ≤ 1048576) :
    ∃ G, FL W v G ∧ Few G ∧ G.length ≤ 1048576 ∧ Nice v G.length := by
  obtain ⟨a0, len, cap, rfl⟩ := okWide_slice Tryd.underlying22 hv
  obtain ⟨fuel, hf⟩ := h
  exact fields_core (by simpa [Value.cells] using hf) hb
/-- the same where each string and each slice takes what memory holds: the first form -/
theorem fields_arg_wide {H : Type} {enc : TypeId × Value → H} {W : World} {base : Nat} {v : Value} {d : DataW H} {p : List MemPlace} (hv : Value.okWide Tryd.prog W .any base 22 v)
    (h : DataW.Trod enc Tryd.prog W 0 (fun _ => true) true 22 v d p) (hb : (d.weights Tryd.prog 22).all (· ≤ reachBytes) = true) :
    ∃ G, FL W v G ∧ (∀ (j : Nat) (h : j < G.length), G[j].1.length ≤ 9223372036854775807 ∧ G[j].2.length ≤ 9223372036854775807) ∧ G.length ≤ 4398046510976 ∧ Nice v G.length := by
  obtain ⟨a0, len, cap, rfl⟩ := okWide_slice Tryd.underlying22 hv
  obtain ⟨fuel, hf⟩ := h
  have he : Tryd.prog.underlying 61 = some (.struct #[(Tryd.prog.fieldsOf 61)[0]!, (Tryd.prog.fieldsOf 61)[1]!]) := by kernel_rfl
  rcases open_slice_pairs Tryd.underlying22 he (by kernel_rfl) (by kernel_rfl) (by kernel_rfl) (by kernel_rfl) (by kernel_rfl) hf with ⟨hc, hx⟩ | ⟨a, len', cap', m, n, V0, V1, D0, D1, P0, P1, hc, _, hlc, hcm, hm, hx, hi⟩
  · have hc' : Value.slice a0 len cap = .slice none 0 0 := by simpa [Value.cells] using hc
    injection hc' with e1 e2 e3
    subst e1 e2 e3
    exact ⟨[], ⟨none, 0, rfl, Nat.zero_le _, fun h => absurd h (by simp)⟩, fun j hj => absurd hj (by simp), Nat.zero_le _, .inl rfl⟩
  · have hc' : Value.slice a0 len cap = .slice (some a) len' cap' := by simpa [Value.cells] using hc
    injection hc' with e1 e2 e3
    subst e1 e2 e3
    injection hx with hd hp
    have hlm : len ≤ m := by rw [hm, if_pos rfl]; exact hlc
    have hS : ∀ i, i < m → ∃ f : HField, V0 i = .string (ofL f.1) ∧ V1 i = .string (ofL f.2) ∧ f.1.length ≤ 9223372036854775807 ∧ f.2.length ≤ 9223372036854775807 := fun i him => by
      obtain ⟨_, _, t0, t1⟩ := hi i him
      have u0 : Tryd.prog.underlying (Tryd.prog.fieldsOf 61)[0]!.type = some .string := by kernel_rfl
      have u1 : Tryd.prog.underlying (Tryd.prog.fieldsOf 61)[1]!.type = some .string := by kernel_rfl
      obtain ⟨s, hs, _, ls⟩ := DataW.trod_string u0 t0
      obtain ⟨t, ht, _, lt⟩ := DataW.trod_string u1 t1
      unfold maxLen at ls lt
      exact ⟨(toL s, toL t), by rw [ofL_toL]; simpa using hs, by rw [ofL_toL]; simpa using ht, by rw [toL_length]; exact ls, by rw [toL_length]; exact lt⟩
    have hlen : len * 32 ≤ 140737488351232 := by
      rw [hd] at hb
      simp only [DataW.weights, Tryd.underlying22, List.all_cons, Bool.and_eq_true] at hb
      have h1 := of_decide_eq_true hb.1
      rw [show Tryd.prog.bytesOf 61 = 32 by kernel_rfl, List.length_map, List.length_range] at h1
      unfold reachBytes at h1
      omega
    let f : Nat → HField := fun i => if h : i < m then (hS i h).choose else ([], [])
    have hfs : ∀ i (h : i < m), V0 i = .string (ofL (f i).1) ∧ V1 i = .string (ofL (f i).2) ∧ (f i).1.length ≤ 9223372036854775807 ∧ (f i).2.length ≤ 9223372036854775807 := fun i h => by
      have := (hS i h).choose_spec
      simp only [f, dif_pos h]
      exact this
    refine ⟨(List.range len).map f, ⟨some a, cap, by simp, by simp; omega, fun h0 => ?_⟩, fun j hj => ?_, by simp; omega, .inr ⟨a, cap, by simp⟩⟩
    · rw [List.length_map, List.length_range] at h0
      obtain ⟨c0, _⟩ := hi 0 (by omega)
      have ha := plain_cell c0
      have hae : a = ⟨a.block, a.off, none⟩ := by
        obtain ⟨b, o, e⟩ := a
        cases e with
        | none => rfl
        | some e => simp [Addr.add] at ha
      have hblk := World.block_lt_of_cell? _ _ c0
      obtain ⟨b, o, e⟩ := a
      injection hae with _ _ e3
      subst e3
      refine ⟨b, o, rfl, by simpa [Addr.add] using hblk, fun j hj => ?_⟩
      rw [List.length_map, List.length_range] at hj
      obtain ⟨c1, c2, _⟩ := hi j (by omega)
      obtain ⟨v0, v1, _, _⟩ := hfs j (by omega)
      rw [v0] at c1
      rw [v1] at c2
      simp only [List.getElem_map, List.getElem_range]
      rw [add_plain] at c1 c2
      exact ⟨c1, by rw [Nat.add_assoc]; exact c2⟩
    · rw [List.length_map, List.length_range] at hj
      simp only [List.getElem_map, List.getElem_range]
      exact (hfs j (by omega)).2.2
theorem weightsAll_mem {H : Type} {P : Program} {e : TypeId} (q : Nat → Bool) : ∀ l : List (DataW H), (DataW.weightsAll P e l).all q = true → ∀ d ∈ l, (d.weights P e).all q = true
  | [], _, d, hd => by cases hd
  | x :: l, h, d, hd => by
    simp only [DataW.weightsAll, List.all_append, Bool.and_eq_true] at h
    rcases List.mem_cons.1 hd with rfl | hd
    · exact h.1
    · exact weightsAll_mem q l h.2 d hd
theorem fields_core_reach {H : Type} {enc : TypeId × Value → H} {W : World} {v : Value} {d : DataW H} {p : List MemPlace} {fuel : Nat}
    (hf : DataW.trod enc Tryd.prog W 0 (fun _ => true) true fuel 22 [v] = some (d, p)) (hb : (d.weights Tryd.prog 22).all (· ≤ reachBytes) = true) :
    ∃ G, FL W v G ∧ Far G ∧ G.length ≤ 4398046510976 ∧ Nice v G.length := by
  have he : Tryd.prog.underlying 61 = some (.struct #[(Tryd.prog.fieldsOf 61)[0]!, (Tryd.prog.fieldsOf 61)[1]!]) := by kernel_rfl
  rcases open_slice_pairs Tryd.underlying22 he (by kernel_rfl) (by kernel_rfl) (by kernel_rfl) (by kernel_rfl) (by kernel_rfl) hf with ⟨hc, hx⟩ | ⟨a, len, cap, m, n, V0, V1, D0, D1, P0, P1, hc, _, hlc, hcm, hm, hx, hi⟩
  · obtain rfl : v = .slice none 0 0 := by simpa using hc
    exact ⟨[], ⟨none, 0, rfl, Nat.zero_le _, fun h => absurd h (by simp)⟩, fun j hj => absurd hj (by simp), Nat.zero_le _, .inl rfl⟩
  · obtain rfl : v = .slice (some a) len cap := by simpa using hc
    injection hx with hd hp
    have hlm : len ≤ m := by rw [hm, if_pos rfl]; exact hlc
    have hall : ∀ i, i < len → ((DataW.agg [D0 i, D1 i]).weights Tryd.prog 61).all (· ≤ reachBytes) = true := fun i hil => by
      rw [hd] at hb
      simp only [DataW.weights, Tryd.underlying22, List.all_cons, Bool.and_eq_true, List.all_append] at hb
      exact weightsAll_mem _ _ hb.2.1 _ (List.mem_map.2 ⟨i, List.mem_range.2 hil, rfl⟩)
    have hS : ∀ i, i < m → ∃ f : HField, V0 i = .string (ofL f.1) ∧ V1 i = .string (ofL f.2) ∧ (i < len → f.1.length ≤ 140737488351232 ∧ f.2.length ≤ 140737488351232) := fun i him => by
      obtain ⟨_, _, t0, t1⟩ := hi i him
      have u0 : Tryd.prog.underlying (Tryd.prog.fieldsOf 61)[0]!.type = some .string := by kernel_rfl
      have u1 : Tryd.prog.underlying (Tryd.prog.fieldsOf 61)[1]!.type = some .string := by kernel_rfl
      obtain ⟨s, hs, hs2, _⟩ := DataW.trod_string u0 t0
      obtain ⟨t, ht, ht2, _⟩ := DataW.trod_string u1 t1
      have e0 : D0 i = .lit (.string s.data.toList) := by simpa using congrArg Prod.fst hs2
      have e1 : D1 i = .lit (.string t.data.toList) := by simpa using congrArg Prod.fst ht2
      refine ⟨(toL s, toL t), by rw [ofL_toL]; simpa using hs, by rw [ofL_toL]; simpa using ht, fun hil => ?_⟩
      have h := hall i hil
      rw [e0, e1] at h
      simp only [DataW.weights, he, List.map_cons, List.map_nil, DataW.weightsEach, List.all_append, List.all_cons, List.all_nil, Bool.and_true, Bool.and_eq_true] at h
      have h1 := of_decide_eq_true h.1
      have h2 := of_decide_eq_true h.2
      unfold reachBytes at h1 h2
      exact ⟨h1, h2⟩
    have hlen : len * 32 ≤ 140737488351232 := by
      rw [hd] at hb
      simp only [DataW.weights, Tryd.underlying22, List.all_cons, Bool.and_eq_true] at hb
      have h1 := of_decide_eq_true hb.1
      rw [show Tryd.prog.bytesOf 61 = 32 by kernel_rfl, List.length_map, List.length_range] at h1
      unfold reachBytes at h1
      omega
    let f : Nat → HField := fun i => if h : i < m then (hS i h).choose else ([], [])
    have hfs : ∀ i (h : i < m), V0 i = .string (ofL (f i).1) ∧ V1 i = .string (ofL (f i).2) ∧ (i < len → (f i).1.length ≤ 140737488351232 ∧ (f i).2.length ≤ 140737488351232) := fun i h => by
      have := (hS i h).choose_spec
      simp only [f, dif_pos h]
      exact this
    refine ⟨(List.range len).map f, ⟨some a, cap, by simp, by simp; omega, fun h0 => ?_⟩, fun j hj => ?_, by simp; omega, .inr ⟨a, cap, by simp⟩⟩
    · rw [List.length_map, List.length_range] at h0
      obtain ⟨c0, _⟩ := hi 0 (by omega)
      have ha := plain_cell c0
      have hae : a = ⟨a.block, a.off, none⟩ := by
        obtain ⟨b, o, e⟩ := a
        cases e with
        | none => rfl
        | some e => simp [Addr.add] at ha
      have hblk := World.block_lt_of_cell? _ _ c0
      obtain ⟨b, o, e⟩ := a
      injection hae with _ _ e3
      subst e3
      refine ⟨b, o, rfl, by simpa [Addr.add] using hblk, fun j hj => ?_⟩
      rw [List.length_map, List.length_range] at hj
      obtain ⟨c1, c2, _⟩ := hi j (by omega)
      obtain ⟨v0, v1, _⟩ := hfs j (by omega)
      rw [v0] at c1
      rw [v1] at c2
      simp only [List.getElem_map, List.getElem_range]
      rw [add_plain] at c1 c2
      exact ⟨c1, by rw [Nat.add_assoc]; exact c2⟩
    · rw [List.length_map, List.length_range] at hj
      simp only [List.getElem_map, List.getElem_range]
      exact (hfs j (by omega)).2.2 (by omega)
theorem fields_arg_reach {H : Type} {enc : TypeId × Value → H} {W : World} {base : Nat} {v : Value} {d : DataW H} {p : List MemPlace} (hv : Value.okWide Tryd.prog W .any base 22 v)
    (h : DataW.Trod enc Tryd.prog W 0 (fun _ => true) true 22 v d p) (hb : (d.weights Tryd.prog 22).all (· ≤ reachBytes) = true) :
    ∃ G, FL W v G ∧ Far G ∧ G.length ≤ 4398046510976 ∧ Nice v G.length := by
  obtain ⟨a0, len, cap, rfl⟩ := okWide_slice Tryd.underlying22 hv
  obtain ⟨fuel, hf⟩ := h
  exact fields_core_reach (by simpa [Value.cells] using hf) hb
end Go.Proofs.YtblpooddamkfdaaDoor.FArg

/- A list of fields appended to a row of one's own. -/
namespace Go.Proofs.YtblpooddamkfdaaDoor.FRow
open Go.ChangeShapes Go.WideShapes Go.ChangeAt Go.RowKit LexPure Bytes Ret Rows1 FieldsPure Flds KeptRow Mem
set_option maxRecDepth 20000
/-- a list's value is nil, or it has an address -/
abbrev Nice := FArg.Nice
theorem encFs_len (G : List HField) : (encFs G).length = G.length * 2 := by
  induction G with
  | nil => rfl
  | cons f G ih =>
    rw [show f :: G = [f] ++ G from rfl, encFs_append, List.length_append, ih]
    simp [encFs, encF]
    omega
theorem encFs_cells (G : List HField) : ∀ u ∈ encFs G, u.oneCell' = true := by
  intro u hu
  unfold encFs at hu
  obtain ⟨f, _, hf⟩ := List.mem_flatMap.1 hu
  unfold encF at hf
  simp only [List.mem_cons, List.not_mem_nil, or_false] at hf
  rcases hf with rfl | rfl <;> rfl
theorem encFs_get (G : List HField) (j : Nat) (u : Value) (h : (encFs G)[j]? = some u) : ∃ i, ∃ hi : i < G.length, (j = i * 2 ∧ u = .string (ofL G[i].1)) ∨ (j = i * 2 + 1 ∧ u = .string (ofL G[i].2)) := by
  have hj : j < G.length * 2 := by rw [← encFs_len]; exact (List.getElem?_eq_some_iff.1 h).1
  have hi : j / 2 < G.length := by omega
  obtain ⟨h1, h2⟩ := encFs_at G (j / 2) G[j / 2] (List.getElem?_eq_getElem hi)
  refine ⟨j / 2, hi, ?_⟩
  rcases Nat.mod_two_eq_zero_or_one j with e | e
  · have ej : j = j / 2 * 2 := by omega
    rw [← ej] at h1
    rw [h1] at h
    exact .inl ⟨ej, (Option.some.inj h).symm⟩
  · have ej : j = j / 2 * 2 + 1 := by omega
    rw [← ej] at h2
    rw [h2] at h
    exact .inr ⟨ej, (Option.some.inj h).symm⟩
set_option maxHeartbeats 800000 in
theorem run_append_list {w : World} (ty base : Nat) (v : Value) (n : Nat) (xs : List Value) (hown : w.ownsRow base 61 2 v n xs) (y : Value) (G : List HField) (hF : FL w y G) (hy : Nice y G.length)
    (h63 : n + G.length ≤ 4398046511104) (hbase : base ≤ w.heap.size) :
    ∃ v' w', (Builtin.append_ #[22, 22] ty #[v, y]).run Tryd.prog w = .ok v' w' ∧ w'.ownsRow base 61 2 v' (n + G.length) (xs ++ encFs G) ∧ w.grownBy w' v.ownBlock := by
  obtain ⟨i0, hi, hz0, hz1, hz2⟩ := info_parts infoF
  rcases hy with rfl | ⟨a, cap, rfl⟩
  · obtain ⟨p', c', hv, _, _⟩ := hF
    have hlen : G.length = 0 := by injection hv with _ h _; exact h.symm
    have hG : G = [] := List.eq_nil_of_length_eq_zero hlen
    subst hG
    exact ⟨v, w, run_append_owned_none (P := Tryd.prog) (w := w) base 22 ty 61 i0 2 Tryd.underlying22 hi v n xs hown, by simpa [encFs] using hown, World.grownBy.refl w _⟩
  · obtain ⟨p', c', hv, hle, hc⟩ := hF
    injection hv with e1 _ e3
    subst e1 e3
    obtain ⟨v', w', hr, h2, h3, _, _⟩ := run_append_own_at (P := Tryd.prog) w base 22 ty 61 i0 _ 2 32 Tryd.underlying22 hi hz0 hz1 hz2 rfl (by omega) v n xs hown a G.length cap (encFs G) (encFs_len G)
      (fun j u h => by
        obtain ⟨i, hi, hh⟩ := encFs_get G j u h
        obtain ⟨g', o', e, _, hcell⟩ := hc (by omega)
        injection e with e
        subst e
        rw [FArg.add_plain]
        rcases hh with ⟨rfl, rfl⟩ | ⟨rfl, rfl⟩
        · exact (hcell i hi).1
        · exact (hcell i hi).2) (encFs_cells G) (by unfold maxLen; omega) (by omega) hbase
    exact ⟨v', w', hr, h2, h3⟩
theorem wpList_append_list {w : World} {ops : Array Oper} {rest : List Oper} {o : Oper} {a : Act} {Q : Exit → Act → World → Prop} (hgd : o.guard = none) (s x : Operand)
    (ho : o.op = .call { callee := .builtin .append, args := #[s, x], argTypes := #[22, 22] }) (base : Nat) (v : Value) (n : Nat) (xs : List Value) (hs : a.eval s = v) (hown : w.ownsRow base 61 2 v n xs)
    (y : Value) (G : List HField) (hx : a.eval x = y) (hF : FL w y G) (hy : Nice y G.length) (h63 : n + G.length ≤ 4398046511104) (hbase : base ≤ w.heap.size)
    (h : ∀ v' w', w'.ownsRow base 61 2 v' (n + G.length) (xs ++ encFs G) → w.grownBy w' v.ownBlock → wpList Tryd.prog ops Q rest (a.put o.dst v') w') :
    wpList Tryd.prog ops Q (o :: rest) a w := by
  refine wpList_plain hgd fun K hK => ?_
  obtain ⟨v', w', hrun, r1, r2⟩ := run_append_list o.type base v n xs hown y G hF hy h63 hbase
  unfold Oper.wp execOp
  simp only [ho, resolve, invoke, builtin, Sem.run_bind, Sem.run_pure, Result.andThen_ok, List.map_toArray, List.map_cons, List.map_nil, hs, hx, hrun]
  exact hK _ _ (h v' w' r1 r2)
/-- an empty list that is no nil -/
theorem owns_none (w : World) (t : TypeId) (base : Nat) (hb : base ≤ w.heap.size) : (w.alloc (.cells #[] t)).ownsRow base t 2 (.slice (some ⟨w.heap.size, 0, none⟩) 0 0) 0 [] :=
  ⟨rfl, .inr ⟨w.heap.size, 0, #[], rfl, hb, heap_alloc_new w _, Nat.le_refl _, Nat.zero_le _, rfl, rfl⟩⟩
/-- behind 'append([]api.Field{}, l...)' -/
theorem copied {w1 w4 : World} {v4 : Value} {G : List HField} (h : w4.ownsRow w1.heap.size 61 2 v4 (0 + G.length) ([] ++ encFs G))
    (hg : (w1.alloc (.cells #[] 61)).grownBy w4 (Value.slice (some ⟨w1.heap.size, 0, none⟩) 0 0).ownBlock) :
    w4.ownsRow w1.heap.size 61 2 v4 G.length (encFs G) ∧ Below w1.heap.size w1 w4 := by
  rw [Nat.zero_add, List.nil_append] at h
  exact ⟨h, ((Below.refl _ w1).alloc (Nat.le_refl _) _).grown hg (by simp) (fun j e => by cases e; exact Nat.le_refl _)⟩
theorem fl_new (w : World) (G : List HField) (cells : List Value) (cap : Nat) (hc : cells = encFs G) (hle : G.length ≤ 4398046511104) :
    FL (w.alloc (.cells cells.toArray 61)) (.slice (some ⟨w.heap.size, 0, none⟩) G.length cap) G := by
  refine ⟨_, cap, rfl, hle, fun _ => ⟨w.heap.size, 0, rfl, by simp, fun j hj => ?_⟩⟩
  have h := (Has.new w 61 cells.toArray).cell
  obtain ⟨h1, h2⟩ := encFs_at G j G[j] (List.getElem?_eq_getElem hj)
  rw [Nat.zero_add, h, h]
  subst hc
  constructor
  · simpa using h1
  · simpa using h2
end Go.Proofs.YtblpooddamkfdaaDoor.FRow

/- Layer 13's laws: the document's example, the copy of a list, strconv's table. -/
namespace Go.Proofs.YtblpooddamkfdaaDoor.L13Base
open Go.ChangeShapes Go.WideShapes Go.ChangeAt Go.RowKit Bytes LexPure FieldsPure EmitPure Flds Mem PEmJoin PLib FRow KeptRow
set_option maxRecDepth 100000
set_option linter.unusedVariables false
set_option linter.unusedSimpArgs false
theorem pow_of_laid {W : World} {L : List (String × DataW Unit)} (hL : L.filter (fun x => x.1 == "internal/strconv.uint64pow10") = [("internal/strconv.uint64pow10", Rows.laid_internal_strconv_uint64pow10)]) (h0 : laidMetH Tryd.prog L W) : Pow W := by
  have h := laidMetH.filter (fun x => x.1 == "internal/strconv.uint64pow10") h0
  rw [hL, MakeChecks.laidMetH_plain _ _ _ (by kernel_rfl)] at h
  exact Lib.tabIs_of_head (g := 0) (t := 102) (e := 91) (n := 20) (by kernel_rfl) (by kernel_rfl) Tryd.underlying102 Tryd.underlying91 (by kernel_rfl) (by kernel_rfl) h
theorem said404 : localE 404 [] [110, 111] false false = [72, 84, 84, 80, 47, 49, 46, 49, 32, 52, 48, 52, 32, 78, 111, 116, 32, 70, 111, 117, 110, 100, 13, 10, 86, 105, 97, 58, 32, 49, 46, 49, 32, 98, 97, 114, 98, 105, 99, 97, 110, 13, 10, 67, 111, 110, 116, 101, 110, 116, 45, 76, 101, 110, 103, 116, 104, 58, 32, 50, 13, 10, 67, 111, 110, 110, 101, 99, 116, 105, 111, 110, 58, 32, 99, 108, 111, 115, 101, 13, 10, 13, 10, 110, 111] := by decide +kernel
theorem anchor_any (w : World) (hm : MaxInt w) (hp : Pow w) : Calls Tryd.prog 5 #[] w fun e w' => e = .returned (.bool true) ∧ Below w.heap.size w w' := by
  have H := PEmLocal.local_any 404 (.slice none 0 0) [] [110, 111] false false (by decide) (by decide) (fun j hj => absurd hj (by simp)) (by decide) (by decide) w hm hp (fl_none w)
  rw [said404] at H
  have HH := Lib.hid H
  clear H hm hp
  go_enter Tryd.func5, Tryd.ntmps5
  go_wp2_with fail
  refine HH.out.mono ?_
  rintro e w1 ⟨rfl, hb⟩
  unfold ofL
  go_wp2_with fail
  go_ret
  exact ⟨rfl, hb⟩
set_option maxHeartbeats 1600000 in
theorem copied_any (v : Value) (G : List HField) (hle : G.length ≤ 4398046511104) (hy : Nice v G.length) (w : World) (hF : FL w v G) :
    Calls Tryd.prog 6 #[v] w fun e w' => ∃ v', e = .returned v' ∧ w'.ownsRow w.heap.size 61 2 v' G.length (encFs G) ∧ Below w.heap.size w w' := by
  obtain ⟨p, cap, rfl, _, _⟩ := id hF
  have hF1 := hF.below ((Below.refl w.heap.size w).alloc (Nat.le_refl _) (.cells #[] 61))
  have hsz : w.heap.size ≤ (w.alloc (.cells #[] 61)).heap.size := by simp
  have HN := Lib.hid hy
  clear hF hy
  go_enter Tryd.func6, Tryd.ntmps6
  go_wp2_with (at_builtin; refine wpList_append_list rfl _ _ rfl w.heap.size _ 0 [] rfl (owns_none w _ _ (Nat.le_refl _)) _ G rfl hF1 HN.out (by omega) hsz ?_; intro v4 w4 hown4 hg4)
  have HR := Lib.hid (copied hown4 hg4)
  clear hown4 hg4 hF1 hsz
  go_ret
  exact ⟨_, rfl, HR.out⟩
end Go.Proofs.YtblpooddamkfdaaDoor.L13Base

/- Layer 13 of the program: Request. -/
namespace Go.Proofs.YtblpooddamkfdaaDoor.PEmReq
open Go.ChangeShapes Go.WideShapes Go.ChangeAt Go.RowKit Bytes LexPure FieldsPure EmitPure Texts Flds Mem Step InEmb PEmTx PEmPass PEmJoin PEmObj PLib Ret HeadLines
set_option maxRecDepth 100000
set_option linter.unusedVariables false
set_option linter.unusedSimpArgs false
abbrev AT : TypeId := 24
def acells (a : AskP) (vl : Value) : Array Value := #[.string (ofL a.method), .string (ofL a.target), .string (ofL a.host), .int .i64 a.port, vl, .string (ofL a.body), .bool a.sized, .string (ofL a.from_), .string (ofL a.up)]
def EXPP : List UInt8 := [69, 120, 112, 101, 99, 116]
def V11 : List UInt8 := [72, 84, 84, 80, 47, 49, 46, 49]
theorem told_ask (G : List HField) : PEmPass.told [CLN, VIAN, HOSTN, EXPP, XFFN] (strip G) = (onE true G).flatMap lineE := by
  unfold PEmPass.told onE
  congr 1
  apply List.filter_congr
  intro f _
  have e : alike f.1 EXPP = alike f.1 EXPN := by
    unfold alike
    rw [show lower EXPP = lower EXPN from by decide]
  simp [lft, skipE, e, Bool.and_assoc]
/-- what Request asks of its argument -/
structure Fit (a : AskP) : Prop where
  fields : Few a.fields
  len : a.fields.length ≤ 1048576
  method : a.method.length ≤ 1048576
  target : a.target.length ≤ 1048576
  host : a.host.length ≤ 1048576
  body : a.body.length ≤ 1048576
  from_ : a.from_.length ≤ 1048576
  up : a.up.length ≤ 1048576
  p0 : -9223372036854775808 ≤ a.port
  p1 : a.port ≤ 9223372036854775807
section
variable {w wr : World} {a : AskP} {vl : Value} {n : Nat} {l : List UInt8}
theorem ask_cells (h : Em w AT (acells a vl) n l wr) : wr.cell? ⟨w.heap.size, 0, none⟩ = some (.string (ofL a.method)) ∧ wr.cell? ⟨w.heap.size, 1, none⟩ = some (.string (ofL a.target)) ∧ wr.cell? ⟨w.heap.size, 2, none⟩ = some (.string (ofL a.host)) ∧
    wr.cell? ⟨w.heap.size, 3, none⟩ = some (.int .i64 a.port) ∧ wr.cell? ⟨w.heap.size, 4, none⟩ = some vl ∧ wr.cell? ⟨w.heap.size, 5, none⟩ = some (.string (ofL a.body)) ∧ wr.cell? ⟨w.heap.size, 6, none⟩ = some (.bool a.sized) ∧
    wr.cell? ⟨w.heap.size, 7, none⟩ = some (.string (ofL a.from_)) ∧ wr.cell? ⟨w.heap.size, 8, none⟩ = some (.string (ofL a.up)) :=
  ⟨h.box.cell 0, h.box.cell 1, h.box.cell 2, h.box.cell 3, h.box.cell 4, h.box.cell 5, h.box.cell 6, h.box.cell 7, h.box.cell 8⟩
end
set_option maxHeartbeats 6400000 in
theorem request_any (a : AskP) (vl : Value) (hA : Fit a) (w : World) (hm : MaxInt w) (hp : Pow w) (hF : FL w vl a.fields) :
    Calls Tryd.prog 7 #[.agg (acells a vl)] w fun e w' => e = .returned (.string (ofL (requestE a))) ∧ Below w.heap.size w w' := by
  have hF0 := hF
  obtain ⟨pl, cl, rfl, _, _⟩ := hF0
  have hE : ∃ W2, W2 = (w.alloc (.cells #[.string (ofL a.method), .string (ofL a.target), .string (ofL a.host), .int .i64 a.port, .slice pl a.fields.length cl, .string (ofL a.body), .bool a.sized, .string (ofL a.from_), .string (ofL a.up)] AT)).alloc (.cells #[.pointer none, .slice none 0 0] TT) ∧ Em w AT (acells a (.slice pl a.fields.length cl)) 0 [] W2 := ⟨_, rfl, Em.start w AT _⟩
  obtain ⟨W2, hW2, hE⟩ := hE
  have HW2 := Lib.hid hW2
  have HE := Lib.hid hE
  have HA := Lib.hid hA
  have HM := Lib.hid hm
  have HP := Lib.hid hp
  have HF := Lib.hid hF
  clear hA hm hp hF hE hW2
  unfold acells
  go_enter Tryd.func7, Tryd.ntmps7
  iterate 20 go_step
  rw [← HW2.out]
  clear HW2
  obtain ⟨c0, c1, _⟩ := ask_cells HE.out
  have HX := Lib.hid ((HE.out.alloc (.cells #[.string (ofL a.method), .string ⟨#[32]⟩, .string (ofL a.target), .string ⟨#[32]⟩, .string ⟨#[72, 84, 84, 80, 47, 49, 46, 49]⟩] 9)).line (k := 2097170) (by decide) (by decide) (Parts.new _ [a.method, [32], a.target, [32], V11] _ 5 5 rfl rfl) (by simp) (by
    have h1 := HA.out.method
    have h2 := HA.out.target
    simp [V11]
    omega) (by decide))
  clear HE
  go_wp2_with fail
  refine HX.out.mono ?_
  rintro e w1 ⟨rfl, HE⟩
  clear HX c0 c1
  obtain ⟨_, _, c2, c3, _⟩ := ask_cells HE.out
  have HX : Hid (Calls Tryd.prog 20 #[.string (ofL a.host), .int .i64 a.port] w1 fun e w' => e = .returned (.string (ofL (hostE a))) ∧ Hid (Em w AT (acells a (.slice pl a.fields.length cl)) (0 + 2097170) ([] ++ ([a.method, [32], a.target, [32], V11].flatten ++ [13, 10])) w')) := Lib.hid ((authority_any a.host HA.out.host a.port HA.out.p0 HA.out.p1 w1 (HP.out.below HE.out.below)).mono (fun e w' ⟨x1, x2⟩ => ⟨x1, Lib.hid (HE.out.call x2)⟩))
  clear HE
  go_wp2_with fail
  refine HX.out.mono ?_
  rintro e w2 ⟨rfl, HE⟩
  clear HX c2 c3
  have HX := Lib.hid (HE.out.field (k := 2097170) (by decide) (by decide) HOSTN (hostE a) (by
    have h1 := HA.out.host
    have h2 := decZ_len HA.out.p0 HA.out.p1
    have h3 : (hostE a).length ≤ a.host.length + 21 := by
      unfold hostE
      rw [List.length_append]
      split
      · rw [List.length_cons]; omega
      · simp
    simp [HOSTN]
    omega) (by decide))
  clear HE
  go_wp2_with fail
  refine HX.out.mono ?_
  rintro e w3 ⟨rfl, HE⟩
  clear HX
  obtain ⟨_, _, _, _, c4, _⟩ := ask_cells HE.out
  have HX := Lib.hid ((HE.out.alloc (.cells #[.string ⟨#[67, 111, 110, 116, 101, 110, 116, 45, 76, 101, 110, 103, 116, 104]⟩, .string ⟨#[86, 105, 97]⟩, .string ⟨#[72, 111, 115, 116]⟩, .string ⟨#[69, 120, 112, 101, 99, 116]⟩, .string ⟨#[88, 45, 70, 111, 114, 119, 97, 114, 100, 101, 100, 45, 70, 111, 114]⟩] 9)).pass (L := [CLN, VIAN, HOSTN, EXPP, XFFN]) (cap := 5) (by decide) (by decide) HM.out HA.out.fields HA.out.len HF.out (Has.new w3 9 _) (by decide) (by decide) (m := 5) rfl)
  rw [told_ask] at HX
  clear HE
  go_wp2_with fail
  refine HX.out.mono ?_
  rintro e w4 ⟨rfl, HE⟩
  clear HX c4
  obtain ⟨_, _, _, _, c4, _, _, c7, _⟩ := ask_cells HE.out
  have HX := Lib.hid (HE.out.join HA.out.fields HA.out.len HF.out XFFN a.from_ HA.out.from_)
  clear HE
  go_wp2_with fail
  refine HX.out.mono ?_
  rintro e w5 ⟨rfl, HE⟩
  clear HX c4 c7
  have HX := Lib.hid (HE.out.field (k := 1099515822080) (by decide) (by decide) XFFN (joinV a.fields XFFN a.from_) (by
    have h1 := joinV_len HA.out.fields HA.out.len XFFN a.from_
    have h2 := HA.out.from_
    rw [show XFFN.length = 15 from rfl]
    omega) (by decide))
  clear HE
  go_wp2_with fail
  refine HX.out.mono ?_
  rintro e w6 ⟨rfl, HE⟩
  clear HX
  obtain ⟨_, _, _, _, c4, _⟩ := ask_cells HE.out
  have HX := Lib.hid (HE.out.join HA.out.fields HA.out.len HF.out VIAN BARB (by decide))
  clear HE
  go_wp2_with fail
  refine HX.out.mono ?_
  rintro e w7 ⟨rfl, HE⟩
  clear HX c4
  have HX := Lib.hid (HE.out.field (k := 1099515822080) (by decide) (by decide) VIAN (joinV a.fields VIAN BARB) (by
    have h1 := joinV_len HA.out.fields HA.out.len VIAN BARB
    rw [show BARB.length = 12 from rfl] at h1
    rw [show VIAN.length = 3 from rfl]
    omega) (by decide))
  clear HE
  go_wp2_with fail
  refine HX.out.mono ?_
  rintro e w8 ⟨rfl, HE⟩
  clear HX
  have htail : ∀ (W : World) (n : Nat) (l : List UInt8), Em w AT (acells a (.slice pl a.fields.length cl)) n l W → n ≤ 35184372088832 → Hid (Calls Tryd.prog 18 #[.pointer (some ⟨w.heap.size + 1, 0, none⟩), .slice none 0 0] W fun e w' => e = .returned (.tuple #[]) ∧ Hid (Em w AT (acells a (.slice pl a.fields.length cl)) (n + 2) (l ++ ([].flatten ++ [13, 10])) w')) := fun W n l h hn => Lib.hid (h.line (by decide) (by decide) (Parts.nil W) (by decide) (Nat.le_refl _) (by omega))
  have htail2 : ∀ (W : World) (n : Nat) (l : List UInt8), Em w AT (acells a (.slice pl a.fields.length cl)) n l W → n ≤ 35184372088834 → Hid (Calls Tryd.prog 25 #[.pointer (some ⟨w.heap.size + 1, 0, none⟩), .string (ofL a.body)] W fun e w' => e = .returned (.tuple #[.int .i64 (ofL a.body).size, .nilIface]) ∧ Hid (Em w AT (acells a (.slice pl a.fields.length cl)) (n + 1048576) (l ++ a.body) w')) := fun W n l h hn => Lib.hid (h.write (by decide) (by decide) a.body HA.out.body (by omega))
  have HT1 := Lib.hid htail
  have HT2 := Lib.hid htail2
  clear htail htail2
  obtain ⟨_, _, _, _, _, _, c6, _⟩ := ask_cells HE.out
  have eu : (ofL a.up).toList = a.up := by rw [ByteArray.toList_eq]; exact toL_ofL _
  have hcs : (∃ b, (ofL a.up).toList.isEmpty = b ∧ b = false ∧ ¬ (ofL a.up).toList = [] ∧ Hid (¬ a.up = [])) ∨ ((ofL a.up).toList.isEmpty = true ∧ (ofL a.up).toList = [] ∧ Hid (a.up = [])) := by
    rw [eu]
    by_cases h0 : a.up = []
    · exact .inr ⟨by rw [h0]; rfl, h0, Lib.hid h0⟩
    · refine .inl ⟨false, ?_, rfl, h0, Lib.hid h0⟩
      cases hx : a.up with
      | nil => exact absurd hx h0
      | cons => rfl
  clear eu
  cases hs : a.sized with
  | true =>
    have HS := Lib.hid hs
    rw [hs] at c6
    clear hs
    obtain ⟨_, _, _, _, _, c5, _⟩ := ask_cells HE.out
    have HX := Lib.hid (HE.out.itoa HP.out ((ofL a.body).size : Int) (by omega) (by rw [ofL_size]; have := HA.out.body; omega))
    clear HE
    go_wp2_with fail
    refine HX.out.mono ?_
    rintro e w9 ⟨rfl, HE⟩
    clear HX c5 c6
    have HX := Lib.hid (HE.out.field (k := 40) (by decide) (by decide) CLN (decZ ((ofL a.body).size : Int)) (by
      have h1 : (decZ ((ofL a.body).size : Int)).length ≤ 20 := decZ_len (by omega) (by rw [ofL_size]; have := HA.out.body; omega)
      rw [show CLN.length = 14 from rfl]
      omega) (by decide))
    clear HE
    go_wp2_with fail
    refine HX.out.mono ?_
    rintro e w9 ⟨rfl, HE⟩
    clear HX
    rcases hcs with ⟨b, t1, rfl, t2, HU⟩ | ⟨t1, t2, HU⟩
    · obtain ⟨_, _, _, _, _, _, _, _, c8⟩ := ask_cells HE.out
      have HX := Lib.hid (HE.out.offer (k := 1048616) (by decide) (by decide) a.up (by have := HA.out.up; omega) (by decide))
      clear HE
      go_wp2_with fail
      refine HX.out.mono ?_
      rintro e w10 ⟨rfl, HE⟩
      clear HX c8 t1 t2
      have HX := HT1.out _ _ _ HE.out (by decide)
      clear HE
      go_wp2_with fail
      refine HX.out.mono ?_
      rintro e w11 ⟨rfl, HE⟩
      clear HX
      obtain ⟨_, _, _, _, _, c5, _⟩ := ask_cells HE.out
      have HX := HT2.out _ _ _ HE.out (by decide)
      clear HE
      go_wp2_with fail
      refine HX.out.mono ?_
      rintro e w12 ⟨rfl, HE⟩
      clear HX c5
      have HX := Lib.hid HE.out.tell
      clear HE
      go_wp2_with fail
      refine HX.out.mono ?_
      rintro e w13 ⟨rfl, hb⟩
      clear HX
      go_wp2_with fail
      go_ret
      refine ⟨ret_string (congrArg ofL ?_), hb⟩
      have hs := HS.out
      have hu := HU.out
      simp [requestE, askF, startL, HeadWrit.HTTP11, hs, hu, V11, lineE, ofL_size]
    · obtain ⟨_, _, _, _, _, _, _, _, c8⟩ := ask_cells HE.out
      have HX := HT1.out _ _ _ HE.out (by decide)
      clear HE
      go_wp2_with fail
      refine HX.out.mono ?_
      rintro e w11 ⟨rfl, HE⟩
      clear HX c8 t1 t2
      obtain ⟨_, _, _, _, _, c5, _⟩ := ask_cells HE.out
      have HX := HT2.out _ _ _ HE.out (by decide)
      clear HE
      go_wp2_with fail
      refine HX.out.mono ?_
      rintro e w12 ⟨rfl, HE⟩
      clear HX c5
      have HX := Lib.hid HE.out.tell
      clear HE
      go_wp2_with fail
      refine HX.out.mono ?_
      rintro e w13 ⟨rfl, hb⟩
      clear HX
      go_wp2_with fail
      go_ret
      refine ⟨ret_string (congrArg ofL ?_), hb⟩
      have hs := HS.out
      have hu := HU.out
      simp [requestE, askF, startL, HeadWrit.HTTP11, hs, hu, V11, lineE, ofL_size]
  | false =>
    have HS := Lib.hid hs
    rw [hs] at c6
    clear hs
    rcases hcs with ⟨b, t1, rfl, t2, HU⟩ | ⟨t1, t2, HU⟩
    · obtain ⟨_, _, _, _, _, _, _, _, c8⟩ := ask_cells HE.out
      have HX := Lib.hid (HE.out.offer (k := 1048616) (by decide) (by decide) a.up (by have := HA.out.up; omega) (by decide))
      clear HE
      go_wp2_with fail
      refine HX.out.mono ?_
      rintro e w10 ⟨rfl, HE⟩
      clear HX c8 t1 t2
      have HX := HT1.out _ _ _ HE.out (by decide)
      clear HE
      go_wp2_with fail
      refine HX.out.mono ?_
      rintro e w11 ⟨rfl, HE⟩
      clear HX
      obtain ⟨_, _, _, _, _, c5, _⟩ := ask_cells HE.out
      have HX := HT2.out _ _ _ HE.out (by decide)
      clear HE
      go_wp2_with fail
      refine HX.out.mono ?_
      rintro e w12 ⟨rfl, HE⟩
      clear HX c5
      have HX := Lib.hid HE.out.tell
      clear HE
      go_wp2_with fail
      refine HX.out.mono ?_
      rintro e w13 ⟨rfl, hb⟩
      clear HX
      go_wp2_with fail
      go_ret
      refine ⟨ret_string (congrArg ofL ?_), hb⟩
      have hs := HS.out
      have hu := HU.out
      simp [requestE, askF, startL, HeadWrit.HTTP11, hs, hu, V11, lineE, ofL_size]
    · obtain ⟨_, _, _, _, _, _, _, _, c8⟩ := ask_cells HE.out
      have HX := HT1.out _ _ _ HE.out (by decide)
      clear HE
      go_wp2_with fail
      refine HX.out.mono ?_
      rintro e w11 ⟨rfl, HE⟩
      clear HX c8 t1 t2
      obtain ⟨_, _, _, _, _, c5, _⟩ := ask_cells HE.out
      have HX := HT2.out _ _ _ HE.out (by decide)
      clear HE
      go_wp2_with fail
      refine HX.out.mono ?_
      rintro e w12 ⟨rfl, HE⟩
      clear HX c5
      have HX := Lib.hid HE.out.tell
      clear HE
      go_wp2_with fail
      refine HX.out.mono ?_
      rintro e w13 ⟨rfl, hb⟩
      clear HX
      go_wp2_with fail
      go_ret
      refine ⟨ret_string (congrArg ofL ?_), hb⟩
      have hs := HS.out
      have hu := HU.out
      simp [requestE, askF, startL, HeadWrit.HTTP11, hs, hu, V11, lineE, ofL_size]
end Go.Proofs.YtblpooddamkfdaaDoor.PEmReq

/- Layer 13's laws: arguments that are an Ask, a Reply, of bulk at most 1048576. -/
namespace Go.Proofs.YtblpooddamkfdaaDoor.L13Arg
open Go.ChangeShapes Go.WideShapes Go.ChangeAt Go.RowKit Go.Deep LexPure Bytes Ret Rows1 FieldsPure Flds EmitPure FArg
set_option maxRecDepth 100000
theorem wf_in {n : Int} (h : (Lit.int .i64 n).wf = true) : -9223372036854775808 ≤ n ∧ n ≤ 9223372036854775807 := by
  simpa [Lit.wf, IntKind.min, IntKind.max, IntKind.bits, IntKind.signed] using h
theorem ask_arg {H : Type} {enc : TypeId × Value → H} {W : World} {base : Nat} {v : Value} {d : DataW H} {p : List MemPlace} (hv : Value.okWide Tryd.prog W .any base 24 v)
    (h : DataW.Trod enc Tryd.prog W 0 (fun _ => true) true 24 v d p) (hb : Rows.uptoBulk d ≤ 1048576) :
    ∃ (x : AskP) (l : Value), v = .agg (PEmReq.acells x l) ∧ FL W l x.fields ∧ Nice l x.fields.length ∧ PEmReq.Fit x := by
  have he : Tryd.prog.underlying 24 = some (.struct (Tryd.prog.fieldsOf 24)) := by kernel_rfl
  have hC : Tryd.prog.cellsOf 24 = 9 := by kernel_rfl
  have hone := hone_of (show oneCellFields Tryd.prog (Tryd.prog.fieldsOf 24) = true by kernel_rfl)
  obtain ⟨cs, rfl, hsz⟩ := okWide_struct he hv
  obtain ⟨l⟩ := cs
  match l, hsz.trans hC with
  | [c0, c1, c2, c3, c4, c5, c6, c7, c8], _ =>
    obtain ⟨fuel, hf⟩ := h
    obtain ⟨xs, n, _, hx, _, hlen, hg⟩ := DataW.trod_struct he hf
    have hl6 : (Tryd.prog.fieldsOf 24).size = 9 := by kernel_rfl
    match xs, hlen.trans hl6 with
    | [y0, y1, y2, y3, y4, y5, y6, y7, y8], _ =>
      have key : ∀ i (hi : i < 9), DataW.trod enc Tryd.prog W 0 (fun _ => true) true n (Tryd.prog.fieldsOf 24)[i]!.type [[c0, c1, c2, c3, c4, c5, c6, c7, c8][i]] = some [y0, y1, y2, y3, y4, y5, y6, y7, y8][i] := fun i hi => by
        have hq : (Tryd.prog.fieldsOf 24)[i]? = some (Tryd.prog.fieldsOf 24)[i]! := by
          rw [getElem!_pos _ i (by rw [hl6]; exact hi)]
          exact Array.getElem?_eq_getElem _
        have h1 := hg i _ hq
        obtain ⟨o1, k1⟩ := hone i _ hq
        rw [o1, k1] at h1
        have h2 : ((Value.agg ⟨[c0, c1, c2, c3, c4, c5, c6, c7, c8]⟩).cells.toList.drop i).take 1 = [[c0, c1, c2, c3, c4, c5, c6, c7, c8][i]] := by
          rw [show (Value.agg ⟨[c0, c1, c2, c3, c4, c5, c6, c7, c8]⟩).cells.toList = [c0, c1, c2, c3, c4, c5, c6, c7, c8] from rfl, List.drop_eq_getElem_cons (by simpa using hi)]
          rfl
        rw [h2] at h1
        rw [h1, List.getElem?_eq_getElem (by simpa using hi)]
      have u : ∀ i, i = 0 ∨ i = 1 ∨ i = 2 ∨ i = 5 ∨ i = 7 ∨ i = 8 → Tryd.prog.underlying (Tryd.prog.fieldsOf 24)[i]!.type = some .string := by
        rintro i (rfl | rfl | rfl | rfl | rfl | rfl) <;> kernel_rfl
      have u2 : ∀ i, i = 3 → Tryd.prog.underlying (Tryd.prog.fieldsOf 24)[i]!.type = some (.int .i64) := by
        rintro i (rfl) <;> kernel_rfl
      have u3 : ∀ i, i = 6 → Tryd.prog.underlying (Tryd.prog.fieldsOf 24)[i]!.type = some .bool := by
        rintro i (rfl) <;> kernel_rfl
      have u5 : (Tryd.prog.fieldsOf 24)[4]!.type = 22 := by kernel_rfl
      obtain ⟨s0, e0, x0, _⟩ := DataW.trod_string (u 0 (by simp)) (key 0 (by decide))
      obtain ⟨s1, e1, x1, _⟩ := DataW.trod_string (u 1 (by simp)) (key 1 (by decide))
      obtain ⟨s2, e2, x2, _⟩ := DataW.trod_string (u 2 (by simp)) (key 2 (by decide))
      obtain ⟨s5, e5, x5, _⟩ := DataW.trod_string (u 5 (by simp)) (key 5 (by decide))
      obtain ⟨s7, e7, x7, _⟩ := DataW.trod_string (u 7 (by simp)) (key 7 (by decide))
      obtain ⟨s8, e8, x8, _⟩ := DataW.trod_string (u 8 (by simp)) (key 8 (by decide))
      obtain ⟨n3, e3, x3, w3⟩ := DataW.trod_int (u2 3 (by simp)) (key 3 (by decide))
      obtain ⟨b6, e6, x6⟩ := DataW.trod_bool (u3 6 (by simp)) (key 6 (by decide))
      have k5 := key 4 (by decide)
      rw [u5] at k5
      obtain ⟨y4a, y4b⟩ := y4
      have hd : d = .agg [y0.1, y1.1, y2.1, y3.1, y4a, y5.1, y6.1, y7.1, y8.1] := by simpa using congrArg Prod.fst hx
      rw [hd] at hb
      simp only [Rows.uptoBulk, Rows.uptoBulkAll] at hb
      obtain ⟨G, hF, hG, hl, hn⟩ := fields_core (v := c4) (d := y4a) (p := y4b) (fuel := n) k5 (by omega)
      have q0 : s0.size ≤ 1048576 := by
        have : y0.1 = .lit (.string s0.data.toList) := congrArg Prod.fst x0
        rw [this] at hb
        simp only [Rows.uptoBulk] at hb
        have e : s0.data.size = s0.size := rfl
        simp only [Array.length_toList] at hb
        omega
      have q1 : s1.size ≤ 1048576 := by
        have : y1.1 = .lit (.string s1.data.toList) := congrArg Prod.fst x1
        rw [this] at hb
        simp only [Rows.uptoBulk] at hb
        have e : s1.data.size = s1.size := rfl
        simp only [Array.length_toList] at hb
        omega
      have q2 : s2.size ≤ 1048576 := by
        have : y2.1 = .lit (.string s2.data.toList) := congrArg Prod.fst x2
        rw [this] at hb
        simp only [Rows.uptoBulk] at hb
        have e : s2.data.size = s2.size := rfl
        simp only [Array.length_toList] at hb
        omega
      have q5 : s5.size ≤ 1048576 := by
        have : y5.1 = .lit (.string s5.data.toList) := congrArg Prod.fst x5
        rw [this] at hb
        simp only [Rows.uptoBulk] at hb
        have e : s5.data.size = s5.size := rfl
        simp only [Array.length_toList] at hb
        omega
      have q7 : s7.size ≤ 1048576 := by
        have : y7.1 = .lit (.string s7.data.toList) := congrArg Prod.fst x7
        rw [this] at hb
        simp only [Rows.uptoBulk] at hb
        have e : s7.data.size = s7.size := rfl
        simp only [Array.length_toList] at hb
        omega
      have q8 : s8.size ≤ 1048576 := by
        have : y8.1 = .lit (.string s8.data.toList) := congrArg Prod.fst x8
        rw [this] at hb
        simp only [Rows.uptoBulk] at hb
        have e : s8.data.size = s8.size := rfl
        simp only [Array.length_toList] at hb
        omega
      obtain ⟨m3, M3⟩ := wf_in w3
      refine ⟨⟨toL s0, toL s1, toL s2, n3, G, toL s5, b6, toL s7, toL s8⟩, c4, ?_, hF, hn, ⟨hG, hl, by rw [toL_length]; exact q0, by rw [toL_length]; exact q1, by rw [toL_length]; exact q2, by rw [toL_length]; exact q5, by rw [toL_length]; exact q7, by rw [toL_length]; exact q8, m3, M3⟩⟩
      unfold PEmReq.acells
      simp only [ofL_toL]
      obtain rfl : c0 = .string s0 := by simpa using e0
      obtain rfl : c1 = .string s1 := by simpa using e1
      obtain rfl : c2 = .string s2 := by simpa using e2
      obtain rfl : c5 = .string s5 := by simpa using e5
      obtain rfl : c7 = .string s7 := by simpa using e7
      obtain rfl : c8 = .string s8 := by simpa using e8
      obtain rfl : c3 = .int .i64 n3 := by simpa using e3
      obtain rfl : c6 = .bool b6 := by simpa using e6
      rfl
theorem reply_arg {H : Type} {enc : TypeId × Value → H} {W : World} {base : Nat} {v : Value} {d : DataW H} {p : List MemPlace} (hv : Value.okWide Tryd.prog W .any base 34 v)
    (h : DataW.Trod enc Tryd.prog W 0 (fun _ => true) true 34 v d p) (hb : Rows.uptoBulk d ≤ 1048576) :
    ∃ (x : ReplyP) (l : Value), v = .agg (PEmHead.rcells x l) ∧ FL W l x.fields ∧ Nice l x.fields.length ∧ PEmHead.FitR x := by
  have he : Tryd.prog.underlying 34 = some (.struct (Tryd.prog.fieldsOf 34)) := by kernel_rfl
  have hC : Tryd.prog.cellsOf 34 = 7 := by kernel_rfl
  have hone := hone_of (show oneCellFields Tryd.prog (Tryd.prog.fieldsOf 34) = true by kernel_rfl)
  obtain ⟨cs, rfl, hsz⟩ := okWide_struct he hv
  obtain ⟨l⟩ := cs
  match l, hsz.trans hC with
  | [c0, c1, c2, c3, c4, c5, c6], _ =>
    obtain ⟨fuel, hf⟩ := h
    obtain ⟨xs, n, _, hx, _, hlen, hg⟩ := DataW.trod_struct he hf
    have hl6 : (Tryd.prog.fieldsOf 34).size = 7 := by kernel_rfl
    match xs, hlen.trans hl6 with
    | [y0, y1, y2, y3, y4, y5, y6], _ =>
      have key : ∀ i (hi : i < 7), DataW.trod enc Tryd.prog W 0 (fun _ => true) true n (Tryd.prog.fieldsOf 34)[i]!.type [[c0, c1, c2, c3, c4, c5, c6][i]] = some [y0, y1, y2, y3, y4, y5, y6][i] := fun i hi => by
        have hq : (Tryd.prog.fieldsOf 34)[i]? = some (Tryd.prog.fieldsOf 34)[i]! := by
          rw [getElem!_pos _ i (by rw [hl6]; exact hi)]
          exact Array.getElem?_eq_getElem _
        have h1 := hg i _ hq
        obtain ⟨o1, k1⟩ := hone i _ hq
        rw [o1, k1] at h1
        have h2 : ((Value.agg ⟨[c0, c1, c2, c3, c4, c5, c6]⟩).cells.toList.drop i).take 1 = [[c0, c1, c2, c3, c4, c5, c6][i]] := by
          rw [show (Value.agg ⟨[c0, c1, c2, c3, c4, c5, c6]⟩).cells.toList = [c0, c1, c2, c3, c4, c5, c6] from rfl, List.drop_eq_getElem_cons (by simpa using hi)]
          rfl
        rw [h2] at h1
        rw [h1, List.getElem?_eq_getElem (by simpa using hi)]
      have u : ∀ i, i = 1 ∨ i = 6 → Tryd.prog.underlying (Tryd.prog.fieldsOf 34)[i]!.type = some .string := by
        rintro i (rfl | rfl) <;> kernel_rfl
      have u2 : ∀ i, i = 0 ∨ i = 3 ∨ i = 4 → Tryd.prog.underlying (Tryd.prog.fieldsOf 34)[i]!.type = some (.int .i64) := by
        rintro i (rfl | rfl | rfl) <;> kernel_rfl
      have u3 : ∀ i, i = 5 → Tryd.prog.underlying (Tryd.prog.fieldsOf 34)[i]!.type = some .bool := by
        rintro i (rfl) <;> kernel_rfl
      have u5 : (Tryd.prog.fieldsOf 34)[2]!.type = 22 := by kernel_rfl
      obtain ⟨s1, e1, x1, _⟩ := DataW.trod_string (u 1 (by simp)) (key 1 (by decide))
      obtain ⟨s6, e6, x6, _⟩ := DataW.trod_string (u 6 (by simp)) (key 6 (by decide))
      obtain ⟨n0, e0, x0, w0⟩ := DataW.trod_int (u2 0 (by simp)) (key 0 (by decide))
      obtain ⟨n3, e3, x3, w3⟩ := DataW.trod_int (u2 3 (by simp)) (key 3 (by decide))
      obtain ⟨n4, e4, x4, w4⟩ := DataW.trod_int (u2 4 (by simp)) (key 4 (by decide))
      obtain ⟨b5, e5, x5⟩ := DataW.trod_bool (u3 5 (by simp)) (key 5 (by decide))
      have k5 := key 2 (by decide)
      rw [u5] at k5
      obtain ⟨y2a, y2b⟩ := y2
      have hd : d = .agg [y0.1, y1.1, y2a, y3.1, y4.1, y5.1, y6.1] := by simpa using congrArg Prod.fst hx
      rw [hd] at hb
      simp only [Rows.uptoBulk, Rows.uptoBulkAll] at hb
      obtain ⟨G, hF, hG, hl, hn⟩ := fields_core (v := c2) (d := y2a) (p := y2b) (fuel := n) k5 (by omega)
      have q1 : s1.size ≤ 1048576 := by
        have : y1.1 = .lit (.string s1.data.toList) := congrArg Prod.fst x1
        rw [this] at hb
        simp only [Rows.uptoBulk] at hb
        have e : s1.data.size = s1.size := rfl
        simp only [Array.length_toList] at hb
        omega
      have q6 : s6.size ≤ 1048576 := by
        have : y6.1 = .lit (.string s6.data.toList) := congrArg Prod.fst x6
        rw [this] at hb
        simp only [Rows.uptoBulk] at hb
        have e : s6.data.size = s6.size := rfl
        simp only [Array.length_toList] at hb
        omega
      obtain ⟨m0, M0⟩ := wf_in w0
      obtain ⟨m3, M3⟩ := wf_in w3
      obtain ⟨m4, M4⟩ := wf_in w4
      refine ⟨⟨n0, toL s1, G, n3, n4, b5, toL s6⟩, c2, ?_, hF, hn, ⟨hG, hl, by rw [toL_length]; exact q1, by rw [toL_length]; exact q6, m0, M0, m4, M4⟩⟩
      unfold PEmHead.rcells
      simp only [ofL_toL]
      obtain rfl : c1 = .string s1 := by simpa using e1
      obtain rfl : c6 = .string s6 := by simpa using e6
      obtain rfl : c0 = .int .i64 n0 := by simpa using e0
      obtain rfl : c3 = .int .i64 n3 := by simpa using e3
      obtain rfl : c4 = .int .i64 n4 := by simpa using e4
      obtain rfl : c5 = .bool b5 := by simpa using e5
      rfl
end Go.Proofs.YtblpooddamkfdaaDoor.L13Arg

/- Layer 13's laws: the document's Ask and Reply of the program's. -/
namespace Go.Proofs.YtblpooddamkfdaaDoor.L13Plain
open Go.ChangeShapes Go.WideShapes Go.ChangeAt Go.RowKit Go.Deep LexPure Bytes Ret Rows1 FieldsPure Flds EmitPure Mem
set_option maxRecDepth 100000
set_option linter.unusedVariables false
set_option linter.unusedSimpArgs false
theorem results_cell1 {fn : Func} {p : Tmp} {ty : TypeId} (h : fn.results = #[.cell p ty]) (tmps : Array Value) (P : Program) (w : World) :
    (results fn tmps).run P w = ((asAddr (tmps.getD p undef)).run P w).andThen fun a w₁ => (loadVar ty a).run P w₁ := by
  simp only [results, h]
  simp [Sem.run_bind, Result.andThen]
variable {W0 : World} {G0 : List HField}
abbrev Splain_ask : TypeId := 24
abbrev Dplain_ask : TypeId := 29
theorem plain_ask_size : (Tryd.prog.info? Dplain_ask).map (·.size) = some 9 := by kernel_rfl
theorem plain_ask_store {ops : Array Oper} {rest : List Oper} {o : Oper} {a : Act} {w : World} {Q : Exit → Act → World → Prop} (hgd : o.guard = none) (x y : Operand) (ho : o.op = .store Dplain_ask x y) (old : Array Value) (hold : old.size = 9) (cs : Array Value) (hn : cs.size = 9) (hcs : cs.all (·.oneCell') = true)
    (hx : a.eval x = .pointer (some ⟨w.heap.size, 0, none⟩)) (hy : a.eval y = .agg cs) (h : wpList Tryd.prog ops Q rest (a.put o.dst undef) (w.alloc (.cells cs Dplain_ask))) : wpList Tryd.prog ops Q (o :: rest) a (w.alloc (.cells old Dplain_ask)) := by
  refine wpList_store_row hgd Dplain_ask x y ho w.heap.size cs hx hy Dplain_ask old (heap_alloc_new w _) (by rw [hn]; exact plain_ask_size) (hold.trans hn.symm) hcs ?_
  rw [World.setRow_alloc_new]
  exact h
set_option maxHeartbeats 3200000 in
theorem plain_ask_any (x : AskP) (l : Value) (hl : FL W0 l G0) (w : World) :
    Calls Tryd.prog 9 #[.agg (PEmReq.acells x l)] w fun e w' => e = .returned (.agg (PEmReq.acells x l)) ∧ Below w.heap.size w w' := by
  obtain ⟨p, cap, rfl, _, _⟩ := hl
  generalize hg : G0.length = n
  clear hg
  have hB : Hid (Below w.heap.size w ((w.alloc (.cells (PEmReq.acells x (.slice p n cap)) Splain_ask)).alloc (.cells (PEmReq.acells x (.slice p n cap)) Dplain_ask))) := Lib.hid (((Below.refl _ w).alloc (Nat.le_refl _) _).alloc (by simp) _)
  have hE : Hid ((loadVar Dplain_ask ⟨w.heap.size + 1, 0, none⟩).run Tryd.prog ((w.alloc (.cells (PEmReq.acells x (.slice p n cap)) Splain_ask)).alloc (.cells (PEmReq.acells x (.slice p n cap)) Dplain_ask)) = .ok (.agg (PEmReq.acells x (.slice p n cap))) ((w.alloc (.cells (PEmReq.acells x (.slice p n cap)) Splain_ask)).alloc (.cells (PEmReq.acells x (.slice p n cap)) Dplain_ask))) := Lib.hid (by
    have h := Has.new (w.alloc (.cells (PEmReq.acells x (.slice p n cap)) Splain_ask)) Dplain_ask (PEmReq.acells x (.slice p n cap))
    rw [World.size_alloc] at h
    exact run_loadVar_row _ (w.heap.size + 1) Dplain_ask Dplain_ask _ _ _ h.at_ Tryd.underlying29 rfl (by kernel_rfl))
  unfold PEmReq.acells at hB hE ⊢
  go_enter Tryd.func9, Tryd.ntmps9
  go_wp2_with (refine plain_ask_store rfl _ _ rfl _ rfl _ rfl (by simp [Value.oneCell']) rfl rfl ?_)
  refine bodyPost_ret (v := .agg _) ?_ rfl ⟨rfl, hB.out⟩
  rw [results_cell1 rfl]
  have := hE.out
  simp [asAddr, Result.andThen, this]
abbrev Splain_reply : TypeId := 34
abbrev Dplain_reply : TypeId := 37
theorem plain_reply_size : (Tryd.prog.info? Dplain_reply).map (·.size) = some 7 := by kernel_rfl
theorem plain_reply_store {ops : Array Oper} {rest : List Oper} {o : Oper} {a : Act} {w : World} {Q : Exit → Act → World → Prop} (hgd : o.guard = none) (x y : Operand) (ho : o.op = .store Dplain_reply x y) (old : Array Value) (hold : old.size = 7) (cs : Array Value) (hn : cs.size = 7) (hcs : cs.all (·.oneCell') = true)
    (hx : a.eval x = .pointer (some ⟨w.heap.size, 0, none⟩)) (hy : a.eval y = .agg cs) (h : wpList Tryd.prog ops Q rest (a.put o.dst undef) (w.alloc (.cells cs Dplain_reply))) : wpList Tryd.prog ops Q (o :: rest) a (w.alloc (.cells old Dplain_reply)) := by
  refine wpList_store_row hgd Dplain_reply x y ho w.heap.size cs hx hy Dplain_reply old (heap_alloc_new w _) (by rw [hn]; exact plain_reply_size) (hold.trans hn.symm) hcs ?_
  rw [World.setRow_alloc_new]
  exact h
set_option maxHeartbeats 3200000 in
theorem plain_reply_any (x : ReplyP) (l : Value) (hl : FL W0 l G0) (w : World) :
    Calls Tryd.prog 13 #[.agg (PEmHead.rcells x l)] w fun e w' => e = .returned (.agg (PEmHead.rcells x l)) ∧ Below w.heap.size w w' := by
  obtain ⟨p, cap, rfl, _, _⟩ := hl
  generalize hg : G0.length = n
  clear hg
  have hB : Hid (Below w.heap.size w ((w.alloc (.cells (PEmHead.rcells x (.slice p n cap)) Splain_reply)).alloc (.cells (PEmHead.rcells x (.slice p n cap)) Dplain_reply))) := Lib.hid (((Below.refl _ w).alloc (Nat.le_refl _) _).alloc (by simp) _)
  have hE : Hid ((loadVar Dplain_reply ⟨w.heap.size + 1, 0, none⟩).run Tryd.prog ((w.alloc (.cells (PEmHead.rcells x (.slice p n cap)) Splain_reply)).alloc (.cells (PEmHead.rcells x (.slice p n cap)) Dplain_reply)) = .ok (.agg (PEmHead.rcells x (.slice p n cap))) ((w.alloc (.cells (PEmHead.rcells x (.slice p n cap)) Splain_reply)).alloc (.cells (PEmHead.rcells x (.slice p n cap)) Dplain_reply))) := Lib.hid (by
    have h := Has.new (w.alloc (.cells (PEmHead.rcells x (.slice p n cap)) Splain_reply)) Dplain_reply (PEmHead.rcells x (.slice p n cap))
    rw [World.size_alloc] at h
    exact run_loadVar_row _ (w.heap.size + 1) Dplain_reply Dplain_reply _ _ _ h.at_ Tryd.underlying37 rfl (by kernel_rfl))
  unfold PEmHead.rcells at hB hE ⊢
  go_enter Tryd.func13, Tryd.ntmps13
  go_wp2_with (refine plain_reply_store rfl _ _ rfl _ rfl _ rfl (by simp [Value.oneCell']) rfl rfl ?_)
  refine bodyPost_ret (v := .agg _) ?_ rfl ⟨rfl, hB.out⟩
  rw [results_cell1 rfl]
  have := hE.out
  simp [asAddr, Result.andThen, this]
end Go.Proofs.YtblpooddamkfdaaDoor.L13Plain

/- Layer 7, the document's own Same. -/
namespace Go.Proofs.YtblpooddamkfdaaDoor.R7Same
open Go.ChangeShapes Go.WideShapes Go.ChangeAt Go.RowKit LexPure Bytes Ret Rows1 FieldsPure Flds Mem
set_option maxRecDepth 20000
theorem neqF (a b c d : ByteArray) (p q : Bool) (h1 : (a.toList == c.toList) = p) (h2 : (b.toList == d.toList) = q) (w : World) : (binOp .neq 61 (.agg #[.string a, .string b]) (.agg #[.string c, .string d])).run Tryd.prog w = .ok (.bool (!(p && q))) w := by
  have u9 := Tryd.underlying9
  have a9 := Tryd.isAgg9
  have z9 := Tryd.sizeOf9
  have hS : Tryd.prog.underlying 61 = some (.struct (Tryd.prog.fieldsOf 61)) := by kernel_rfl
  have hp : Tryd.prog.stoodInHeld 61 = false := by kernel_rfl
  rw [run_neq_struct, show (10000 : Nat) = 9999 + 1 from rfl, run_equalIn_agg w 9999 61 _ _ hS hp]
  simp only [Program.fieldsOf, Tryd.underlying61]
  cases p
  · go_simp
  · cases q
    · go_simp
    · go_simp
theorem take_ext7 {G H : List HField} {k : Nat} (hk : k < G.length) (hk2 : k < H.length) (h : G.take k = H.take k) (he : G[k] = H[k]) : G.take (k + 1) = H.take (k + 1) := by
  rw [List.take_add_one, List.take_add_one, h, List.getElem?_eq_getElem hk, List.getElem?_eq_getElem hk2, he]
set_option maxHeartbeats 1600000 in
theorem r7same_any (v1 v2 : Value) (G H : List HField) (w : World) (h1 : FL w v1 G) (h2 : FL w v2 H) :
    Calls Tryd.prog 10 #[v1, v2] w fun e w' => e = .returned (.bool (G == H)) ∧ ∃ m, w' = w.drewN m := by
  obtain ⟨p1, c1, rfl, hn1, HC1⟩ := h1
  obtain ⟨p2, c2, rfl, hn2, HC2⟩ := h2
  replace HC1 := Lib.hid HC1
  replace HC2 := Lib.hid HC2
  by_cases hl : G.length = H.length
  · have hq : ((G.length : Int) != (H.length : Int)) = false := by rw [hl]; exact bne_self_eq_false _
    go_enter Tryd.func10, Tryd.ntmps10
    go_wp2_with fail
    go_loopw [5] (fun i wr => ∃ k : Nat, k ≤ G.length ∧ i = .int .i64 k ∧ Hid (G.take k = H.take k) ∧ Hid (∃ m, wr = w.drewN m)) (fun i _ => G.length - (intOf i).toNat)
    case atStart => exact ⟨0, Nat.zero_le _, rfl, Lib.hid rfl, Lib.hid ⟨0, rfl⟩⟩
    case round =>
      obtain ⟨k, hk, rfl, ht, hw⟩ := hrel
      obtain ⟨m, rfl⟩ := hw.out
      by_cases hlt : k < G.length
      · have hki : (k : Int) < (G.length : Int) := by omega
        have hkj : (k : Int) < (H.length : Int) := by omega
        obtain ⟨g1, o1, rfl, _, hcell1⟩ := HC1.out (by omega)
        obtain ⟨g2, o2, rfl, _, hcell2⟩ := HC2.out (by omega)
        obtain ⟨d1, d3⟩ := hcell1 k hlt
        obtain ⟨d2, d4⟩ := hcell2 k (by omega)
        clear hcell1 hcell2
        have hd : ∀ q : Bool, (G[k] == H[k]'(by omega)) = q → (((ofL G[k].1).toList == (ofL (H[k]'(by omega)).1).toList) && ((ofL G[k].2).toList == (ofL (H[k]'(by omega)).2).toList)) = q := fun q hq => by
          rw [same_ofL, same_ofL]; exact hq
        by_cases he : G[k] = H[k]'(by omega)
        · have HT := Lib.hid (take_ext7 hlt (by omega) ht.out he)
          have hnq := fun w => neqF (ofL G[k].1) (ofL G[k].2) (ofL (H[k]'(by omega)).1) (ofL (H[k]'(by omega)).2) true true (by rw [same_ofL, he]; exact beq_self_eq_true _) (by rw [same_ofL, he]; exact beq_self_eq_true _) w
          clear he hd
          generalize ofL G[k].1 = s1 at *
          generalize ofL G[k].2 = s2 at *
          generalize ofL (H[k]'(by omega)).1 = s3 at *
          generalize ofL (H[k]'(by omega)).2 = s4 at *
          clear HC1 HC2 ht hw
          go_wp2_with fail
          go_quiet (fail)
          have HW : Hid (∃ m1, (w.drewN m).drewN nq = w.drewN m1) := Lib.hid ⟨m + nq, by simp⟩
          generalize ((w.drewN m).drewN nq) = w2 at *
          go_wp2_with fail
          go_roundw
          case rel => exact ⟨k + 1, by omega, by go_num, HT, HW⟩
          case measure => simp [intOf]; omega
        · have HV : Hid ((G == H) = false) := Lib.hid (by
            rw [beq_eq_false_iff_ne]
            intro h
            subst h
            exact he rfl)
          have hde := hd false (beq_eq_false_iff_ne.2 he)
          have hnq : ∀ w, (binOp .neq 61 (.agg #[.string (ofL G[k].1), .string (ofL G[k].2)]) (.agg #[.string (ofL (H[k]'(by omega)).1), .string (ofL (H[k]'(by omega)).2)])).run Tryd.prog w = .ok (.bool true) w := fun w => by
            have := neqF (ofL G[k].1) (ofL G[k].2) (ofL (H[k]'(by omega)).1) (ofL (H[k]'(by omega)).2) _ _ rfl rfl w
            rw [hde] at this
            exact this
          clear he hd hde
          generalize ofL G[k].1 = s1 at *
          generalize ofL G[k].2 = s2 at *
          generalize ofL (H[k]'(by omega)).1 = s3 at *
          generalize ofL (H[k]'(by omega)).2 = s4 at *
          clear HC1 HC2 ht hw
          go_wp2_with fail
          go_quiet (fail)
          have HW : Hid (∃ m1, (w.drewN m).drewN nq = w.drewN m1) := Lib.hid ⟨m + nq, by simp⟩
          generalize ((w.drewN m).drewN nq) = w2 at *
          go_wp2_with fail
          go_ret
          exact ⟨ret_bool HV.out.symm, HW.out⟩
      · have HV : Hid ((G == H) = true) := Lib.hid (by
          have h := ht.out
          rw [List.take_of_length_le (by omega), List.take_of_length_le (by omega)] at h
          rw [h]
          exact beq_self_eq_true _)
        have HW := Lib.hid hw.out
        clear hw
        generalize (w.drewN m) = w2 at *
        go_wp2_with fail
        go_ret
        exact ⟨ret_bool HV.out.symm, HW.out⟩
  · have HV : Hid ((G == H) = false) := Lib.hid (by
      rw [beq_eq_false_iff_ne]
      intro h
      exact hl (by rw [h]))
    have hq : ((G.length : Int) != (H.length : Int)) = true := by
      rw [bne_iff_ne]
      omega
    go_enter Tryd.func10, Tryd.ntmps10
    go_wp2_with fail
    go_ret
    exact ⟨ret_bool HV.out.symm, 0, rfl⟩
end Go.Proofs.YtblpooddamkfdaaDoor.R7Same

/- The row's step for a law whose row lists variables, and its card: the witness in the world that the listed data lay. -/
namespace Go.Proofs.YtblpooddamkfdaaDoor.LawCard
open Go.ChangeShapes Go.WideShapes Go.ChangeAt Go.RowKit
variable {H : Type} {enc : TypeId × Value → H}
/-- there is an input that fits: in the world that the listed data lay -/
theorem witness {C : Checked} {os : Os} {f : FuncId} {fn : Func} {s : OpenSpec} {conds : List PathCond} {apart : Bool} {laid : List (String × DataW Unit)} (args : Array Value)
    (hv : ((World.laidAll C.prog os laid).forCall (fun _ _ => 0) ⟨#[], args, []⟩).variablesZipB C.prog = true)
    (hr : (((World.laidAll C.prog os laid).forCall (fun _ _ => 0) ⟨#[], args, []⟩).heap.toList.drop C.prog.globals.size).take ((begin C.prog (fun _ _ => 0) default).world.heap.size - C.prog.globals.size) =
      (begin C.prog (fun _ _ => 0) default).world.heap.toList.drop C.prog.globals.size)
    (hok : Input.okWideB C.prog ((World.laidAll C.prog os laid).forCall (fun _ _ => 0) ⟨#[], args, []⟩) f ⟨#[], args, []⟩ = true)
    (hplain : ∀ w, laidMetH C.prog laid w = laidMet C.prog laid w)
    (hf : (World.holding C.prog os ⟨#[], #[], []⟩).layFits C.prog laid [] = true)
    (hi : (World.holding C.prog os ⟨#[], #[], []⟩).layIfaces C.prog laid (World.laidAll C.prog os laid) = true)
    {x : List (DataW H) × List (DataW H) × List MemPlace} (hx : DataW.whole enc C.prog ((World.laidAll C.prog os laid).forCall (fun _ _ => 0) ⟨#[], args, []⟩).memory fn.params.toList s.vars apart args.toList 8 = some x)
    (hconds : conds.all (PathCond.test C.prog ⟨fn.params.toList, x.1, s.bare.plain.varTypes C.prog, x.2.1⟩) = true) (hkk : ∀ k, s.cond = some k → k H (x.1 ++ x.2.1) = true)
    (hsz : s.bare.sizedB enc C.prog fn apart ((World.laidAll C.prog os laid).forCall (fun _ _ => 0) ⟨#[], args, []⟩).memory args 8 = true) :
    ∃ (w : World) (tape : Tape) (i : Input), w.os = os ∧ (w.forCall tape i).Shaped C.prog ∧ i.vars = [] ∧ Input.okWide C.prog (w.forCall tape i) .any w.heap.size f i ∧
      s.preRow enc C.prog fn conds apart laid (w.forCall tape i).memory i.args ∧ ({} : Assume).holds C.prog (lone (Frame.enter C.prog f i.args .normal) [] (w.forCall tape i)) :=
  ⟨World.laidAll C.prog os laid, fun _ _ => 0, ⟨#[], args, []⟩, World.laidAll_os _ _ _, World.shaped_of_ZipB hv hr, (Input.okWide_of_okWideB (base := 0) hok).1, (Input.okWide_of_okWideB hok).2,
    OpenSpec.preRow_of_cond 8 hx hconds hkk hsz (by rw [hplain]; exact laidMet_laidAll _ hf hi), by
    simp only [Assume.holds]
    exact ⟨by simp, by simp, fun _ => Modest.zero, by simp, by simp⟩⟩
end Go.Proofs.YtblpooddamkfdaaDoor.LawCard
