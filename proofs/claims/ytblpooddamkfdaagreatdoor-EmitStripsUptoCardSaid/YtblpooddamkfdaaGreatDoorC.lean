/- Texts of this seat, one behind another: FArg, FRow, L13Base, CutAt, HeadCut, EmitBack, EmitStripP, L13Own, R7One, R7Check, LawCard, Held, ChunkPure, HostPure, PathPure, PathForm, PathLen, PEsc, TargetPure, InflowPure, HeadFew, OutPure, OutFew. -/
import Derived.Test.YtblpooddamkfdaaGreatDoorRows
import Derived.Deep.SlicePairs
import Derived.MakeChecks
import Derived.LaidSub
import Derived.Lib.LaidTab
import Derived.Lib.IndexMore
import Derived.Outline
import Derived.LoopTactic
import Derived.Handy
import Derived.IntWalk
import Derived.Deep.QuietTactic
import Derived.BigQuiet
import Derived.Test.YtblpooddamkfdaaGreatDoorCards
import Derived.Test.YtblpooddamkfdaaGreatDoorTie
import Derived.Deep.DeepHandedRow
import Derived.Lay
import Derived.SevenTiedAt
import Derived.Test.YtblpooddamkfdaaGreatDoorA1
import Derived.Test.YtblpooddamkfdaaGreatDoorA3
import Derived.Test.YtblpooddamkfdaaGreatDoorA2
import Derived.Test.YtblpooddamkfdaaGreatDoorB1
import Derived.Test.YtblpooddamkfdaaGreatDoorB3
/- An argument that is a list of fields, of bulk at most 1048576. -/
namespace Go.Proofs.YtblpooddamkfdaaGreatDoor.FArg
open Go.ChangeShapes Go.WideShapes Go.ChangeAt Go.RowKit Go.Deep LexPure Bytes Ret Rows1 FieldsPure Flds
set_option maxRecDepth 20000
theorem plain_cell {w : World} {a : Addr} {v : Value} (h : w.cell? a = some v) : a = ⟨a.block, a.off, none⟩ := by
  obtain ⟨b, o, e⟩ := a
  cases e with
  | none => rfl
  | some e =>
    have := World.cell?_spot h
    cases this
theorem add_plain (b o i : Nat) : (⟨b, o, none⟩ : Addr).add i = ⟨b, o + i, none⟩ := by unfold Addr.add; split <;> simp_all
theorem bulk_pos {H : Type} (d : DataW H) : 1 ≤ Rows.uptoBulk d := by
  cases d with
  | lit l => cases l <;> simp [Rows.uptoBulk]
  | _ => simp [Rows.uptoBulk]
theorem bulkAll_len {H : Type} : ∀ l : List (DataW H), l.length ≤ Rows.uptoBulkAll l
  | [] => by simp [Rows.uptoBulkAll]
  | d :: r => by
    have h1 := bulk_pos d
    have h2 := bulkAll_len r
    rw [Rows.uptoBulkAll, List.length_cons]
    omega
theorem bulkAll_mem {H : Type} : ∀ (l : List (DataW H)) (d : DataW H), d ∈ l → Rows.uptoBulk d ≤ Rows.uptoBulkAll l
  | [], _, h => by cases h
  | x :: r, d, h => by
    rw [Rows.uptoBulkAll]
    rcases List.mem_cons.1 h with rfl | h
    · omega
    · have := bulkAll_mem r d h
      omega
/-- a list's value is nil, or it has an address -/
def Nice (v : Value) (n : Nat) : Prop := v = .slice none 0 0 ∨ ∃ a cap, v = .slice (some a) n cap
theorem fields_core {H : Type} {enc : TypeId × Value → H} {W : World} {v : Value} {d : DataW H} {p : List MemPlace} {fuel : Nat}
    (hf : DataW.trod enc Tryz.prog W 0 (fun _ => true) true fuel 23 [v] = some (d, p)) (hb : Rows.uptoBulk d ≤ 1048576) :
    ∃ G, FL W v G ∧ Few G ∧ G.length ≤ 1048576 ∧ Nice v G.length := by
  have he : Tryz.prog.underlying 36 = some (.struct #[(Tryz.prog.fieldsOf 36)[0]!, (Tryz.prog.fieldsOf 36)[1]!]) := by kernel_rfl
  rcases open_slice_pairs Tryz.underlying23 he (by kernel_rfl) (by kernel_rfl) (by kernel_rfl) (by kernel_rfl) (by kernel_rfl) hf with ⟨hc, hx⟩ | ⟨a, len, cap, m, n, V0, V1, D0, D1, P0, P1, hc, _, hlc, hcm, hm, hx, hi⟩
  · obtain rfl : v = .slice none 0 0 := by simpa using hc
    exact ⟨[], ⟨none, 0, rfl, Nat.zero_le _, fun h => absurd h (by simp)⟩, fun j hj => absurd hj (by simp), Nat.zero_le _, .inl rfl⟩
  · obtain rfl : v = .slice (some a) len cap := by simpa using hc
    injection hx with hd hp
    have hlm : len ≤ m := by rw [hm, if_pos rfl]; exact hlc
    have hS : ∀ i, i < m → ∃ s t : ByteArray, V0 i = .string s ∧ V1 i = .string t ∧ D0 i = .lit (.string s.data.toList) ∧ D1 i = .lit (.string t.data.toList) := fun i him => by
      obtain ⟨_, _, t0, t1⟩ := hi i him
      have u0 : Tryz.prog.underlying (Tryz.prog.fieldsOf 36)[0]!.type = some .string := by kernel_rfl
      have u1 : Tryz.prog.underlying (Tryz.prog.fieldsOf 36)[1]!.type = some .string := by kernel_rfl
      obtain ⟨s, hs, hs2, _⟩ := DataW.trod_string u0 t0
      obtain ⟨t, ht, ht2, _⟩ := DataW.trod_string u1 t1
      exact ⟨s, t, by simpa using hs, by simpa using ht, by simpa using congrArg Prod.fst hs2, by simpa using congrArg Prod.fst ht2⟩
    rw [hd, Rows.uptoBulk] at hb
    have hlen := bulkAll_len ((List.range len).map fun i => DataW.agg [D0 i, D1 i])
    rw [List.length_map, List.length_range] at hlen
    have hget : ∀ i : Nat, i < len → ∃ f : HField, V0 i = .string (ofL f.1) ∧ V1 i = .string (ofL f.2) ∧ f.1.length ≤ 1048576 ∧ f.2.length ≤ 1048576 := fun i hil => by
      obtain ⟨s, t, hs, ht, hs2, ht2⟩ := hS i (by omega)
      have hb2 := bulkAll_mem ((List.range len).map fun i => DataW.agg [D0 i, D1 i]) (.agg [D0 i, D1 i]) (List.mem_map.2 ⟨i, by simpa using hil, rfl⟩)
      rw [hs2, ht2] at hb2
      simp only [Rows.uptoBulk, Rows.uptoBulkAll] at hb2
      exact ⟨(toL s, toL t), by rw [hs, ofL_toL], by rw [ht, ofL_toL], by show s.data.toList.length ≤ _; omega, by show t.data.toList.length ≤ _; omega⟩
    let f : Nat → HField := fun i => if h : i < len then (hget i h).choose else ([], [])
    have hfs : ∀ i (h : i < len), V0 i = .string (ofL (f i).1) ∧ V1 i = .string (ofL (f i).2) ∧ (f i).1.length ≤ 1048576 ∧ (f i).2.length ≤ 1048576 := fun i h => by
      have := (hget i h).choose_spec
      simp only [f, dif_pos h]
      exact this
    refine ⟨(List.range len).map f, ⟨some a, cap, by simp, by simp; omega, fun h0 => ?_⟩, fun j hj => ?_, by simp; omega, .inr ⟨a, cap, by simp⟩⟩
    · rw [List.length_map, List.length_range] at h0
      obtain ⟨c0, _⟩ := hi 0 (by omega)
      have ha := plain_cell c0
      have hae : a = ⟨a.block, a.off, none⟩ := by
        obtain ⟨b, o, e⟩ := a
        cases e with
        | none => rfl
        | some e => simp [Addr.add] at ha
      have hblk := World.block_lt_of_cell? _ _ c0
      obtain ⟨b, o, e⟩ := a
      injection hae with _ _ e3
      subst e3
      refine ⟨b, o, rfl, by simpa [Addr.add] using hblk, fun j hj => ?_⟩
      rw [List.length_map, List.length_range] at hj
      obtain ⟨c1, c2, _⟩ := hi j (by omega)
      obtain ⟨v0, v1, _, _⟩ := hfs j hj
      rw [v0] at c1
      rw [v1] at c2
      simp only [List.getElem_map, List.getElem_range]
      rw [add_plain] at c1 c2
      exact ⟨c1, by rw [Nat.add_assoc]; exact c2⟩
    · rw [List.length_map, List.length_range] at hj
      simp only [List.getElem_map, List.getElem_range]
      exact (hfs j hj).2.2
theorem fields_arg {H : Type} {enc : TypeId × Value → H} {W : World} {base : Nat} {v : Value} {d : DataW H} {p : List MemPlace} (hv : Value.okWide Tryz.prog W .any base 23 v)
    (h : DataW.Trod enc Tryz.prog W 0 (fun _ => true) true 23 v d p) (hb : Rows.uptoBulk d ≤ 1048576) :
    ∃ G, FL W v G ∧ Few G ∧ G.length ≤ 1048576 ∧ Nice v G.length := by
  obtain ⟨a0, len, cap, rfl⟩ := okWide_slice Tryz.underlying23 hv
  obtain ⟨fuel, hf⟩ := h
  exact fields_core (by simpa [Value.cells] using hf) hb
/-- the same where each string and each slice takes what memory holds: the first form -/
theorem fields_arg_wide {H : Type} {enc : TypeId × Value → H} {W : World} {base : Nat} {v : Value} {d : DataW H} {p : List MemPlace} (hv : Value.okWide Tryz.prog W .any base 23 v)
    (h : DataW.Trod enc Tryz.prog W 0 (fun _ => true) true 23 v d p) (hb : (d.weights Tryz.prog 23).all (· ≤ reachBytes) = true) :
    ∃ G, FL W v G ∧ (∀ (j : Nat) (h : j < G.length), G[j].1.length ≤ 9223372036854775807 ∧ G[j].2.length ≤ 9223372036854775807) ∧ G.length ≤ 4398046510976 ∧ Nice v G.length := by
  obtain ⟨a0, len, cap, rfl⟩ := okWide_slice Tryz.underlying23 hv
  obtain ⟨fuel, hf⟩ := h
  have he : Tryz.prog.underlying 36 = some (.struct #[(Tryz.prog.fieldsOf 36)[0]!, (Tryz.prog.fieldsOf 36)[1]!]) := by kernel_rfl
  rcases open_slice_pairs Tryz.underlying23 he (by kernel_rfl) (by kernel_rfl) (by kernel_rfl) (by kernel_rfl) (by kernel_rfl) hf with ⟨hc, hx⟩ | ⟨a, len', cap', m, n, V0, V1, D0, D1, P0, P1, hc, _, hlc, hcm, hm, hx, hi⟩
  · have hc' : Value.slice a0 len cap = .slice none 0 0 := by simpa [Value.cells] using hc
    injection hc' with e1 e2 e3
    subst e1 e2 e3
    exact ⟨[], ⟨none, 0, rfl, Nat.zero_le _, fun h => absurd h (by simp)⟩, fun j hj => absurd hj (by simp), Nat.zero_le _, .inl rfl⟩
  · have hc' : Value.slice a0 len cap = .slice (some a) len' cap' := by simpa [Value.cells] using hc
    injection hc' with e1 e2 e3
    subst e1 e2 e3
    injection hx with hd hp
    have hlm : len ≤ m := by rw [hm, if_pos rfl]; exact hlc
    have hS : ∀ i, i < m → ∃ f : HField, V0 i = .string (ofL f.1) ∧ V1 i = .string (ofL f.2) ∧ f.1.length ≤ 9223372036854775807 ∧ f.2.length ≤ 9223372036854775807 := fun i him => by
      obtain ⟨_, _, t0, t1⟩ := hi i him
      have u0 : Tryz.prog.underlying (Tryz.prog.fieldsOf 36)[0]!.type = some .string := by kernel_rfl
      have u1 : Tryz.prog.underlying (Tryz.prog.fieldsOf 36)[1]!.type = some .string := by kernel_rfl
      obtain ⟨s, hs, _, ls⟩ := DataW.trod_string u0 t0
      obtain ⟨t, ht, _, lt⟩ := DataW.trod_string u1 t1
      unfold maxLen at ls lt
      exact ⟨(toL s, toL t), by rw [ofL_toL]; simpa using hs, by rw [ofL_toL]; simpa using ht, by rw [toL_length]; exact ls, by rw [toL_length]; exact lt⟩
    have hlen : len * 32 ≤ 140737488351232 := by
      rw [hd] at hb
      simp only [DataW.weights, Tryz.underlying23, List.all_cons, Bool.and_eq_true] at hb
      have h1 := of_decide_eq_true hb.1
      rw [show Tryz.prog.bytesOf 36 = 32 by kernel_rfl, List.length_map, List.length_range] at h1
      unfold reachBytes at h1
      omega
    let f : Nat → HField := fun i => if h : i < m then (hS i h).choose else ([], [])
    have hfs : ∀ i (h : i < m), V0 i = .string (ofL (f i).1) ∧ V1 i = .string (ofL (f i).2) ∧ (f i).1.length ≤ 9223372036854775807 ∧ (f i).2.length ≤ 9223372036854775807 := fun i h => by
      have := (hS i h).choose_spec
      simp only [f, dif_pos h]
      exact this
    refine ⟨(List.range len).map f, ⟨some a, cap, by simp, by simp; omega, fun h0 => ?_⟩, fun j hj => ?_, by simp; omega, .inr ⟨a, cap, by simp⟩⟩
    · rw [List.length_map, List.length_range] at h0
      obtain ⟨c0, _⟩ := hi 0 (by omega)
      have ha := plain_cell c0
      have hae : a = ⟨a.block, a.off, none⟩ := by
        obtain ⟨b, o, e⟩ := a
        cases e with
        | none => rfl
        | some e => simp [Addr.add] at ha
      have hblk := World.block_lt_of_cell? _ _ c0
      obtain ⟨b, o, e⟩ := a
      injection hae with _ _ e3
      subst e3
      refine ⟨b, o, rfl, by simpa [Addr.add] using hblk, fun j hj => ?_⟩
      rw [List.length_map, List.length_range] at hj
      obtain ⟨c1, c2, _⟩ := hi j (by omega)
      obtain ⟨v0, v1, _, _⟩ := hfs j (by omega)
      rw [v0] at c1
      rw [v1] at c2
      simp only [List.getElem_map, List.getElem_range]
      rw [add_plain] at c1 c2
      exact ⟨c1, by rw [Nat.add_assoc]; exact c2⟩
    · rw [List.length_map, List.length_range] at hj
      simp only [List.getElem_map, List.getElem_range]
      exact (hfs j (by omega)).2.2
theorem weightsAll_mem {H : Type} {P : Program} {e : TypeId} (q : Nat → Bool) : ∀ l : List (DataW H), (DataW.weightsAll P e l).all q = true → ∀ d ∈ l, (d.weights P e).all q = true
  | [], _, d, hd => by cases hd
  | x :: l, h, d, hd => by
    simp only [DataW.weightsAll, List.all_append, Bool.and_eq_true] at h
    rcases List.mem_cons.1 hd with rfl | hd
    · exact h.1
    · exact weightsAll_mem q l h.2 d hd
theorem fields_core_reach {H : Type} {enc : TypeId × Value → H} {W : World} {v : Value} {d : DataW H} {p : List MemPlace} {fuel : Nat}
    (hf : DataW.trod enc Tryz.prog W 0 (fun _ => true) true fuel 23 [v] = some (d, p)) (hb : (d.weights Tryz.prog 23).all (· ≤ reachBytes) = true) :
    ∃ G, FL W v G ∧ Far G ∧ G.length ≤ 4398046510976 ∧ Nice v G.length := by
  have he : Tryz.prog.underlying 36 = some (.struct #[(Tryz.prog.fieldsOf 36)[0]!, (Tryz.prog.fieldsOf 36)[1]!]) := by kernel_rfl
  rcases open_slice_pairs Tryz.underlying23 he (by kernel_rfl) (by kernel_rfl) (by kernel_rfl) (by kernel_rfl) (by kernel_rfl) hf with ⟨hc, hx⟩ | ⟨a, len, cap, m, n, V0, V1, D0, D1, P0, P1, hc, _, hlc, hcm, hm, hx, hi⟩
  · obtain rfl : v = .slice none 0 0 := by simpa using hc
    exact ⟨[], ⟨none, 0, rfl, Nat.zero_le _, fun h => absurd h (by simp)⟩, fun j hj => absurd hj (by simp), Nat.zero_le _, .inl rfl⟩
  · obtain rfl : v = .slice (some a) len cap := by simpa using hc
    injection hx with hd hp
    have hlm : len ≤ m := by rw [hm, if_pos rfl]; exact hlc
    have hall : ∀ i, i < len → ((DataW.agg [D0 i, D1 i]).weights Tryz.prog 36).all (· ≤ reachBytes) = true := fun i hil => by
      rw [hd] at hb
      simp only [DataW.weights, Tryz.underlying23, List.all_cons, Bool.and_eq_true, List.all_append] at hb
      exact weightsAll_mem _ _ hb.2.1 _ (List.mem_map.2 ⟨i, List.mem_range.2 hil, rfl⟩)
    have hS : ∀ i, i < m → ∃ f : HField, V0 i = .string (ofL f.1) ∧ V1 i = .string (ofL f.2) ∧ (i < len → f.1.length ≤ 140737488351232 ∧ f.2.length ≤ 140737488351232) := fun i him => by
      obtain ⟨_, _, t0, t1⟩ := hi i him
      have u0 : Tryz.prog.underlying (Tryz.prog.fieldsOf 36)[0]!.type = some .string := by kernel_rfl
      have u1 : Tryz.prog.underlying (Tryz.prog.fieldsOf 36)[1]!.type = some .string := by kernel_rfl
      obtain ⟨s, hs, hs2, _⟩ := DataW.trod_string u0 t0
      obtain ⟨t, ht, ht2, _⟩ := DataW.trod_string u1 t1
      have e0 : D0 i = .lit (.string s.data.toList) := by simpa using congrArg Prod.fst hs2
      have e1 : D1 i = .lit (.string t.data.toList) := by simpa using congrArg Prod.fst ht2
      refine ⟨(toL s, toL t), by rw [ofL_toL]; simpa using hs, by rw [ofL_toL]; simpa using ht, fun hil => ?_⟩
      have h := hall i hil
      rw [e0, e1] at h
      simp only [DataW.weights, he, List.map_cons, List.map_nil, DataW.weightsEach, List.all_append, List.all_cons, List.all_nil, Bool.and_true, Bool.and_eq_true] at h
      have h1 := of_decide_eq_true h.1
      have h2 := of_decide_eq_true h.2
      unfold reachBytes at h1 h2
      exact ⟨h1, h2⟩
    have hlen : len * 32 ≤ 140737488351232 := by
      rw [hd] at hb
      simp only [DataW.weights, Tryz.underlying23, List.all_cons, Bool.and_eq_true] at hb
      have h1 := of_decide_eq_true hb.1
      rw [show Tryz.prog.bytesOf 36 = 32 by kernel_rfl, List.length_map, List.length_range] at h1
      unfold reachBytes at h1
      omega
    let f : Nat → HField := fun i => if h : i < m then (hS i h).choose else ([], [])
    have hfs : ∀ i (h : i < m), V0 i = .string (ofL (f i).1) ∧ V1 i = .string (ofL (f i).2) ∧ (i < len → (f i).1.length ≤ 140737488351232 ∧ (f i).2.length ≤ 140737488351232) := fun i h => by
      have := (hS i h).choose_spec
      simp only [f, dif_pos h]
      exact this
    refine ⟨(List.range len).map f, ⟨some a, cap, by simp, by simp; omega, fun h0 => ?_⟩, fun j hj => ?_, by simp; omega, .inr ⟨a, cap, by simp⟩⟩
    · rw [List.length_map, List.length_range] at h0
      obtain ⟨c0, _⟩ := hi 0 (by omega)
      have ha := plain_cell c0
      have hae : a = ⟨a.block, a.off, none⟩ := by
        obtain ⟨b, o, e⟩ := a
        cases e with
        | none => rfl
        | some e => simp [Addr.add] at ha
      have hblk := World.block_lt_of_cell? _ _ c0
      obtain ⟨b, o, e⟩ := a
      injection hae with _ _ e3
      subst e3
      refine ⟨b, o, rfl, by simpa [Addr.add] using hblk, fun j hj => ?_⟩
      rw [List.length_map, List.length_range] at hj
      obtain ⟨c1, c2, _⟩ := hi j (by omega)
      obtain ⟨v0, v1, _⟩ := hfs j (by omega)
      rw [v0] at c1
      rw [v1] at c2
      simp only [List.getElem_map, List.getElem_range]
      rw [add_plain] at c1 c2
      exact ⟨c1, by rw [Nat.add_assoc]; exact c2⟩
    · rw [List.length_map, List.length_range] at hj
      simp only [List.getElem_map, List.getElem_range]
      exact (hfs j (by omega)).2.2 (by omega)
theorem fields_arg_reach {H : Type} {enc : TypeId × Value → H} {W : World} {base : Nat} {v : Value} {d : DataW H} {p : List MemPlace} (hv : Value.okWide Tryz.prog W .any base 23 v)
    (h : DataW.Trod enc Tryz.prog W 0 (fun _ => true) true 23 v d p) (hb : (d.weights Tryz.prog 23).all (· ≤ reachBytes) = true) :
    ∃ G, FL W v G ∧ Far G ∧ G.length ≤ 4398046510976 ∧ Nice v G.length := by
  obtain ⟨a0, len, cap, rfl⟩ := okWide_slice Tryz.underlying23 hv
  obtain ⟨fuel, hf⟩ := h
  exact fields_core_reach (by simpa [Value.cells] using hf) hb
end Go.Proofs.YtblpooddamkfdaaGreatDoor.FArg

/- A list of fields appended to a row of one's own. -/
namespace Go.Proofs.YtblpooddamkfdaaGreatDoor.FRow
open Go.ChangeShapes Go.WideShapes Go.ChangeAt Go.RowKit LexPure Bytes Ret Rows1 FieldsPure Flds KeptRow Mem
set_option maxRecDepth 20000
/-- a list's value is nil, or it has an address -/
abbrev Nice := FArg.Nice
theorem encFs_len (G : List HField) : (encFs G).length = G.length * 2 := by
  induction G with
  | nil => rfl
  | cons f G ih =>
    rw [show f :: G = [f] ++ G from rfl, encFs_append, List.length_append, ih]
    simp [encFs, encF]
    omega
theorem encFs_cells (G : List HField) : ∀ u ∈ encFs G, u.oneCell' = true := by
  intro u hu
  unfold encFs at hu
  obtain ⟨f, _, hf⟩ := List.mem_flatMap.1 hu
  unfold encF at hf
  simp only [List.mem_cons, List.not_mem_nil, or_false] at hf
  rcases hf with rfl | rfl <;> rfl
theorem encFs_get (G : List HField) (j : Nat) (u : Value) (h : (encFs G)[j]? = some u) : ∃ i, ∃ hi : i < G.length, (j = i * 2 ∧ u = .string (ofL G[i].1)) ∨ (j = i * 2 + 1 ∧ u = .string (ofL G[i].2)) := by
  have hj : j < G.length * 2 := by rw [← encFs_len]; exact (List.getElem?_eq_some_iff.1 h).1
  have hi : j / 2 < G.length := by omega
  obtain ⟨h1, h2⟩ := encFs_at G (j / 2) G[j / 2] (List.getElem?_eq_getElem hi)
  refine ⟨j / 2, hi, ?_⟩
  rcases Nat.mod_two_eq_zero_or_one j with e | e
  · have ej : j = j / 2 * 2 := by omega
    rw [← ej] at h1
    rw [h1] at h
    exact .inl ⟨ej, (Option.some.inj h).symm⟩
  · have ej : j = j / 2 * 2 + 1 := by omega
    rw [← ej] at h2
    rw [h2] at h
    exact .inr ⟨ej, (Option.some.inj h).symm⟩
set_option maxHeartbeats 800000 in
theorem run_append_list {w : World} (ty base : Nat) (v : Value) (n : Nat) (xs : List Value) (hown : w.ownsRow base 36 2 v n xs) (y : Value) (G : List HField) (hF : FL w y G) (hy : Nice y G.length)
    (h63 : n + G.length ≤ 4398046511104) (hbase : base ≤ w.heap.size) :
    ∃ v' w', (Builtin.append_ #[23, 23] ty #[v, y]).run Tryz.prog w = .ok v' w' ∧ w'.ownsRow base 36 2 v' (n + G.length) (xs ++ encFs G) ∧ w.grownBy w' v.ownBlock := by
  obtain ⟨i0, hi, hz0, hz1, hz2⟩ := info_parts infoF
  rcases hy with rfl | ⟨a, cap, rfl⟩
  · obtain ⟨p', c', hv, _, _⟩ := hF
    have hlen : G.length = 0 := by injection hv with _ h _; exact h.symm
    have hG : G = [] := List.eq_nil_of_length_eq_zero hlen
    subst hG
    exact ⟨v, w, run_append_owned_none (P := Tryz.prog) (w := w) base 23 ty 36 i0 2 Tryz.underlying23 hi v n xs hown, by simpa [encFs] using hown, World.grownBy.refl w _⟩
  · obtain ⟨p', c', hv, hle, hc⟩ := hF
    injection hv with e1 _ e3
    subst e1 e3
    obtain ⟨v', w', hr, h2, h3, _, _⟩ := run_append_own_at (P := Tryz.prog) w base 23 ty 36 i0 _ 2 32 Tryz.underlying23 hi hz0 hz1 hz2 rfl (by omega) v n xs hown a G.length cap (encFs G) (encFs_len G)
      (fun j u h => by
        obtain ⟨i, hi, hh⟩ := encFs_get G j u h
        obtain ⟨g', o', e, _, hcell⟩ := hc (by omega)
        injection e with e
        subst e
        rw [FArg.add_plain]
        rcases hh with ⟨rfl, rfl⟩ | ⟨rfl, rfl⟩
        · exact (hcell i hi).1
        · exact (hcell i hi).2) (encFs_cells G) (by unfold maxLen; omega) (by omega) hbase
    exact ⟨v', w', hr, h2, h3⟩
theorem wpList_append_list {w : World} {ops : Array Oper} {rest : List Oper} {o : Oper} {a : Act} {Q : Exit → Act → World → Prop} (hgd : o.guard = none) (s x : Operand)
    (ho : o.op = .call { callee := .builtin .append, args := #[s, x], argTypes := #[23, 23] }) (base : Nat) (v : Value) (n : Nat) (xs : List Value) (hs : a.eval s = v) (hown : w.ownsRow base 36 2 v n xs)
    (y : Value) (G : List HField) (hx : a.eval x = y) (hF : FL w y G) (hy : Nice y G.length) (h63 : n + G.length ≤ 4398046511104) (hbase : base ≤ w.heap.size)
    (h : ∀ v' w', w'.ownsRow base 36 2 v' (n + G.length) (xs ++ encFs G) → w.grownBy w' v.ownBlock → wpList Tryz.prog ops Q rest (a.put o.dst v') w') :
    wpList Tryz.prog ops Q (o :: rest) a w := by
  refine wpList_plain hgd fun K hK => ?_
  obtain ⟨v', w', hrun, r1, r2⟩ := run_append_list o.type base v n xs hown y G hF hy h63 hbase
  unfold Oper.wp execOp
  simp only [ho, resolve, invoke, builtin, Sem.run_bind, Sem.run_pure, Result.andThen_ok, List.map_toArray, List.map_cons, List.map_nil, hs, hx, hrun]
  exact hK _ _ (h v' w' r1 r2)
/-- an empty list that is no nil -/
theorem owns_none (w : World) (t : TypeId) (base : Nat) (hb : base ≤ w.heap.size) : (w.alloc (.cells #[] t)).ownsRow base t 2 (.slice (some ⟨w.heap.size, 0, none⟩) 0 0) 0 [] :=
  ⟨rfl, .inr ⟨w.heap.size, 0, #[], rfl, hb, heap_alloc_new w _, Nat.le_refl _, Nat.zero_le _, rfl, rfl⟩⟩
/-- behind 'append([]api.Field{}, l...)' -/
theorem copied {w1 w4 : World} {v4 : Value} {G : List HField} (h : w4.ownsRow w1.heap.size 36 2 v4 (0 + G.length) ([] ++ encFs G))
    (hg : (w1.alloc (.cells #[] 36)).grownBy w4 (Value.slice (some ⟨w1.heap.size, 0, none⟩) 0 0).ownBlock) :
    w4.ownsRow w1.heap.size 36 2 v4 G.length (encFs G) ∧ Below w1.heap.size w1 w4 := by
  rw [Nat.zero_add, List.nil_append] at h
  exact ⟨h, ((Below.refl _ w1).alloc (Nat.le_refl _) _).grown hg (by simp) (fun j e => by cases e; exact Nat.le_refl _)⟩
theorem fl_new (w : World) (G : List HField) (cells : List Value) (cap : Nat) (hc : cells = encFs G) (hle : G.length ≤ 4398046511104) :
    FL (w.alloc (.cells cells.toArray 36)) (.slice (some ⟨w.heap.size, 0, none⟩) G.length cap) G := by
  refine ⟨_, cap, rfl, hle, fun _ => ⟨w.heap.size, 0, rfl, by simp, fun j hj => ?_⟩⟩
  have h := (Has.new w 36 cells.toArray).cell
  obtain ⟨h1, h2⟩ := encFs_at G j G[j] (List.getElem?_eq_getElem hj)
  rw [Nat.zero_add, h, h]
  subst hc
  constructor
  · simpa using h1
  · simpa using h2
end Go.Proofs.YtblpooddamkfdaaGreatDoor.FRow

/- Layer 13's laws: the document's example, the copy of a list, strconv's table. -/
namespace Go.Proofs.YtblpooddamkfdaaGreatDoor.L13Base
open Go.ChangeShapes Go.WideShapes Go.ChangeAt Go.RowKit Bytes LexPure FieldsPure EmitPure Flds Mem PEmJoin PLib FRow KeptRow
set_option maxRecDepth 100000
set_option linter.unusedVariables false
set_option linter.unusedSimpArgs false
theorem pow_of_laid {W : World} {L : List (String × DataW Unit)} (hL : L.filter (fun x => x.1 == "internal/strconv.uint64pow10") = [("internal/strconv.uint64pow10", Rows.laid_internal_strconv_uint64pow10)]) (h0 : laidMetH Tryz.prog L W) : Pow W := by
  have h := laidMetH.filter (fun x => x.1 == "internal/strconv.uint64pow10") h0
  rw [hL, MakeChecks.laidMetH_plain _ _ _ (by kernel_rfl)] at h
  exact Lib.tabIs_of_head (g := 0) (t := 155) (e := 146) (n := 20) (by kernel_rfl) (by kernel_rfl) Tryz.underlying155 Tryz.underlying146 (by kernel_rfl) (by kernel_rfl) h
theorem said404 : localE 404 [] [110, 111] false false = [72, 84, 84, 80, 47, 49, 46, 49, 32, 52, 48, 52, 32, 78, 111, 116, 32, 70, 111, 117, 110, 100, 13, 10, 86, 105, 97, 58, 32, 49, 46, 49, 32, 98, 97, 114, 98, 105, 99, 97, 110, 13, 10, 67, 111, 110, 116, 101, 110, 116, 45, 76, 101, 110, 103, 116, 104, 58, 32, 50, 13, 10, 67, 111, 110, 110, 101, 99, 116, 105, 111, 110, 58, 32, 99, 108, 111, 115, 101, 13, 10, 13, 10, 110, 111] := by decide +kernel
theorem anchor_any (w : World) (hm : MaxInt w) (hp : Pow w) : Calls Tryz.prog 6 #[] w fun e w' => e = .returned (.bool true) ∧ Below w.heap.size w w' := by
  have H := PEmLocal.local_any 404 (.slice none 0 0) [] [110, 111] false false (by decide) (by decide) (fun j hj => absurd hj (by simp)) (by decide) (by decide) w hm hp (fl_none w)
  rw [said404] at H
  have HH := Lib.hid H
  clear H hm hp
  go_enter Tryz.func6, Tryz.ntmps6
  go_wp2_with fail
  refine HH.out.mono ?_
  rintro e w1 ⟨rfl, hb⟩
  unfold ofL
  go_wp2_with fail
  go_ret
  exact ⟨rfl, hb⟩
set_option maxHeartbeats 1600000 in
theorem copied_any (v : Value) (G : List HField) (hle : G.length ≤ 4398046511104) (hy : Nice v G.length) (w : World) (hF : FL w v G) :
    Calls Tryz.prog 12 #[v] w fun e w' => ∃ v', e = .returned v' ∧ w'.ownsRow w.heap.size 36 2 v' G.length (encFs G) ∧ Below w.heap.size w w' := by
  obtain ⟨p, cap, rfl, _, _⟩ := id hF
  have hF1 := hF.below ((Below.refl w.heap.size w).alloc (Nat.le_refl _) (.cells #[] 36))
  have hsz : w.heap.size ≤ (w.alloc (.cells #[] 36)).heap.size := by simp
  have HN := Lib.hid hy
  clear hF hy
  go_enter Tryz.func12, Tryz.ntmps12
  go_wp2_with (at_builtin; refine wpList_append_list rfl _ _ rfl w.heap.size _ 0 [] rfl (owns_none w _ _ (Nat.le_refl _)) _ G rfl hF1 HN.out (by omega) hsz ?_; intro v4 w4 hown4 hg4)
  have HR := Lib.hid (copied hown4 hg4)
  clear hown4 hg4 hF1 hsz
  go_ret
  exact ⟨_, rfl, HR.out⟩
end Go.Proofs.YtblpooddamkfdaaGreatDoor.L13Base

/- A text cut at its first byte of a kind: ahead of it, behind it. No program is named. -/
namespace Go.Proofs.YtblpooddamkfdaaGreatDoor.CutAt
open Bytes
def aheadOf (x : UInt8) (s : List UInt8) : List UInt8 := s.takeWhile (fun c => c != x)
def behind (x : UInt8) (s : List UInt8) : List UInt8 := (s.dropWhile (fun c => c != x)).tail
def hasB (x : UInt8) (s : List UInt8) : Bool := s.any (fun c => c == x)
theorem index_tail (x : UInt8) (c : UInt8) (l : List UInt8) (h : (c == x) = false) : Go.Lib.index (c :: l) [x] = if Go.Lib.index l [x] == -1 then -1 else Go.Lib.index l [x] + 1 := by
  have hp : ([x] : List UInt8).isPrefixOf (c :: l) = false := by
    have : ¬ x = c := fun e => by rw [← e, beq_self_eq_true] at h; cases h
    simp [List.isPrefixOf, this]
  rw [Go.Lib.index, hp]
  rfl
theorem cut_say (x : UInt8) (s : List UInt8) : (Go.Lib.cut s [x]).1 = aheadOf x s ∧ (Go.Lib.cut s [x]).2.1 = behind x s ∧ (Go.Lib.cut s [x]).2.2 = hasB x s := by
  unfold aheadOf behind hasB Go.Lib.cut
  induction s with
  | nil =>
    have : Go.Lib.index [] [x] = -1 := by simp [Go.Lib.index]
    rw [this]
    exact ⟨rfl, rfl, rfl⟩
  | cons c l ih =>
    by_cases hc : c = x
    · subst hc
      have hix : Go.Lib.index (c :: l) [c] = 0 := by rw [Go.Lib.index]; simp [List.isPrefixOf]
      rw [hix]
      simp
    · have hq : (c == x) = false := by simpa using hc
      have hn : (c != x) = true := by simp [hc]
      rw [index_tail x c l hq, List.takeWhile_cons, hn, List.dropWhile_cons, hn, List.any_cons, hq]
      have hge := Go.Lib.index_ge l [x]
      by_cases hm : Go.Lib.index l [x] = -1
      · rw [hm] at ih ⊢
        simp at ih ⊢
        exact ⟨ih.1, ih.2⟩
      · obtain ⟨i, hi⟩ : ∃ i : Nat, Go.Lib.index l [x] = i := ⟨(Go.Lib.index l [x]).toNat, by omega⟩
        rw [hi] at ih ⊢
        have h1 : ((i : Int) == -1) = false := beq_eq_false_iff_ne.2 (by omega)
        have h3 : ((i : Int) + 1).toNat = i + 1 := by omega
        have h4 : (0 : Int) ≤ (i : Int) + 1 := by omega
        have h5 : (0 : Int) ≤ (i : Int) := by omega
        simp only [h1, h3, h4, h5, if_true, Bool.false_eq_true, if_false, Bool.false_or] at ih ⊢
        rw [show i + 1 + ([x] : List UInt8).length = (i + [x].length) + 1 from rfl, List.take_succ_cons, List.drop_succ_cons]
        exact ⟨by rw [← ih.1]; simp, ih.2.1, ih.2.2⟩
end Go.Proofs.YtblpooddamkfdaaGreatDoor.CutAt

/- Layer 8, lines cut at blanks, at a dot, at a colon: another way to the same answers. No program is named. -/
namespace Go.Proofs.YtblpooddamkfdaaGreatDoor.HeadCut
open Bytes LexPure LexNum FieldsPure HeadPure CutAt
set_option maxRecDepth 20000
theorem cut_drop (x : UInt8) : ∀ s : List UInt8, behind x s = s.drop ((aheadOf x s).length + 1)
  | [] => rfl
  | c :: s => by
    unfold behind aheadOf
    rw [List.dropWhile_cons, List.takeWhile_cons]
    split
    · rw [List.length_cons, List.drop_succ_cons]
      exact cut_drop x s
    · rfl
theorem ahead_take (x : UInt8) : ∀ s : List UInt8, aheadOf x s = s.take (aheadOf x s).length
  | [] => rfl
  | c :: s => by
    unfold aheadOf
    rw [List.takeWhile_cons]
    split
    · rw [List.length_cons, List.take_succ_cons]
      exact congrArg _ (ahead_take x s)
    · rfl
theorem cut_at {x : UInt8} {b : List UInt8} : ∀ {a : List UInt8}, (∀ c ∈ a, c ≠ x) → aheadOf x (a ++ x :: b) = a ∧ behind x (a ++ x :: b) = b ∧ hasB x (a ++ x :: b) = true
  | [], _ => by simp [aheadOf, behind, hasB]
  | c :: a, h => by
    have hc : (c != x) = true := bne_iff_ne.2 (h c (List.mem_cons_self))
    obtain ⟨h1, h2, h3⟩ := cut_at (b := b) (a := a) (fun d hd => h d (List.mem_cons_of_mem _ hd))
    unfold aheadOf behind hasB at *
    rw [List.cons_append, List.takeWhile_cons, if_pos hc, List.dropWhile_cons, if_pos hc, List.any_cons, h1, h2, h3, Bool.or_true]
    exact ⟨rfl, rfl, rfl⟩
theorem cut_none {x : UInt8} : ∀ {a : List UInt8}, (∀ c ∈ a, c ≠ x) → aheadOf x a = a ∧ behind x a = [] ∧ hasB x a = false
  | [], _ => ⟨rfl, rfl, rfl⟩
  | c :: a, h => by
    have hc : (c != x) = true := bne_iff_ne.2 (h c (List.mem_cons_self))
    have hq : (c == x) = false := beq_eq_false_iff_ne.2 (h c (List.mem_cons_self))
    obtain ⟨h1, h2, h3⟩ := cut_none (a := a) (fun d hd => h d (List.mem_cons_of_mem _ hd))
    unfold aheadOf behind hasB at *
    rw [List.takeWhile_cons, if_pos hc, List.dropWhile_cons, if_pos hc, List.any_cons, h1, h2, h3, hq]
    exact ⟨rfl, rfl, rfl⟩
theorem cut_or (x : UInt8) : ∀ s : List UInt8, (∃ a b, s = a ++ x :: b ∧ ∀ c ∈ a, c ≠ x) ∨ (∀ c ∈ s, c ≠ x)
  | [] => .inr (fun c h => by cases h)
  | c :: s => by
    by_cases hc : c = x
    · exact .inl ⟨[], s, by rw [hc]; rfl, fun d h => by cases h⟩
    · rcases cut_or x s with ⟨a, b, h, h2⟩ | h
      · exact .inl ⟨c :: a, b, by rw [h]; rfl, fun d hd => by rcases List.mem_cons.1 hd with rfl | hd; exact hc; exact h2 d hd⟩
      · exact .inr (fun d hd => by rcases List.mem_cons.1 hd with rfl | hd; exact hc; exact h d hd)
theorem dig_digit (c : UInt8) : decide (dig c < 10) = digitB c ∧ (digitB c = true → (dig c : Int) = (c.toNat : Int) - 48 ∧ c ≠ 32) := by
  have := all_bytes (p := fun c => decide (decide (dig c < 10) = digitB c ∧ (digitB c = true → (dig c : Int) = (c.toNat : Int) - 48 ∧ c ≠ 32))) (by decide +kernel) c
  exact of_decide_eq_true this
/-! ### the version -/
theorem one_digit (f : List UInt8) : numOk 10 1 f = true ↔ ∃ a, f = [a] ∧ digitB a = true := by
  unfold numOk
  cases f with
  | nil => simp
  | cons a f =>
    cases f with
    | nil => simp [(dig_digit a).1.symm]
    | cons b f => simp; omega
theorem one_worth {a : UInt8} (h : digitB a = true) : numR 10 1 [a] = (a.toNat : Int) - 48 := by
  unfold numR
  rw [(one_digit [a]).2 ⟨a, rfl, h⟩, ← ((dig_digit a).2 h).1]
  simp [numV]
def HTTPS : List UInt8 := [72, 84, 84, 80, 47]
def verR (s : List UInt8) : List UInt8 := if HTTPS.isPrefixOf s = true then s.drop 5 else s
def verP (s : List UInt8) : Int × Int :=
  if HTTPS.isPrefixOf s = true ∧ numOk 10 1 (aheadOf 46 (verR s)) = true ∧ numOk 10 1 (behind 46 (verR s)) = true then (if numR 10 1 (aheadOf 46 (verR s)) = 1 then (numR 10 1 (behind 46 (verR s)), 0) else (0, 81)) else (0, 80)
theorem version_prog (s : List UInt8) : version8 s = verP s := by
  by_cases h : HTTPS.isPrefixOf s = true ∧ numOk 10 1 (aheadOf 46 (verR s)) = true ∧ numOk 10 1 (behind 46 (verR s)) = true
  · have hv : verR s = s.drop 5 := by unfold verR; rw [if_pos h.1]
    unfold verP
    rw [if_pos h]
    rw [hv] at h ⊢
    obtain ⟨h1, h2, h3⟩ := h
    obtain ⟨a, e2, d2⟩ := (one_digit _).1 h2
    obtain ⟨b, e3, d3⟩ := (one_digit _).1 h3
    obtain ⟨t, ht⟩ := List.isPrefixOf_iff_prefix.1 h1
    have hs : s = HTTPS ++ [a, 46, b] := by
      rw [← ht] at e2 e3 ⊢
      have hd : (HTTPS ++ t).drop 5 = t := rfl
      rw [hd] at e2 e3
      rcases cut_or 46 t with ⟨x, y, hxy, hx⟩ | hx
      · have := cut_at (b := y) hx
        rw [← hxy] at this
        rw [hxy, ← this.1, ← this.2.1, e2, e3]
        rfl
      · rw [(cut_none hx).2.1] at e3
        cases e3
    rw [e2, e3, one_worth d2, one_worth d3, hs]
    show (if _ then _ else _) = _
    rw [if_pos ⟨rfl, rfl, rfl, rfl, rfl, rfl, d2, d3⟩]
    by_cases h1 : a = 49
    · subst h1
      rw [if_pos rfl, if_pos (by decide)]
    · rw [if_neg h1, if_neg]
      intro h
      exact h1 (UInt8.toNat_inj.1 (by show a.toNat = 49; omega))
  · unfold verP
    rw [if_neg h]
    unfold version8
    split
    · rename_i c1 c2 c3 c4 c5 a c6 b
      rw [if_neg]
      rintro ⟨rfl, rfl, rfl, rfl, rfl, rfl, d2, d3⟩
      refine h ⟨rfl, ?_⟩
      have hv : verR [72, 84, 84, 80, 47, a, 46, b] = [a] ++ 46 :: [b] := by
        unfold verR
        rw [if_pos (show HTTPS.isPrefixOf [72, 84, 84, 80, 47, a, 46, b] = true from rfl)]
        rfl
      have ha : ∀ c ∈ [a], c ≠ 46 := by
        intro c hc
        rw [List.mem_singleton] at hc
        subst hc
        intro e
        subst e
        exact absurd d2 (by decide)
      obtain ⟨e1, e2, _⟩ := cut_at (b := [b]) ha
      rw [hv, e1, e2]
      exact ⟨(one_digit _).2 ⟨a, rfl, d2⟩, (one_digit _).2 ⟨b, rfl, d3⟩⟩
    · rfl
/-- a version of its form has eight bytes and no blank -/
theorem version_form {s : List UInt8} (h : (version8 s).2 ≠ 80) : s.length = 8 ∧ ∀ c ∈ s, c ≠ 32 := by
  unfold version8 at h
  split at h
  · rename_i c1 c2 c3 c4 c5 a c6 b
    by_cases hc : c1 = 72 ∧ c2 = 84 ∧ c3 = 84 ∧ c4 = 80 ∧ c5 = 47 ∧ c6 = 46 ∧ digitB a = true ∧ digitB b = true
    · obtain ⟨rfl, rfl, rfl, rfl, rfl, rfl, d2, d3⟩ := hc
      refine ⟨rfl, ?_⟩
      have ha := ((dig_digit a).2 d2).2
      have hb := ((dig_digit b).2 d3).2
      intro c hc
      simp only [List.mem_cons, List.not_mem_nil, or_false] at hc
      rcases hc with rfl | rfl | rfl | rfl | rfl | rfl | rfl | rfl <;> first | exact ha | exact hb | decide
    · rw [if_neg hc] at h
      exact absurd rfl h
  · exact absurd rfl h
theorem version_nil : version8 [] = (0, 80) := rfl
/-! ### the start line -/
def startP (l : List UInt8) : H8 × Int :=
  if (aheadOf 32 l).length ≤ 16 ∧ token (aheadOf 32 l) = true ∧ (aheadOf 32 (behind 32 l)).all seenB = true ∧ aheadOf 32 (behind 32 l) ≠ [] then
    (if (version8 (behind 32 (behind 32 l))).2 = 0 then (⟨aheadOf 32 l, aheadOf 32 (behind 32 l), 0, [], (version8 (behind 32 (behind 32 l))).1, []⟩, 0) else (zero8, (version8 (behind 32 (behind 32 l))).2))
  else (zero8, 80)
theorem start_prog (l : List UInt8) : start8 l = startP l := by
  unfold start8 startP
  rw [show upB l = aheadOf 32 l from rfl, ← cut_drop]
  generalize hr : behind 32 l = r
  simp only
  rw [show upB r = aheadOf 32 r from rfl, ← cut_drop]
  have hlr : (aheadOf 32 l).length < l.length ∨ r = [] := by
    rw [← hr, cut_drop]
    rcases Nat.lt_or_ge (aheadOf 32 l).length l.length with h | h
    · exact .inl h
    · exact .inr (List.drop_eq_nil_of_le (by omega))
  have hlv : (aheadOf 32 r).length < r.length ∨ version8 (behind 32 r) = (0, 80) := by
    rcases Nat.lt_or_ge (aheadOf 32 r).length r.length with h | h
    · exact .inl h
    · exact .inr (by rw [cut_drop, List.drop_eq_nil_of_le (by omega)]; rfl)
  have hpos : 0 < (aheadOf 32 r).length ↔ aheadOf 32 r ≠ [] := List.length_pos_iff
  by_cases h1 : (aheadOf 32 l).length ≤ 16 ∧ token (aheadOf 32 l) = true ∧ (aheadOf 32 r).all seenB = true ∧ aheadOf 32 r ≠ []
  · rw [if_pos h1]
    obtain ⟨a1, a2, a3, a4⟩ := h1
    have hl : (aheadOf 32 l).length < l.length := by
      rcases hlr with h | h
      · exact h
      · rw [h] at a4; exact absurd rfl a4
    rw [if_pos (show (aheadOf 32 l).length < l.length ∧ (aheadOf 32 l).length ≤ 16 ∧ token (aheadOf 32 l) = true from ⟨hl, a1, a2⟩)]
    rcases hlv with h | h
    · rw [if_pos (show (aheadOf 32 r).length < r.length ∧ 0 < (aheadOf 32 r).length ∧ (aheadOf 32 r).all seenB = true from ⟨h, hpos.2 a4, a3⟩)]
    · rw [h]
      simp
  · rw [if_neg h1]
    by_cases h2 : (aheadOf 32 l).length < l.length ∧ (aheadOf 32 l).length ≤ 16 ∧ token (aheadOf 32 l) = true
    · rw [if_pos h2, if_neg]
      rintro ⟨_, b2, b3⟩
      exact h1 ⟨h2.2.1, h2.2.2, b3, hpos.1 b2⟩
    · rw [if_neg h2]
/-! ### the status line -/
theorem plain_blank (c : UInt8) (h : blankB c = true) : plainB c = true := by
  have := all_bytes (p := fun c => !blankB c || plainB c) (by decide +kernel) c
  rw [h] at this
  simpa using this
theorem drop_plain (s : List UInt8) : (s.dropWhile blankB).all plainB = s.all plainB := by
  induction s with
  | nil => rfl
  | cons c s ih =>
    rw [List.dropWhile_cons]
    split
    · rename_i h
      rw [ih, List.all_cons, plain_blank c h, Bool.true_and]
    · rfl
theorem trim_plain (s : List UInt8) : (trim s).all plainB = s.all plainB := by
  unfold trim
  rw [List.all_reverse, drop_plain, List.all_reverse, drop_plain]
theorem value_trim' (s : List UInt8) : value (trim s) = s.all plainB := by
  unfold value
  rw [trim_plain]
  cases h : s.all plainB with
  | false => rfl
  | true =>
    rw [Bool.true_and]
    cases ht : trim s with
    | nil => rfl
    | cons c r =>
      have h1 : blankB c = false := trim_head c r ht
      have h2 : blankB ((c :: r).getLastD 0) = false := by
        rw [List.getLastD_eq_getLast?, ← List.head?_reverse]
        cases hr : (c :: r).reverse with
        | nil => simp at hr
        | cons d t =>
          exact trim_last d t (by rw [ht]; exact hr)
      rw [List.headD_cons, h1, h2]
      rfl
def statusP (l : List UInt8) : H8 × Int :=
  if numOk 10 3 (aheadOf 32 (behind 32 l)) = true ∧ 100 ≤ numR 10 3 (aheadOf 32 (behind 32 l)) ∧ numR 10 3 (aheadOf 32 (behind 32 l)) ≤ 599 ∧ (behind 32 (behind 32 l)).all plainB = true then
    (if (version8 (aheadOf 32 l)).2 = 0 then (⟨[], [], numR 10 3 (aheadOf 32 (behind 32 l)), behind 32 (behind 32 l), (version8 (aheadOf 32 l)).1, []⟩, 0) else (zero8, (version8 (aheadOf 32 l)).2))
  else (zero8, 80)
theorem three_digits {d : List UInt8} (h : numOk 10 3 d = true) (h1 : 100 ≤ numR 10 3 d) : d.length = 3 := by
  unfold numR at h1
  rw [if_pos h] at h1
  unfold numOk at h
  simp only [Bool.and_eq_true, decide_eq_true_eq] at h
  obtain ⟨⟨h2, h3⟩, h4⟩ := h
  have hlt := numV_lt 10 d h4
  rcases (show d.length = 0 ∨ d.length = 1 ∨ d.length = 2 ∨ d.length = 3 by omega) with e | e | e | e
  · rw [e] at hlt; omega
  · rw [e] at hlt; omega
  · rw [e] at hlt; omega
  · exact e
theorem ok_bare {d : List UInt8} (h : numOk 10 3 d = true) : ∀ c ∈ d, c ≠ 32 := by
  unfold numOk at h
  simp only [Bool.and_eq_true] at h
  intro c hc
  have := List.all_eq_true.1 h.2 c hc
  rw [(dig_digit c).1] at this
  exact ((dig_digit c).2 this).2
theorem status_prog (l : List UInt8) : status8 l = statusP l := by
  by_cases hC : 12 ≤ l.length ∧ l[8]? = some 32 ∧ numOk 10 3 ((l.drop 9).take 3) = true ∧ 100 ≤ numR 10 3 ((l.drop 9).take 3) ∧ numR 10 3 ((l.drop 9).take 3) < 600 ∧ (l.length = 12 ∨ l[12]? = some 32) ∧ (l.drop 13).all plainB = true
  · have e8 : status8 l = if (version8 (l.take 8)).2 = 0 then (⟨[], [], numR 10 3 ((l.drop 9).take 3), l.drop 13, (version8 (l.take 8)).1, []⟩, 0) else (zero8, (version8 (l.take 8)).2) := by
      unfold status8
      rw [if_pos hC]
    rw [e8]
    obtain ⟨c1, c2, c3, c4, c5, c6, c7⟩ := hC
    have hl8 : l = l.take 8 ++ 32 :: l.drop 9 := by
      have h8 : 8 < l.length := by omega
      rw [List.getElem?_eq_getElem h8] at c2
      injection c2 with c2
      rw [← c2, ← List.drop_eq_getElem_cons h8, List.take_append_drop]
    by_cases hv : (version8 (l.take 8)).2 = 80
    · -- the version isn't of its form
      rw [hv, if_neg (by decide)]
      unfold statusP
      by_cases hp : numOk 10 3 (aheadOf 32 (behind 32 l)) = true ∧ 100 ≤ numR 10 3 (aheadOf 32 (behind 32 l)) ∧ numR 10 3 (aheadOf 32 (behind 32 l)) ≤ 599 ∧ (behind 32 (behind 32 l)).all plainB = true
      · rw [if_pos hp]
        have hv2 : (version8 (aheadOf 32 l)).2 = 80 := by
          rcases Decidable.em ((version8 (aheadOf 32 l)).2 = 80) with h | h
          · exact h
          · exfalso
            obtain ⟨f1, f2⟩ := version_form h
            have : aheadOf 32 l = l.take 8 := by rw [ahead_take, f1]
            rw [this] at h
            exact h hv
        rw [hv2, if_neg (by decide)]
      · rw [if_neg hp]
    · obtain ⟨_, f2⟩ := version_form hv
      obtain ⟨g1, g2, _⟩ := cut_at (b := l.drop 9) f2
      rw [← hl8] at g1 g2
      have h9 : l.drop 9 = (l.drop 9).take 3 ++ l.drop 12 := by
        conv => lhs; rw [← List.take_append_drop 3 (l.drop 9), List.drop_drop]
      have hb := ok_bare c3
      have hd : aheadOf 32 (l.drop 9) = (l.drop 9).take 3 ∧ behind 32 (l.drop 9) = l.drop 13 := by
        rcases c6 with h | h
        · have e12 : l.drop 12 = [] := List.drop_eq_nil_of_le (by omega)
          have e13 : l.drop 13 = [] := List.drop_eq_nil_of_le (by omega)
          have := cut_none hb
          rw [e12, List.append_nil] at h9
          rw [← h9] at this
          rw [e13, ← h9]
          exact ⟨this.1, this.2.1⟩
        · have h12 : 12 < l.length := by
            rcases Nat.lt_or_ge 12 l.length with h2 | h2
            · exact h2
            · rw [List.getElem?_eq_none h2] at h; cases h
          have e12 : l.drop 12 = 32 :: l.drop 13 := by
            rw [List.getElem?_eq_getElem h12] at h
            injection h with h
            rw [← h, ← List.drop_eq_getElem_cons h12]
          have := cut_at (b := l.drop 13) hb
          rw [← e12, ← h9] at this
          exact ⟨this.1, this.2.1⟩
      unfold statusP
      rw [g2, hd.1, hd.2, g1, if_pos (show numOk 10 3 ((l.drop 9).take 3) = true ∧ 100 ≤ numR 10 3 ((l.drop 9).take 3) ∧ numR 10 3 ((l.drop 9).take 3) ≤ 599 ∧ (l.drop 13).all plainB = true from ⟨c3, c4, by omega, c7⟩)]
  · have e8 : status8 l = (zero8, 80) := by
      unfold status8
      rw [if_neg hC]
    rw [e8]
    unfold statusP
    by_cases hp : numOk 10 3 (aheadOf 32 (behind 32 l)) = true ∧ 100 ≤ numR 10 3 (aheadOf 32 (behind 32 l)) ∧ numR 10 3 (aheadOf 32 (behind 32 l)) ≤ 599 ∧ (behind 32 (behind 32 l)).all plainB = true
    · rw [if_pos hp]
      rcases Decidable.em ((version8 (aheadOf 32 l)).2 = 80) with h | h
      · rw [h, if_neg (by decide)]
      · exfalso
        obtain ⟨f1, f2⟩ := version_form h
        obtain ⟨p1, p2, p3, p4⟩ := hp
        have h3 := three_digits p1 p2
        rcases cut_or 32 l with ⟨a, b, hab, ha⟩ | ha
        · obtain ⟨g1, g2, _⟩ := cut_at (b := b) ha
          rw [← hab] at g1 g2
          rw [g1] at f1
          have hb : b = l.drop 9 := by rw [hab, List.drop_append, f1, List.drop_eq_nil_of_le (by omega)]; rfl
          have hl8 : l[8]? = some 32 := by rw [hab, List.getElem?_append_right (by omega), f1]; rfl
          rw [g2] at p1 p2 p3 p4 h3
          have hbl : l.length = 9 + b.length := by rw [hab, List.length_append, List.length_cons]; omega
          rcases cut_or 32 b with ⟨x, y, hxy, hx⟩ | hx
          · obtain ⟨k1, k2, _⟩ := cut_at (b := y) hx
            rw [← hxy] at k1 k2
            rw [k1] at p1 p2 p3 h3
            rw [k2] at p4
            have e1 : (l.drop 9).take 3 = x := by rw [← hb, hxy, ← h3, List.take_left']; rfl
            have e2 : l.drop 13 = y := by
              rw [show l.drop 13 = (l.drop 9).drop 4 by rw [List.drop_drop], ← hb, hxy, List.drop_append, h3, List.drop_eq_nil_of_le (by omega)]
              rfl
            have e3 : l[12]? = some 32 := by
              rw [show l[12]? = (l.drop 9)[3]? by rw [List.getElem?_drop], ← hb, hxy, List.getElem?_append_right (by omega), h3]
              rfl
            refine hC ⟨?_, hl8, by rw [e1]; exact p1, by rw [e1]; exact p2, by rw [e1]; omega, .inr e3, by rw [e2]; exact p4⟩
            rw [hbl, hxy, List.length_append]
            omega
          · obtain ⟨k1, k2, _⟩ := cut_none hx
            rw [k1] at p1 p2 p3 h3
            have e1 : (l.drop 9).take 3 = b := by rw [← hb, List.take_of_length_le (by omega)]
            have e2 : l.drop 13 = [] := List.drop_eq_nil_of_le (by omega)
            exact hC ⟨by omega, hl8, by rw [e1]; exact p1, by rw [e1]; exact p2, by rw [e1]; omega, .inl (by omega), by rw [e2]; rfl⟩
        · rw [(cut_none ha).2.1] at h3
          cases h3
    · rw [if_neg hp]
/-! ### a field's line -/
def fieldP (l : List UInt8) : HField × Int :=
  if hasB 58 l = true ∧ token (aheadOf 58 l) = true ∧ value (trim (behind 58 l)) = true then ((aheadOf 58 l, trim (behind 58 l)), 0) else (([], []), 70)
theorem field_prog (l : List UInt8) : field8 l = fieldP l := by
  unfold field8 fieldP
  rw [show nameB l = aheadOf 58 l from rfl, ← cut_drop]
  have : (aheadOf 58 l).length < l.length ↔ hasB 58 l = true := by
    rcases cut_or 58 l with ⟨a, b, hab, ha⟩ | ha
    · obtain ⟨g1, _, g3⟩ := cut_at (b := b) ha
      rw [← hab] at g1 g3
      rw [g1, g3, hab, List.length_append, List.length_cons]
      constructor
      · intro; rfl
      · intro; omega
    · obtain ⟨g1, _, g3⟩ := cut_none ha
      rw [g1, g3]
      constructor
      · intro h; omega
      · intro h; cases h
  simp only [this]
end Go.Proofs.YtblpooddamkfdaaGreatDoor.HeadCut

/- Layer 13: how what is written is framed: which fields are there, how often, and what they say. No program is named. -/
namespace Go.Proofs.YtblpooddamkfdaaGreatDoor.EmitBack
open Bytes LexPure LexNum FieldsPure HeadPure HeadWrit HeadCut HeadLines DecN FramePure EmitPure
set_option maxRecDepth 20000
/-! ### how often a field is there -/
theorem getN_cons (f : HField) (G : List HField) (n : List UInt8) : getN (f :: G) n = (if hit n f then 1 else 0) + getN G n := by
  unfold getN
  rw [List.countP_cons]
  omega
theorem getN_nil (n : List UInt8) : getN [] n = 0 := rfl
theorem getN_told (G : List HField) (n : List UInt8) : getN (G.map EmitPure.told) n = getN G n := by
  unfold getN
  rw [List.countP_map]
  rfl
theorem skip_congr {req : Bool} {n m : List UInt8} (h : alike n m = true) : skipE req n = skipE req m := by
  have hc : ∀ x, alike n x = alike m x := fun x => by
    unfold alike
    rw [(alike_iff n m).1 h]
  unfold skipE
  rw [hc, hc, hc, hc, hc]
/-- a name that is left out, or concerns one connection alone, is not told on -/
theorem on_none {req : Bool} {l : List HField} {n : List UInt8} (h : one l n = true ∨ skipE req n = true) : getN (onE req l) n = 0 := by
  unfold getN
  rw [List.countP_eq_zero]
  intro f hf hh
  unfold onE strip at hf
  rw [List.mem_filter, List.mem_filter] at hf
  obtain ⟨⟨_, h1⟩, h2⟩ := hf
  have ha : alike f.1 n = true := hh
  rcases h with h | h
  · rw [one_congr ha, h] at h1
    cases h1
  · rw [skip_congr ha, h] at h2
    cases h2
theorem one_low {l : List HField} {n : List UInt8} (h : fixed.any (fun x => alike x n) = true) : one l n = true := by unfold one; rw [h]; rfl
theorem on_te (req : Bool) (l : List HField) : getN (onE req l) TENC = 0 := on_none (.inl (one_low (by decide)))
theorem on_cl (req : Bool) (l : List HField) : getN (onE req l) CLEN = 0 := on_none (.inr (by cases req <;> decide))
theorem on_conn (req : Bool) (l : List HField) : getN (onE req l) CONNECTION = 0 := on_none (.inl (one_low (by decide)))
theorem on_via (req : Bool) (l : List HField) : getN (onE req l) VIAN = 0 := on_none (.inr (by cases req <;> decide))
theorem on_host (l : List HField) : getN (onE true l) HOSTN = 0 := on_none (.inr (by decide))
theorem on_exp (l : List HField) : getN (onE true l) EXPN = 0 := on_none (.inr (by decide))
theorem on_xff (l : List HField) : getN (onE true l) XFFN = 0 := on_none (.inr (by decide))
theorem on_up (req : Bool) (l : List HField) : getN (onE req l) UPN = 0 := on_none (.inl (one_low (by decide)))
/-! ### elements and lengths where a field is there not at all, or once -/
theorem filter_none {G : List HField} {n : List UInt8} (h : getN G n = 0) : G.filter (hit n) = [] := by
  unfold getN at h
  rw [List.countP_eq_length_filter] at h
  exact List.eq_nil_of_length_eq_zero h
theorem elems_append (a b : List HField) (n : List UInt8) : elems (a ++ b) n = elems a n ++ elems b n := by
  unfold elems
  rw [List.filter_append, List.flatMap_append]
theorem elems_none {G : List HField} {n : List UInt8} (h : getN G n = 0) : elems G n = [] := by
  unfold elems
  rw [filter_none h]
  rfl
theorem lens_append (a b : List HField) : lens (a ++ b) = lens a ++ lens b := by
  unfold lens
  rw [List.filter_append, List.flatMap_append]
theorem lens_none {G : List HField} (h : getN G CLEN = 0) : lens G = [] := by
  unfold lens
  rw [filter_none h]
  rfl
theorem len_said {n : Nat} (h : n < 1000000000000000) : lenFrom (-1) [decN n] = n := by
  obtain ⟨h1, h2⟩ := dec_num h
  unfold lenFrom lenStep
  rw [if_pos ⟨h1, .inl (by omega)⟩]
  exact h2
/-! ### a reply with its length -/
/-- what stands behind Via in a reply that is framed by its length and asks for no upgrade -/
def restR (n : Nat) (keep : Bool) : List HField := (CLN, decN n) :: (if keep then [] else [(CONN, CLOSEV)])
theorem replyF_local (status : Int) (reason : List UInt8) (l : List HField) (n : Nat) (keep : Bool) :
    replyF ⟨status, reason, l, 2, n, keep, []⟩ = onE false l ++ ((VIAN, joinV l VIAN BARB) :: restR n keep) := by
  unfold replyF restR decZ
  have e1 : ¬ ((n : Int) < 0) := by omega
  simp only [if_true, if_false, show ¬ ((2 : Int) = 3) from by decide, List.nil_append, e1, Int.natAbs_natCast]
  rfl
theorem trim_dec (n : Nat) : trim (decN n) = decN n := dec_trim n
theorem reply_frame (l : List HField) (x : List UInt8) {n : Nat} (hn : n < 1000000000000000) (keep : Bool) :
    getN ((onE false l ++ ((VIAN, x) :: restR n keep)).map EmitPure.told) TENC = 0 ∧ getN ((onE false l ++ ((VIAN, x) :: restR n keep)).map EmitPure.told) CLEN = 1 ∧
    lenN ((onE false l ++ ((VIAN, x) :: restR n keep)).map EmitPure.told) = n ∧ keep9 1 ((onE false l ++ ((VIAN, x) :: restR n keep)).map EmitPure.told) = keep := by
  have hT : getN (onE false l) TENC = 0 := on_te _ _
  have hC : getN (onE false l) CLEN = 0 := on_cl _ _
  have hN : getN (onE false l) CONNECTION = 0 := on_conn _ _
  have t1 : ∀ m, getN ((VIAN, x) :: restR n keep) m = (if alike VIAN m then 1 else 0) + ((if alike CLN m then 1 else 0) + (if keep then 0 else if alike CONN m then 1 else 0)) := fun m => by
    unfold restR
    rw [getN_cons, getN_cons]
    cases keep with
    | true => simp [hit, getN_nil]; rfl
    | false => simp [hit, getN_cons, getN_nil]; rfl
  refine ⟨?_, ?_, ?_, ?_⟩
  · rw [getN_told, getN_append, hT, t1, show alike VIAN TENC = false from by decide, show alike CLN TENC = false from by decide, show alike CONN TENC = false from by decide]
    cases keep <;> rfl
  · rw [getN_told, getN_append, hC, t1, show alike VIAN CLEN = false from by decide, show alike CLN CLEN = true from by decide, show alike CONN CLEN = false from by decide]
    cases keep <;> rfl
  · unfold lenN
    rw [List.map_append, lens_append, lens_none (by rw [getN_told]; exact hC), List.nil_append, List.map_cons, lens_cons]
    rw [if_neg (by show ¬ alike VIAN CLEN = true; decide)]
    unfold restR
    rw [List.map_cons, lens_cons, if_pos (by show alike CLN CLEN = true; decide)]
    have e : lens ((if keep then [] else [(CONN, CLOSEV)] : List HField).map EmitPure.told) = [] := by
      cases keep with
      | true => rfl
      | false => exact lens_none (by rw [getN_told]; decide)
    rw [e, List.append_nil]
    show lenFrom (-1) ((pieces (trim (decN n))).map trim) = _
    rw [trim_dec, dec_pieces]
    show lenFrom (-1) [trim (decN n)] = _
    rw [trim_dec, len_said hn]
  · have e : elems ((onE false l ++ ((VIAN, x) :: restR n keep)).map EmitPure.told) CONNECTION = if keep then [] else [CLOSEV] := by
      rw [List.map_append, elems_append, elems_none (by rw [getN_told]; exact hN), List.nil_append, List.map_cons]
      have e2 : ∀ (f : HField) (G : List HField), hit CONNECTION f = false → elems (f :: G) CONNECTION = elems G CONNECTION := fun f G hf => by
        unfold elems
        rw [List.filter_cons_of_neg (by rw [hf]; decide)]
      rw [e2 _ _ (by show alike VIAN CONNECTION = false; decide)]
      unfold restR
      rw [List.map_cons, e2 _ _ (by show alike CLN CONNECTION = false; decide)]
      cases keep with
      | true => rfl
      | false => decide
    unfold keep9 hasE
    rw [e]
    cases keep with
    | true => rfl
    | false => decide
/-- how a client takes it -/
theorem reply_response (l : List HField) (x : List UInt8) {n : Nat} (hn : n < 1000000000000000) (keep : Bool) {status : Int} (h1 : 200 ≤ status) (h2 : status ≠ 204) (h3 : status ≠ 304) :
    response9 [71, 69, 84] status 1 ((onE false l ++ ((VIAN, x) :: restR n keep)).map EmitPure.told) = (2, (n : Int), 0) ∧
    response9 [72, 69, 65, 68] status 1 ((onE false l ++ ((VIAN, x) :: restR n keep)).map EmitPure.told) = (1, 0, 0) := by
  obtain ⟨t1, t2, t3, _⟩ := reply_frame l x hn keep
  constructor
  · unfold response9
    rw [if_neg (by omega), if_neg (by omega), if_neg (fun h => absurd h.1 (by decide)), if_neg (by decide), t1, if_neg (by omega), t2, if_neg (by decide), t3, if_neg (by omega)]
  · unfold response9
    rw [if_neg (by omega), if_neg (by omega), if_neg (fun h => absurd h.1 (by decide)), if_pos rfl]
/-! ### a head that is written is read -/
theorem plain_not (c : UInt8) (h : plainB c = true) : c ≠ 10 ∧ c ≠ 13 := by
  constructor
  · rintro rfl
    exact absurd h (by decide)
  · rintro rfl
    exact absurd h (by decide)
theorem dec_plain (n : Nat) : ∀ c ∈ decN n, plainB c = true := fun c hc => (dec_byte c (decN_all n c hc).2).1
theorem status_len {n : Nat} (h1 : 100 ≤ n) (h2 : n < 600) (x : List UInt8) : (statusL n x).length = 13 + x.length := by
  unfold statusL decZ
  rw [if_neg (by omega), Int.natAbs_natCast, decN_three h1 (by omega)]
  simp only [List.length_append, List.length_cons, List.length_nil]
  omega
theorem status_bare {n : Nat} {x : List UInt8} (hx : x.all plainB = true) : bare (statusL n x) := by
  intro c hc
  refine plain_not c ?_
  unfold statusL decZ at hc
  rw [if_neg (by omega), Int.natAbs_natCast] at hc
  rcases List.mem_append.1 hc with q | q
  · exact List.all_eq_true.1 (show ([72, 84, 84, 80, 47, 49, 46, 49, 32] : List UInt8).all plainB = true by decide) c q
  rcases List.mem_append.1 q with q | q
  · exact dec_plain n c q
  rcases List.mem_cons.1 q with q | q
  · rw [q]
    decide
  · exact List.all_eq_true.1 hx c q
theorem head_back {n : Nat} (h1 : 100 ≤ n) (h2 : n < 600) {x : List UInt8} (hx : x.all plainB = true) (hl : x.length ≤ 1000) {G : List HField} (hG : G.length ≤ 32) (hf : ∀ f ∈ G, EmitPure.Fair f) (s : List UInt8) :
    read8 true (statusL n x ++ 13 :: 10 :: (G.flatMap lineE ++ 13 :: 10 :: s)) = .done ⟨[], [], n, x, 1, G.map EmitPure.told⟩ ((statusL n x).length + 2 + (G.flatMap lineE).length + 2) := by
  have hsl := status_len h1 h2 x
  unfold read8 skipOf
  simp only [if_true, List.drop_zero]
  unfold from8
  rw [scan_line 1100 82 _ _ 0 (status_bare hx) (.inr (by omega))]
  simp only [Nat.zero_add, if_true]
  have e3 : (statusL n x ++ 13 :: 10 :: (G.flatMap lineE ++ 13 :: 10 :: s)).take (statusL n x).length = statusL n x := List.take_left
  have e4 : (statusL n x ++ 13 :: 10 :: (G.flatMap lineE ++ 13 :: 10 :: s)).drop ((statusL n x).length + 2) = G.flatMap lineE ++ 13 :: 10 :: s := by
    rw [← List.drop_drop, List.drop_left]
    rfl
  rw [e3, e4, status_back h1 h2 hx, if_pos rfl, lines_back _ s G 32 [] _ hG hf, List.nil_append]
theorem reason_plain (s : Int) : (reasonL s).all plainB = true ∧ (reasonL s).length ≤ 31 ∧ reasonL s ≠ [] := by
  have hp : ∀ p ∈ phrases, p.2.all plainB = true ∧ p.2.length ≤ 31 ∧ p.2 ≠ [] := by decide
  unfold reasonL
  cases h : phrases.find? (fun p => p.1 == s) with
  | none => decide
  | some p => exact hp p (List.mem_of_find?_eq_some h)
/-! ### fields that can be written -/
theorem fair_of {n x : List UInt8} (ht : token n = true) (hx : x.all plainB = true) (hl : n.length + x.length ≤ 510) : EmitPure.Fair (n, x) :=
  ⟨ht, by rw [value_trim']; exact hx, fun c hc => plain_not c (List.all_eq_true.1 hx c hc), hl⟩
theorem right_plain {f : HField} (h : right f = true) : token f.1 = true ∧ f.2.all plainB = true := by
  unfold right value at h
  simp only [Bool.and_eq_true] at h
  exact ⟨h.1.1, h.1.2.1⟩
theorem joined_one {l : List HField} {n s : List UInt8} (h1 : getN l n ≤ 1) (hr : ∀ f ∈ l, right f = true) (hl : ∀ f ∈ l, f.1.length + f.2.length ≤ 200) (hs : s.all plainB = true) :
    (joinV l n s).all plainB = true ∧ (joinV l n s).length ≤ 202 + s.length := by
  unfold joinV
  unfold getN at h1
  rw [List.countP_eq_length_filter] at h1
  match hq : l.filter (hit n), h1 with
  | [], _ => exact ⟨by simpa using hs, by simp⟩
  | [f], _ =>
    have hf : f ∈ l := (List.mem_filter.1 (by rw [hq]; exact List.mem_singleton.2 rfl : f ∈ l.filter (hit n))).1
    have hp := (right_plain (hr f hf)).2
    have hz := hl f hf
    simp only [List.flatMap_cons, List.flatMap_nil, List.append_nil, List.all_append, List.length_append, List.length_cons, List.length_nil, hp, hs]
    exact ⟨by decide, by omega⟩
theorem on_mem {req : Bool} {l : List HField} {f : HField} (h : f ∈ onE req l) : f ∈ l := by
  unfold onE strip at h
  exact (List.mem_filter.1 (List.mem_filter.1 h).1).1
theorem on_len (req : Bool) (l : List HField) : (onE req l).length ≤ l.length := by
  unfold onE strip
  exact Nat.le_trans (List.length_filter_le _ _) (List.length_filter_le _ _)
theorem dec_len15 {n : Nat} (h : n < 1000000000000000) : (decN n).length ≤ 15 := decN_len 14 n (by omega)
theorem reply_fair {l : List HField} (h1 : getN l VIAN ≤ 1) (hr : ∀ f ∈ l, right f = true) (hl : ∀ f ∈ l, f.1.length + f.2.length ≤ 200) {n : Nat} (hn : n < 1000000000000000) (keep : Bool) :
    ∀ f ∈ onE false l ++ ((VIAN, joinV l VIAN BARB) :: restR n keep), EmitPure.Fair f := by
  intro f hf
  obtain ⟨j1, j2⟩ := joined_one (n := VIAN) (s := BARB) h1 hr hl (by decide)
  rcases List.mem_append.1 hf with q | q
  · obtain ⟨r1, r2⟩ := right_plain (hr f (on_mem q))
    exact fair_of r1 r2 (by have := hl f (on_mem q); omega)
  rcases List.mem_cons.1 q with rfl | q
  · exact fair_of (by decide) j1 (by have e : VIAN.length = 3 := rfl; have e2 : BARB.length = 12 := rfl; rw [e]; omega)
  unfold restR at q
  rcases List.mem_cons.1 q with rfl | q
  · exact fair_of (by decide) (List.all_eq_true.2 (dec_plain n)) (by have e : CLN.length = 14 := rfl; have := dec_len15 hn; rw [e]; omega)
  · cases keep with
    | true => cases q
    | false =>
      rw [if_neg (by decide), List.mem_singleton] at q
      subst q
      exact fair_of (by decide) (by decide) (by decide)
theorem reply_count (l : List HField) (x : List UInt8) (n : Nat) (keep : Bool) (hl : l.length ≤ 20) : (onE false l ++ ((VIAN, x) :: restR n keep)).length ≤ 32 := by
  have h := on_len false l
  unfold restR
  rw [List.length_append, List.length_cons, List.length_cons]
  cases keep with
  | true => simp; omega
  | false => simp; omega
/-- a local reply, read: its head, with the status, and where it ends -/
theorem local_read {status : Nat} (s1 : 100 ≤ status) (s2 : status < 600) {l : List HField} (h20 : l.length ≤ 20) (h1 : getN l VIAN ≤ 1) (hr : ∀ f ∈ l, right f = true) (hl : ∀ f ∈ l, f.1.length + f.2.length ≤ 200) {body : List UInt8} (hn : body.length < 1000000000000000) (keep bodiless : Bool) :
    read8 true (localE status l body keep bodiless) = .done ⟨[], [], status, reasonL status, 1, (onE false l ++ ((VIAN, joinV l VIAN BARB) :: restR body.length keep)).map EmitPure.told⟩ (headE ⟨status, [], l, 2, body.length, keep, []⟩).length := by
  obtain ⟨p1, p2, _⟩ := reason_plain status
  have e : localE status l body keep bodiless = statusL status (reasonL status) ++ 13 :: 10 :: ((onE false l ++ ((VIAN, joinV l VIAN BARB) :: restR body.length keep)).flatMap lineE ++ 13 :: 10 :: (if bodiless then [] else body)) := by
    unfold localE headE
    rw [if_pos rfl, replyF_local]
    simp
  have e2 : (headE ⟨status, [], l, 2, body.length, keep, []⟩).length = (statusL status (reasonL status)).length + 2 + ((onE false l ++ ((VIAN, joinV l VIAN BARB) :: restR body.length keep)).flatMap lineE).length + 2 := by
    unfold headE
    rw [if_pos rfl, replyF_local]
    simp only [List.length_append, List.length_cons, List.length_nil]
    omega
  rw [e, e2, head_back s1 s2 p1 (by omega) (reply_count l _ _ keep h20) (reply_fair h1 hr hl hn keep)]
end Go.Proofs.YtblpooddamkfdaaGreatDoor.EmitBack

/- Layer 13: nothing that concerns one connection alone goes on. No program is named. -/
namespace Go.Proofs.YtblpooddamkfdaaGreatDoor.EmitStripP
open Bytes LexPure LexNum FieldsPure HeadPure HeadWrit HeadCut HeadLines DecN FramePure EmitPure EmitBack
set_option maxRecDepth 20000
/-- 1 where it holds -/
def one1 (b : Bool) : Nat := if b then 1 else 0
theorem getN_up (u n : List UInt8) : getN (if u = [] then [] else [(CONN, UPV), (UPN, u)]) n = if u = [] then 0 else one1 (alike CONN n) + one1 (alike UPN n) := by
  by_cases hu : u = []
  · rw [if_pos hu, if_pos hu]
    rfl
  · rw [if_neg hu, if_neg hu, getN_cons, getN_cons, getN_nil]
    rfl
theorem ask_count (a : AskP) (n : List UInt8) : getN (askF a) n = one1 (alike HOSTN n) + (getN (onE true a.fields) n + (one1 (alike XFFN n) + (one1 (alike VIAN n) + ((if a.sized then one1 (alike CLN n) else 0) + (if a.up = [] then 0 else one1 (alike CONN n) + one1 (alike UPN n)))))) := by
  unfold askF
  rw [getN_cons, getN_append, getN_cons, getN_cons, getN_append, getN_up]
  have e : getN (if a.sized then [(CLN, decZ a.body.length)] else []) n = if a.sized then one1 (alike CLN n) else 0 := by
    cases a.sized with
    | false => rfl
    | true => rw [if_pos rfl, if_pos rfl, getN_cons, getN_nil]; rfl
  rw [e]
  rfl
theorem reply_counts (r : ReplyP) (n : List UInt8) : getN (replyF r) n = getN (onE false r.fields) n + (one1 (alike VIAN n) + ((if r.framing = 2 then one1 (alike CLN n) else 0) + ((if r.framing = 3 then one1 (alike TEN n) else 0) +
    (if r.up = [] then (if r.keep then 0 else one1 (alike CONN n)) else one1 (alike CONN n) + one1 (alike UPN n))))) := by
  unfold replyF
  rw [getN_append, getN_cons, getN_append, getN_append]
  have e1 : getN (if r.framing = 2 then [(CLN, decZ r.length)] else []) n = if r.framing = 2 then one1 (alike CLN n) else 0 := by
    split
    · rw [getN_cons, getN_nil]; rfl
    · rfl
  have e2 : getN (if r.framing = 3 then [(TEN, CHV)] else []) n = if r.framing = 3 then one1 (alike TEN n) else 0 := by
    split
    · rw [getN_cons, getN_nil]; rfl
    · rfl
  have e3 : getN (if r.up = [] then (if r.keep then [] else [(CONN, CLOSEV)]) else [(CONN, UPV), (UPN, r.up)]) n = if r.up = [] then (if r.keep then 0 else one1 (alike CONN n)) else one1 (alike CONN n) + one1 (alike UPN n) := by
    by_cases hu : r.up = []
    · rw [if_pos hu, if_pos hu]
      cases r.keep with
      | true => rfl
      | false => rw [if_neg (by decide), if_neg (by decide), getN_cons, getN_nil]; rfl
    · rw [if_neg hu, if_neg hu, getN_cons, getN_cons, getN_nil]
      rfl
  rw [e1, e2, e3]
  rfl
/-- does the gateway write such a field by itself -/
def own (n : List UInt8) (u : List UInt8) : Bool := alike n HOSTN || alike n VIAN || alike n XFFN || (!u.isEmpty && (alike n CONN || alike n UPN))
theorem one1_zero {b : Bool} (h : b = false) : one1 b = 0 := by rw [h]; rfl
theorem alike_swap (a b : List UInt8) : alike a b = alike b a := by
  unfold alike
  rw [Bool.eq_iff_iff, beq_iff_eq, beq_iff_eq]
  exact eq_comm
theorem ask_strip {a : AskP} (hs : a.sized = false) {n : List UInt8} (h1 : one a.fields n = true) (h2 : own n a.up = false) : getN (askF a) n = 0 := by
  unfold own at h2
  simp only [Bool.or_eq_false_iff] at h2
  obtain ⟨⟨⟨a1, a2⟩, a3⟩, a4⟩ := h2
  rw [ask_count, on_none (.inl h1), one1_zero (by rw [alike_swap]; exact a1), one1_zero (b := alike VIAN n) (by rw [alike_swap]; exact a2), one1_zero (b := alike XFFN n) (by rw [alike_swap]; exact a3), hs, if_neg (by decide)]
  by_cases hu : a.up = []
  · rw [if_pos hu]
  · have hn : (!a.up.isEmpty) = true := by simp [hu]
    rw [hn, Bool.true_and, Bool.or_eq_false_iff] at a4
    rw [if_neg hu, one1_zero (by rw [alike_swap]; exact a4.1), one1_zero (by rw [alike_swap]; exact a4.2)]
theorem reply_strip {r : ReplyP} (hf : r.framing = 1) (hk : r.keep = true) {n : List UInt8} (h1 : one r.fields n = true) (h2 : own n r.up = false) : getN (replyF r) n = 0 := by
  unfold own at h2
  simp only [Bool.or_eq_false_iff] at h2
  obtain ⟨⟨⟨_, a2⟩, _⟩, a4⟩ := h2
  rw [reply_counts, on_none (.inl h1), one1_zero (b := alike VIAN n) (by rw [alike_swap]; exact a2), hf, if_neg (by decide), if_neg (by decide), hk, if_pos rfl]
  by_cases hu : r.up = []
  · rw [if_pos hu]
  · have hn : (!r.up.isEmpty) = true := by simp [hu]
    rw [hn, Bool.true_and, Bool.or_eq_false_iff] at a4
    rw [if_neg hu, one1_zero (by rw [alike_swap]; exact a4.1), one1_zero (by rw [alike_swap]; exact a4.2)]
theorem ask_own {a : AskP} (hs : a.sized = false) : getN (askF a) CONNECTION = (if a.up = [] then 0 else 1) ∧ getN (askF a) CLEN = 0 ∧ getN (askF a) VIAN = 1 ∧ getN (askF a) HOSTN = 1 := by
  refine ⟨?_, ?_, ?_, ?_⟩
  · rw [ask_count, on_conn, hs]
    by_cases hu : a.up = [] <;> simp only [hu, if_true, if_false] <;> decide
  · rw [ask_count, on_cl, hs]
    by_cases hu : a.up = [] <;> simp only [hu, if_true, if_false] <;> decide
  · rw [ask_count, on_via, hs]
    by_cases hu : a.up = [] <;> simp only [hu, if_true, if_false] <;> decide
  · rw [ask_count, on_host, hs]
    by_cases hu : a.up = [] <;> simp only [hu, if_true, if_false] <;> decide
theorem reply_own {r : ReplyP} (hf : r.framing = 1) (hk : r.keep = true) : getN (replyF r) CONNECTION = (if r.up = [] then 0 else 1) ∧ getN (replyF r) CLEN = 0 ∧ getN (replyF r) VIAN = 1 := by
  refine ⟨?_, ?_, ?_⟩
  · rw [reply_counts, on_conn, hf, hk]
    by_cases hu : r.up = [] <;> simp only [hu, if_true, if_false] <;> decide
  · rw [reply_counts, on_cl, hf, hk]
    by_cases hu : r.up = [] <;> simp only [hu, if_true, if_false] <;> decide
  · rw [reply_counts, on_via, hf, hk]
    by_cases hu : r.up = [] <;> simp only [hu, if_true, if_false] <;> decide
/-! ### what stands in few fields can be written -/
def total (l : List HField) : Nat := (l.map (fun f => f.1.length + f.2.length)).sum
theorem total_mem {l : List HField} {f : HField} (h : f ∈ l) : f.1.length + f.2.length ≤ total l := by
  induction l with
  | nil => cases h
  | cons g l ih =>
    unfold total at ih ⊢
    rw [List.map_cons, List.sum_cons]
    rcases List.mem_cons.1 h with rfl | h
    · omega
    · have := ih h
      omega
theorem joined_few {s : List UInt8} (hs : s.all plainB = true) (n : List UInt8) : ∀ l : List HField, (∀ f ∈ l, right f = true) → (joinV l n s).all plainB = true ∧ (joinV l n s).length ≤ total l + 2 * l.length + s.length
  | [], _ => ⟨hs, by show s.length ≤ _; omega⟩
  | f :: l, hr => by
    obtain ⟨h1, h2⟩ := joined_few hs n l (fun g hg => hr g (List.mem_cons_of_mem _ hg))
    have ht : total (f :: l) = f.1.length + f.2.length + total l := by unfold total; rw [List.map_cons, List.sum_cons]
    have hl : (f :: l).length = l.length + 1 := rfl
    by_cases hh : hit n f = true
    · have e : joinV (f :: l) n s = f.2 ++ [44, 32] ++ joinV l n s := by
        unfold joinV
        rw [List.filter_cons_of_pos hh, List.flatMap_cons]
        simp
      rw [e, List.all_append, List.all_append, (right_plain (hr f List.mem_cons_self)).2, h1, List.length_append, List.length_append, ht, hl]
      refine ⟨by decide, ?_⟩
      show f.2.length + 2 + (joinV l n s).length ≤ _
      omega
    · have e : joinV (f :: l) n s = joinV l n s := by
        unfold joinV
        rw [List.filter_cons_of_neg hh]
      rw [e, ht, hl]
      exact ⟨h1, by omega⟩
/-- what is asked here: few fields, a host of one letter, a target of one, an upgrade of a few letters or none -/
def askS (l : List HField) (u : List UInt8) : AskP := ⟨[71, 69, 84], [47], [104], 0, l, [], false, [49], u⟩
def replyS (l : List HField) (u : List UInt8) : ReplyP := ⟨200, [], l, 1, 0, true, u⟩
theorem strip_ask {l : List HField} {u : List UInt8} (hr : ∀ f ∈ l, right f = true) (h20 : l.length ≤ 20) (h3 : total l ≤ 300) (hu : u.all plainB = true) (hul : u.length ≤ 20) :
    read8 false (requestE (askS l u)) = .done ⟨[71, 69, 84], [47], 0, [], 1, (askF (askS l u)).map EmitPure.told⟩ (requestE (askS l u)).length := by
  obtain ⟨x1, x2⟩ := joined_few (s := [49]) (by decide) XFFN l hr
  obtain ⟨v1, v2⟩ := joined_few (s := BARB) (by decide) VIAN l hr
  have hon := on_len true l
  have hf : ∀ f ∈ askF (askS l u), EmitPure.Fair f := by
    intro f hf
    rw [show askF (askS l u) = (HOSTN, [104]) :: (onE true l ++ ((XFFN, joinV l XFFN [49]) :: (VIAN, joinV l VIAN BARB) :: ([] ++ (if u = [] then [] else [(CONN, UPV), (UPN, u)])))) from rfl] at hf
    rcases List.mem_cons.1 hf with rfl | q
    · exact fair_of (by decide) (by decide) (by decide)
    rcases List.mem_append.1 q with q | q
    · obtain ⟨r1, r2⟩ := right_plain (hr f (on_mem q))
      exact fair_of r1 r2 (by have := total_mem (on_mem q); omega)
    rcases List.mem_cons.1 q with rfl | q
    · exact fair_of (by decide) x1 (by have e : XFFN.length = 15 := rfl; simp only [List.length_cons, List.length_nil] at x2; rw [e]; omega)
    rcases List.mem_cons.1 q with rfl | q
    · exact fair_of (by decide) v1 (by have e : VIAN.length = 3 := rfl; have e2 : BARB.length = 12 := rfl; rw [e]; omega)
    rcases List.mem_append.1 q with q | q
    · cases q
    · by_cases hu0 : u = []
      · rw [if_pos hu0] at q
        cases q
      · rw [if_neg hu0] at q
        rcases List.mem_cons.1 q with rfl | q
        · exact fair_of (by decide) (by decide) (by decide)
        · rw [List.mem_singleton] at q
          subst q
          exact fair_of (by decide) hu (by have e : UPN.length = 7 := rfl; rw [e]; omega)
  have hc : (askF (askS l u)).length ≤ 32 := by
    rw [show askF (askS l u) = (HOSTN, [104]) :: (onE true l ++ ((XFFN, joinV l XFFN [49]) :: (VIAN, joinV l VIAN BARB) :: ([] ++ (if u = [] then [] else [(CONN, UPV), (UPN, u)])))) from rfl]
    simp only [List.length_cons, List.length_append, List.nil_append]
    by_cases hu0 : u = []
    · rw [if_pos hu0, List.length_nil]; omega
    · rw [if_neg hu0]; simp only [List.length_cons, List.length_nil]; omega
  have e : requestE (askS l u) = startL [71, 69, 84] [47] ++ 13 :: 10 :: ((askF (askS l u)).flatMap lineE ++ 13 :: 10 :: []) := rfl
  have e2 : (requestE (askS l u)).length = (startL [71, 69, 84] [47]).length + 2 + ((askF (askS l u)).flatMap lineE).length + 2 := by
    rw [e]
    simp only [List.length_append, List.length_cons, List.length_nil]
    omega
  rw [e2, e, request_back (by decide) (by decide) (by decide) (by decide) (by decide) hc hf]
theorem strip_reply {l : List HField} {u : List UInt8} (hr : ∀ f ∈ l, right f = true) (h20 : l.length ≤ 20) (h3 : total l ≤ 300) (hu : u.all plainB = true) (hul : u.length ≤ 20) :
    read8 true (headE (replyS l u)) = .done ⟨[], [], 200, reasonL 200, 1, (replyF (replyS l u)).map EmitPure.told⟩ (headE (replyS l u)).length := by
  obtain ⟨v1, v2⟩ := joined_few (s := BARB) (by decide) VIAN l hr
  have hon := on_len false l
  have hf : ∀ f ∈ replyF (replyS l u), EmitPure.Fair f := by
    intro f hf
    rw [show replyF (replyS l u) = onE false l ++ ((VIAN, joinV l VIAN BARB) :: ([] ++ ([] ++ (if u = [] then [] else [(CONN, UPV), (UPN, u)])))) from rfl] at hf
    rcases List.mem_append.1 hf with q | q
    · obtain ⟨r1, r2⟩ := right_plain (hr f (on_mem q))
      exact fair_of r1 r2 (by have := total_mem (on_mem q); omega)
    rcases List.mem_cons.1 q with rfl | q
    · exact fair_of (by decide) v1 (by have e : VIAN.length = 3 := rfl; have e2 : BARB.length = 12 := rfl; rw [e]; omega)
    rcases List.mem_append.1 q with q | q
    · cases q
    rcases List.mem_append.1 q with q | q
    · cases q
    · by_cases hu0 : u = []
      · rw [if_pos hu0] at q
        cases q
      · rw [if_neg hu0] at q
        rcases List.mem_cons.1 q with rfl | q
        · exact fair_of (by decide) (by decide) (by decide)
        · rw [List.mem_singleton] at q
          subst q
          exact fair_of (by decide) hu (by have e : UPN.length = 7 := rfl; rw [e]; omega)
  have hc : (replyF (replyS l u)).length ≤ 32 := by
    rw [show replyF (replyS l u) = onE false l ++ ((VIAN, joinV l VIAN BARB) :: ([] ++ ([] ++ (if u = [] then [] else [(CONN, UPV), (UPN, u)])))) from rfl]
    simp only [List.length_cons, List.length_append, List.nil_append]
    by_cases hu0 : u = []
    · rw [if_pos hu0, List.length_nil]; omega
    · rw [if_neg hu0]; simp only [List.length_cons, List.length_nil]; omega
  obtain ⟨p1, p2, _⟩ := reason_plain 200
  have e : headE (replyS l u) = statusL (200 : Nat) (reasonL 200) ++ 13 :: 10 :: ((replyF (replyS l u)).flatMap lineE ++ 13 :: 10 :: []) := rfl
  have e2 : (headE (replyS l u)).length = (statusL (200 : Nat) (reasonL 200)).length + 2 + ((replyF (replyS l u)).flatMap lineE).length + 2 := by
    rw [e]
    simp only [List.length_append, List.length_cons, List.length_nil]
    omega
  rw [e2, e, head_back (by decide) (by decide) p1 (by omega) hc hf]
  rfl
end Go.Proofs.YtblpooddamkfdaaGreatDoor.EmitStripP

/- Layer 13's law: own. -/
namespace Go.Proofs.YtblpooddamkfdaaGreatDoor.L13Own
open Go.ChangeShapes Go.WideShapes Go.ChangeAt Go.RowKit Bytes LexPure FieldsPure HeadWrit EmitPure Flds Mem Ret FRow
set_option maxRecDepth 100000
set_option linter.unusedVariables false
set_option linter.unusedSimpArgs false
/-- a field of one's own -/
def N1 (n : List UInt8) : List HField := [([110], n)]
theorem mark_plain (c : UInt8) (h : markB c = true) : (c != 44) = true ∧ blankB c = false := by
  have := all_bytes (p := fun c => !markB c || ((c != 44) && !blankB c)) (by decide +kernel) c
  simp only [h, Bool.not_true, Bool.false_or, Bool.and_eq_true, Bool.not_eq_true'] at this
  exact this
theorem has_one {n x : List UInt8} (ht : token n = true) : hasE (N1 n) [110] x = alike n x := by
  obtain ⟨hm, hl⟩ := token_marks ht
  have hne : n ≠ [] := List.length_pos_iff.1 hl
  have hc : LexList.noComma n = true := List.all_eq_true.2 (fun c hc => (mark_plain c (hm c hc)).1)
  have htr : trim n = n := trim_id (fun c r e => (mark_plain c (hm c (by rw [e]; exact List.mem_cons_self))).2) (fun c r e => (mark_plain c (hm c (by
    have : c ∈ n.reverse := by rw [e]; exact List.mem_cons_self
    simpa using this))).2)
  have e : elems (N1 n) [110] = [n] := by
    unfold elems N1
    have h1 : hit [110] (([110] : List UInt8), n) = true := by unfold hit alike; simp
    rw [List.filter_cons, if_pos h1, List.filter_nil, List.flatMap_cons, List.flatMap_nil, List.append_nil, LexList.elements_plain hc]
    simp [LexList.one, htr, hne]
  unfold hasE
  rw [e]
  simp
def ownB (n : List UInt8) (up : Bool) : Bool := alike n HOSTN || alike n VIAN || alike n XFFN || (up && (alike n CONN || alike n UPN))
def AR : Value := .agg #[.string ⟨#[104, 111, 115, 116]⟩, .string ⟨#[118, 105, 97]⟩, .string ⟨#[120, 45, 102, 111, 114, 119, 97, 114, 100, 101, 100, 45, 102, 111, 114]⟩]
theorem idx3a (W : World) : (Instr.index 103 AR (.int .i64 0)).run Tryz.prog W = .ok (.string ⟨#[104, 111, 115, 116]⟩) W := by
  simp [AR, Instr.index, run_underlying (P := Tryz.prog) Tryz.underlying103, asIntOf, go_sem, Tryz.sizeOf9]
theorem idx3b (W : World) : (Instr.index 103 AR (.int .i64 1)).run Tryz.prog W = .ok (.string ⟨#[118, 105, 97]⟩) W := by
  simp [AR, Instr.index, run_underlying (P := Tryz.prog) Tryz.underlying103, asIntOf, go_sem, Tryz.sizeOf9]
theorem idx3c (W : World) : (Instr.index 103 AR (.int .i64 2)).run Tryz.prog W = .ok (.string ⟨#[120, 45, 102, 111, 114, 119, 97, 114, 100, 101, 100, 45, 102, 111, 114]⟩) W := by
  simp [AR, Instr.index, run_underlying (P := Tryz.prog) Tryz.underlying103, asIntOf, go_sem, Tryz.sizeOf9]
/-- a call of Has over it -/
theorem has_call (n : List UInt8) (ht : token n = true) (hl : n.length ≤ 1048576) (x : List UInt8) (y : List UInt8) (hx : x.length ≤ 1048576) (he : ∀ m, alike m x = alike m y) (w : World) :
    Calls Tryz.prog 41 #[.slice (some ⟨w.heap.size, 0, none⟩) 1 1, .string ⟨#[110]⟩, .string (ofL x)] (w.alloc (.cells #[.string ⟨#[110]⟩, .string (ofL n)] 36)) fun e w' => e = .returned (.bool (alike n y)) ∧ Below w.heap.size w w' := by
  have hf := fl_new w (N1 n) [.string ⟨#[110]⟩, .string (ofL n)] 1 rfl (show (1 : Nat) ≤ 4398046511104 by decide)
  have hG : Few (N1 n) := fun j hj => by
    have : j = 0 := by
      have : (N1 n).length = 1 := rfl
      omega
    subst this
    exact ⟨show (1 : Nat) ≤ 1048576 by decide, hl⟩
  refine (R7Has.r7has_any _ (N1 n) (ofL [110]) (ofL x) (by decide) (by rw [ofL_size]; exact hx) hG (show (1 : Nat) ≤ 1048576 by decide) _ hf).mono ?_
  rintro e w' ⟨rfl, hb⟩
  rw [toL_ofL, toL_ofL, has_one ht, he]
  exact ⟨rfl, below_chain ((Below.refl _ w).alloc (Nat.le_refl _) _) hb⟩
/-- ahead of a round -/
def OI (w : World) (n : List UInt8) (k : Nat) (wr : World) : Prop := (1 ≤ k → alike n HOSTN = false) ∧ (2 ≤ k → alike n VIAN = false) ∧ (3 ≤ k → alike n XFFN = false) ∧ Below w.heap.size w wr
set_option maxHeartbeats 3200000 in
theorem own_any (n : List UInt8) (ht : token n = true) (hl : n.length ≤ 1048576) (up : Bool) (w : World) :
    Calls Tryz.prog 21 #[.string (ofL n), .bool up] w fun e w' => e = .returned (.bool (ownB n up)) ∧ Below w.heap.size w w' := by
  have H1 := Lib.hid (has_call n ht hl [104, 111, 115, 116] HOSTN (by decide) (fun m => by unfold alike; rw [show lower [104, 111, 115, 116] = lower HOSTN from by decide]))
  have H2 := Lib.hid (has_call n ht hl [118, 105, 97] VIAN (by decide) (fun m => by unfold alike; rw [show lower [118, 105, 97] = lower VIAN from by decide]))
  have H3 := Lib.hid (has_call n ht hl [120, 45, 102, 111, 114, 119, 97, 114, 100, 101, 100, 45, 102, 111, 114] XFFN (by decide) (fun m => by unfold alike; rw [show lower [120, 45, 102, 111, 114, 119, 97, 114, 100, 101, 100, 45, 102, 111, 114] = lower XFFN from by decide]))
  have H4 := Lib.hid (has_call n ht hl [99, 111, 110, 110, 101, 99, 116, 105, 111, 110] CONN (by decide) (fun m => by unfold alike; rw [show lower [99, 111, 110, 110, 101, 99, 116, 105, 111, 110] = lower CONN from by decide]))
  have H5 := Lib.hid (has_call n ht hl [117, 112, 103, 114, 97, 100, 101] UPN (by decide) (fun m => by unfold alike; rw [show lower [117, 112, 103, 114, 97, 100, 101] = lower UPN from by decide]))
  have I0 := idx3a
  have I1 := idx3b
  have I2 := idx3c
  have HI : Hid (OI w n 0 w) := Lib.hid ⟨fun h => absurd h (by decide), fun h => absurd h (by decide), fun h => absurd h (by decide), Below.refl _ _⟩
  have HV : Hid (ownB n up = (alike n HOSTN || alike n VIAN || alike n XFFN || (up && (alike n CONN || alike n UPN)))) := Lib.hid rfl
  unfold AR at I0 I1 I2
  clear ht hl
  generalize ownB n up = RES at *
  go_enter Tryz.func21, Tryz.ntmps21
  go_wp2_with fail
  go_loopw [8] (fun i wr => ∃ (k : Nat), k ≤ 3 ∧ i = .int .i64 k ∧ Hid (OI w n k wr)) (fun i _ => 3 - (intOf i).toNat)
  case atStart => exact ⟨0, by omega, rfl, HI⟩
  case round =>
    obtain ⟨k, hk, rfl, HJ⟩ := hrel
    clear HI
    rcases (show k = 0 ∨ k = 1 ∨ k = 2 ∨ k = 3 by omega) with rfl | rfl | rfl | rfl
    · cases ha : alike n HOSTN with
      | true =>
        rw [ha] at H1
        have HR : Hid (RES = true) := Lib.hid (by rw [HV.out, ha]; rfl)
        clear ha
        go_wp2_with fail
        refine (H1.out wr).mono ?_
        rintro e w1 ⟨rfl, hb⟩
        have HB := Lib.hid (below_chain HJ.out.2.2.2 hb)
        clear hb
        go_wp2_with fail
        go_ret
        exact ⟨by rw [HR.out]; rfl, HB.out⟩
      | false =>
        rw [ha] at H1
        have HA := Lib.hid ha
        clear ha
        go_wp2_with fail
        refine (H1.out wr).mono ?_
        rintro e w1 ⟨rfl, hb⟩
        have HK : Hid (OI w n 1 w1) := Lib.hid ⟨fun _ => HA.out, fun h => absurd h (by decide), fun h => absurd h (by decide), below_chain HJ.out.2.2.2 hb⟩
        clear hb
        go_wp2_with fail
        exact ⟨⟨1, by omega, by simp, HK⟩, by simp [intOf]⟩
    · cases ha : alike n VIAN with
      | true =>
        rw [ha] at H2
        have HR : Hid (RES = true) := Lib.hid (by rw [HV.out, ha]; simp)
        clear ha
        go_wp2_with fail
        refine (H2.out wr).mono ?_
        rintro e w1 ⟨rfl, hb⟩
        have HB := Lib.hid (below_chain HJ.out.2.2.2 hb)
        clear hb
        go_wp2_with fail
        go_ret
        exact ⟨by rw [HR.out]; rfl, HB.out⟩
      | false =>
        rw [ha] at H2
        have HA := Lib.hid ha
        clear ha
        go_wp2_with fail
        refine (H2.out wr).mono ?_
        rintro e w1 ⟨rfl, hb⟩
        have HK : Hid (OI w n 2 w1) := Lib.hid ⟨fun _ => HJ.out.1 (by decide), fun _ => HA.out, fun h => absurd h (by decide), below_chain HJ.out.2.2.2 hb⟩
        clear hb
        go_wp2_with fail
        exact ⟨⟨2, by omega, by simp, HK⟩, by simp [intOf]⟩
    · cases ha : alike n XFFN with
      | true =>
        rw [ha] at H3
        have HR : Hid (RES = true) := Lib.hid (by rw [HV.out, ha]; simp)
        clear ha
        go_wp2_with fail
        refine (H3.out wr).mono ?_
        rintro e w1 ⟨rfl, hb⟩
        have HB := Lib.hid (below_chain HJ.out.2.2.2 hb)
        clear hb
        go_wp2_with fail
        go_ret
        exact ⟨by rw [HR.out]; rfl, HB.out⟩
      | false =>
        rw [ha] at H3
        have HA := Lib.hid ha
        clear ha
        go_wp2_with fail
        refine (H3.out wr).mono ?_
        rintro e w1 ⟨rfl, hb⟩
        have HK : Hid (OI w n 3 w1) := Lib.hid ⟨fun _ => HJ.out.1 (by decide), fun _ => HJ.out.2.1 (by decide), fun _ => HA.out, below_chain HJ.out.2.2.2 hb⟩
        clear hb
        go_wp2_with fail
        exact ⟨⟨3, by omega, by simp, HK⟩, by simp [intOf]⟩
    · have HR : Hid (RES = (up && (alike n CONN || alike n UPN))) := Lib.hid (by
        obtain ⟨a1, a2, a3, _⟩ := HJ.out
        rw [HV.out, a1 (by decide), a2 (by decide), a3 (by decide)]
        rfl)
      cases up with
      | false =>
        go_wp2_with fail
        go_ret
        exact ⟨by rw [HR.out]; rfl, HJ.out.2.2.2⟩
      | true =>
        cases ha : alike n CONN with
        | true =>
          rw [ha] at H4
          have HA := Lib.hid ha
          clear ha
          go_wp2_with fail
          refine (H4.out wr).mono ?_
          rintro e w1 ⟨rfl, hb⟩
          have HB := Lib.hid (below_chain HJ.out.2.2.2 hb)
          clear hb
          go_wp2_with fail
          go_ret
          exact ⟨by rw [HR.out, HA.out]; rfl, HB.out⟩
        | false =>
          rw [ha] at H4
          have HA := Lib.hid ha
          clear ha
          go_wp2_with fail
          refine (H4.out wr).mono ?_
          rintro e w1 ⟨rfl, hb⟩
          have HB := Lib.hid (below_chain HJ.out.2.2.2 hb)
          clear hb
          go_wp2_with fail
          refine (H5.out w1).mono ?_
          rintro e w2 ⟨rfl, hb⟩
          have HB2 := Lib.hid (below_chain HB.out hb)
          clear hb
          go_wp2_with fail
          go_ret
          exact ⟨by rw [HR.out, HA.out]; simp, HB2.out⟩
end Go.Proofs.YtblpooddamkfdaaGreatDoor.L13Own

/- Layer 7, the document's own One. -/
namespace Go.Proofs.YtblpooddamkfdaaGreatDoor.R7One
open Go.ChangeShapes Go.WideShapes Go.ChangeAt Go.RowKit LexPure Bytes Ret Rows1 Texts FieldsPure Flds RAlike7 R7Get R7Has Mem
set_option maxRecDepth 20000
theorem fixed_short (k : Nat) (h : k < fixed.length) : fixed[k].length ≤ 1048576 := by
  have : fixed.all (fun f => decide (f.length ≤ 1048576)) = true := by decide
  have := List.all_eq_true.1 this _ (List.getElem_mem h)
  exact of_decide_eq_true this
set_option maxHeartbeats 1600000 in
theorem r7one_any (v : Value) (G : List HField) (n : ByteArray) (hn : n.size ≤ 1048576) (hG : Few G) (hle2 : G.length ≤ 1048576) (w : World) (hF : FL w v G) :
    Calls Tryz.prog 14 #[v, .string n] w fun e w' => e = .returned (.bool (one G (toL n))) ∧ Below w.heap.size w w' := by
  have hcells : ∀ j (hj : j < 7), (w.alloc (.cells #[.string ⟨#[99, 111, 110, 110, 101, 99, 116, 105, 111, 110]⟩, .string ⟨#[107, 101, 101, 112, 45, 97, 108, 105, 118, 101]⟩, .string ⟨#[112, 114, 111, 120, 121, 45, 99, 111, 110, 110, 101, 99, 116, 105, 111, 110]⟩, .string ⟨#[116, 101]⟩, .string ⟨#[116, 114, 97, 105, 108, 101, 114]⟩, .string ⟨#[116, 114, 97, 110, 115, 102, 101, 114, 45, 101, 110, 99, 111, 100, 105, 110, 103]⟩, .string ⟨#[117, 112, 103, 114, 97, 100, 101]⟩] 92)).cell? ⟨w.heap.size, j, none⟩ = some (.string (ofL (fixed[j]'hj))) := fun j hj => by
    have h := (Has.new w 92 #[.string ⟨#[99, 111, 110, 110, 101, 99, 116, 105, 111, 110]⟩, .string ⟨#[107, 101, 101, 112, 45, 97, 108, 105, 118, 101]⟩, .string ⟨#[112, 114, 111, 120, 121, 45, 99, 111, 110, 110, 101, 99, 116, 105, 111, 110]⟩, .string ⟨#[116, 101]⟩, .string ⟨#[116, 114, 97, 105, 108, 101, 114]⟩, .string ⟨#[116, 114, 97, 110, 115, 102, 101, 114, 45, 101, 110, 99, 111, 100, 105, 110, 103]⟩, .string ⟨#[117, 112, 103, 114, 97, 100, 101]⟩]).cell j
    rw [h]
    match j, hj with
    | 0, _ => rfl
    | 1, _ => rfl
    | 2, _ => rfl
    | 3, _ => rfl
    | 4, _ => rfl
    | 5, _ => rfl
    | 6, _ => rfl
  have hbl := (Below.refl w.heap.size w).alloc (Nat.le_refl _) (.cells #[.string ⟨#[99, 111, 110, 110, 101, 99, 116, 105, 111, 110]⟩, .string ⟨#[107, 101, 101, 112, 45, 97, 108, 105, 118, 101]⟩, .string ⟨#[112, 114, 111, 120, 121, 45, 99, 111, 110, 110, 101, 99, 116, 105, 111, 110]⟩, .string ⟨#[116, 101]⟩, .string ⟨#[116, 114, 97, 105, 108, 101, 114]⟩, .string ⟨#[116, 114, 97, 110, 115, 102, 101, 114, 45, 101, 110, 99, 111, 100, 105, 110, 103]⟩, .string ⟨#[117, 112, 103, 114, 97, 100, 101]⟩] 92)
  have hsz : w.heap.size < (w.alloc (.cells #[.string ⟨#[99, 111, 110, 110, 101, 99, 116, 105, 111, 110]⟩, .string ⟨#[107, 101, 101, 112, 45, 97, 108, 105, 118, 101]⟩, .string ⟨#[112, 114, 111, 120, 121, 45, 99, 111, 110, 110, 101, 99, 116, 105, 111, 110]⟩, .string ⟨#[116, 101]⟩, .string ⟨#[116, 114, 97, 105, 108, 101, 114]⟩, .string ⟨#[116, 114, 97, 110, 115, 102, 101, 114, 45, 101, 110, 99, 111, 100, 105, 110, 103]⟩, .string ⟨#[117, 112, 103, 114, 97, 100, 101]⟩] 92)).heap.size := by simp
  have HF := Lib.hid (hF.below hbl)
  replace hcells := Lib.hid hcells
  replace hbl := Lib.hid hbl
  replace hsz := Lib.hid hsz
  have HV : Hid (one G (toL n) = (fixed.any (fun x => alike x (toL n)) || hasE G CONNECTION (toL n))) := Lib.hid rfl
  have HH := Lib.hid (fun w hF => r7has_any v G ⟨#[99, 111, 110, 110, 101, 99, 116, 105, 111, 110]⟩ n (by decide) hn hG hle2 w hF)
  rw [show toL ⟨#[99, 111, 110, 110, 101, 99, 116, 105, 111, 110]⟩ = CONNECTION from rfl] at HH
  obtain ⟨b, hb⟩ : ∃ b, b = one G (toL n) := ⟨_, rfl⟩
  rw [← hb] at HV ⊢
  clear hb hF hG
  generalize hasE G CONNECTION (toL n) = c at *
  go_enter Tryz.func14, Tryz.ntmps14
  go_wp2_with fail
  generalize w.alloc (.cells #[.string ⟨#[99, 111, 110, 110, 101, 99, 116, 105, 111, 110]⟩, .string ⟨#[107, 101, 101, 112, 45, 97, 108, 105, 118, 101]⟩, .string ⟨#[112, 114, 111, 120, 121, 45, 99, 111, 110, 110, 101, 99, 116, 105, 111, 110]⟩, .string ⟨#[116, 101]⟩, .string ⟨#[116, 114, 97, 105, 108, 101, 114]⟩, .string ⟨#[116, 114, 97, 110, 115, 102, 101, 114, 45, 101, 110, 99, 111, 100, 105, 110, 103]⟩, .string ⟨#[117, 112, 103, 114, 97, 100, 101]⟩] 92) = W at HF hcells hbl hsz ⊢
  generalize w.heap.size = g at hcells hsz ⊢
  go_loopw [6] (fun i wr => ∃ k : Nat, k ≤ 7 ∧ i = .int .i64 k ∧ Hid ((fixed.take k).any (fun x => alike x (toL n)) = false) ∧ Hid (Below W.heap.size W wr)) (fun i _ => 7 - (intOf i).toNat)
  case atStart => exact ⟨0, by omega, rfl, Lib.hid rfl, Lib.hid (Below.refl _ _)⟩
  case round =>
    obtain ⟨k, hk, rfl, ha, HB⟩ := hrel
    by_cases hlt : k < 7
    · have hki : (k : Int) < 7 := by omega
      have hlf : k < fixed.length := hlt
      have c1 := (HB.out.cell (p := ⟨g, k, none⟩) hsz.out).trans (hcells.out k hlt)
      have hfl : (fixed[k]'hlf).length ≤ 1048576 := fixed_short k hlf
      have HA := Lib.hid (fun w => ralike7_any (ofL (fixed[k]'hlf)) n (by rw [ofL_size]; omega) (by omega) w)
      rw [toL_ofL] at HA
      cases hh : alike (fixed[k]'hlf) (toL n)
      · have HN : Hid ((fixed.take (k + 1)).any (fun x => alike x (toL n)) = false) := Lib.hid (by
          rw [List.take_add_one, List.getElem?_eq_getElem hlf, List.any_append, ha.out]
          simp [hh])
        rw [hh] at HA
        clear hh ha
        generalize ofL (fixed[k]'hlf) = F at *
        go_wp2_with fail
        refine (HA.out _).mono ?_
        rintro e w3 ⟨rfl, hb3⟩
        have HB3 := Lib.hid (below_chain HB.out hb3)
        clear hb3 c1
        go_wp2_with fail
        go_roundw
        case rel => exact ⟨k + 1, by omega, by go_num, HN, HB3⟩
        case measure => simp [intOf]; omega
      · have HV2 : Hid (b = true) := Lib.hid (by
          rw [HV.out, Bool.or_eq_true]
          left
          rw [List.any_eq_true]
          exact ⟨_, List.getElem_mem hlf, hh⟩)
        rw [hh] at HA
        clear hh ha
        generalize ofL (fixed[k]'hlf) = F at *
        go_wp2_with fail
        refine (HA.out _).mono ?_
        rintro e w3 ⟨rfl, hb3⟩
        have HB3 := Lib.hid (hbl.out.trans ((below_chain HB.out hb3).mono hbl.out.size))
        clear hb3 c1
        go_wp2_with fail
        go_ret
        exact ⟨ret_bool HV2.out.symm, HB3.out⟩
    · have HV2 : Hid (b = c) := Lib.hid (by
        have h := ha.out
        rw [List.take_of_length_le (by exact Nat.not_lt.1 hlt)] at h
        rw [HV.out, h, Bool.false_or])
      have HFL := Lib.hid (HF.out.below HB.out)
      clear ha
      go_wp2_with fail
      refine (HH.out _ HFL.out).mono ?_
      rintro e w3 ⟨rfl, hb3⟩
      have HB3 := Lib.hid (hbl.out.trans ((below_chain HB.out hb3).mono hbl.out.size))
      clear hb3
      go_wp2_with fail
      go_ret
      exact ⟨ret_bool HV2.out.symm, HB3.out⟩
end Go.Proofs.YtblpooddamkfdaaGreatDoor.R7One

/- Layer 7, the document's own Check. -/
namespace Go.Proofs.YtblpooddamkfdaaGreatDoor.R7Check
open Go.ChangeShapes Go.WideShapes Go.ChangeAt Go.RowKit LexPure Bytes Ret Rows1 FieldsPure Flds RToken RValue Mem
set_option maxRecDepth 20000
theorem ret_i {a b : Int} (h : a = b) : Ending.returned (.int .i64 a) = .returned (.int .i64 b) := by rw [h]
set_option maxHeartbeats 1600000 in
theorem r7check_far (v : Value) (G : List HField) (hG : Far G) (w : World) (hF : FL w v G) :
    Calls Tryz.prog 13 #[v] w fun e w' => e = .returned (.int .i64 (check G)) ∧ Below w.heap.size w w' := by
  obtain ⟨p, cap, rfl, hle, hc⟩ := hF
  replace hc := Lib.hid hc
  replace hG := Lib.hid hG
  go_enter Tryz.func13, Tryz.ntmps13
  go_wp2_with fail
  go_loopw [3] (fun i wr => ∃ k : Nat, k ≤ G.length ∧ i = .int .i64 k ∧ Hid ((G.take k).all right = true) ∧ Hid (Below w.heap.size w wr)) (fun i _ => G.length - (intOf i).toNat)
  case atStart => exact ⟨0, Nat.zero_le _, rfl, Lib.hid rfl, Lib.hid (Below.refl _ _)⟩
  case round =>
    obtain ⟨k, hk, rfl, ha, HB⟩ := hrel
    by_cases hlt : k < G.length
    · obtain ⟨g, o, rfl, hgl, hcell⟩ := hc.out (by omega)
      obtain ⟨c1, c2⟩ := hcell k hlt
      replace c1 := (HB.out.cell (p := ⟨g, o + k * 2, none⟩) hgl).trans c1
      replace c2 := (HB.out.cell (p := ⟨g, o + k * 2 + 1, none⟩) hgl).trans c2
      have hki : (k : Int) < (G.length : Int) := by omega
      obtain ⟨s1, s2⟩ := hG.out k hlt
      clear hcell
      have HTk := Lib.hid (fun w => (rtoken_any (ofL G[k].1) (by rw [ofL_size]; unfold maxLen; omega) w).mono (fun e w' h => (⟨h.1, h.2.symm⟩ : e = .returned (.bool (token (toL (ofL G[k].1)))) ∧ w' = w)))
      have HVl := Lib.hid (fun w => (rvalue_any (ofL G[k].2) (by rw [ofL_size]; unfold maxLen; omega) w).mono (fun e w' h => (⟨h.1, h.2.symm⟩ : e = .returned (.bool (value (toL (ofL G[k].2)))) ∧ w' = w)))
      rw [toL_ofL] at HTk HVl
      have hA := ofL_size G[k].1
      have hB := ofL_size G[k].2
      have HT : Hid ((G.take (k + 1)).all right = ((G.take k).all right && right G[k])) := Lib.hid (by
        rw [List.take_add_one, List.getElem?_eq_getElem hlt, List.all_append]
        simp)
      have HF : right G[k] = false → Hid (check G = 70) := fun h => Lib.hid (by
        unfold check
        rw [if_neg]
        intro h2
        have := List.all_eq_true.1 h2 _ (List.getElem_mem hlt)
        rw [h] at this
        cases this)
      have hr : right G[k] = (token G[k].1 && value G[k].2 && decide (G[k].1.length + G[k].2.length ≤ 512)) := rfl
      have hsum : IntKind.i64.wrap (((ofL G[k].1).size : Int) + ((ofL G[k].2).size : Int)) = ((ofL G[k].1).size : Int) + ((ofL G[k].2).size : Int) := IntWalk.i64_in _ (by omega)
      have hcases : (token G[k].1 = false) ∨ (token G[k].1 = true ∧ value G[k].2 = false) ∨ (token G[k].1 = true ∧ value G[k].2 = true ∧ decide ((512 : Int) < ((ofL G[k].1).size : Int) + ((ofL G[k].2).size : Int)) = true ∧ right G[k] = false) ∨ (token G[k].1 = true ∧ value G[k].2 = true ∧ decide ((512 : Int) < ((ofL G[k].1).size : Int) + ((ofL G[k].2).size : Int)) = false ∧ right G[k] = true) := by
        rw [hr, hA, hB]
        cases token G[k].1
        · exact .inl rfl
        · cases value G[k].2
          · exact .inr (.inl ⟨rfl, rfl⟩)
          · by_cases h : G[k].1.length + G[k].2.length ≤ 512
            · exact .inr (.inr (.inr ⟨rfl, rfl, decide_eq_false (by omega), by rw [decide_eq_true h]; rfl⟩))
            · exact .inr (.inr (.inl ⟨rfl, rfl, decide_eq_true (by omega), by rw [decide_eq_false h]; rfl⟩))
      clear hA hB
      rcases hcases with h1 | ⟨h1, h2⟩ | ⟨h1, h2, h3, h4⟩ | ⟨h1, h2, h3, h4⟩
      · have HV := HF (by rw [hr, h1]; rfl)
        rw [h1] at HTk
        clear hr h1 HF HT ha hsum
        generalize ofL G[k].1 = A at *
        generalize ofL G[k].2 = B at *
        have HBH := Lib.hid HB.out
        go_wp2_with fail
        go_quiet (first | (go_at_call 40; exact Calls.quiet_of_same (HTk.out _)) | (go_at_call 8; exact Calls.quiet_of_same (HVl.out _)))
        go_wp2_with fail
        go_ret
        exact ⟨ret_i HV.out.symm, HBH.out.trans ⟨rfl, rfl, rfl, Nat.le_refl _, fun _ _ => rfl⟩⟩
      · have HV := HF (by rw [hr, h1, h2]; rfl)
        rw [h1] at HTk
        rw [h2] at HVl
        clear hr h1 h2 HF HT ha hsum
        generalize ofL G[k].1 = A at *
        generalize ofL G[k].2 = B at *
        have HBH := Lib.hid HB.out
        go_wp2_with fail
        go_quiet (first | (go_at_call 40; exact Calls.quiet_of_same (HTk.out _)) | (go_at_call 8; exact Calls.quiet_of_same (HVl.out _)))
        go_wp2_with fail
        go_ret
        exact ⟨ret_i HV.out.symm, HBH.out.trans ⟨rfl, rfl, rfl, Nat.le_refl _, fun _ _ => rfl⟩⟩
      · have HV := HF h4
        rw [h1] at HTk
        rw [h2] at HVl
        clear hr h1 h2 h4 HF HT ha
        generalize ofL G[k].1 = A at *
        generalize ofL G[k].2 = B at *
        have HBH := Lib.hid HB.out
        go_wp2_with fail
        go_quiet (first | (go_at_call 40; exact Calls.quiet_of_same (HTk.out _)) | (go_at_call 8; exact Calls.quiet_of_same (HVl.out _)))
        go_wp2_with fail
        go_ret
        exact ⟨ret_i HV.out.symm, HBH.out.trans ⟨rfl, rfl, rfl, Nat.le_refl _, fun _ _ => rfl⟩⟩
      · have HA2 : Hid ((G.take (k + 1)).all right = true) := Lib.hid (by rw [HT.out, ha.out, h4]; rfl)
        rw [h1] at HTk
        rw [h2] at HVl
        clear hr h1 h2 h4 HF HT ha
        generalize ofL G[k].1 = A at *
        generalize ofL G[k].2 = B at *
        have HBH := Lib.hid HB.out
        go_wp2_with fail
        go_quiet (first | (go_at_call 40; exact Calls.quiet_of_same (HTk.out _)) | (go_at_call 8; exact Calls.quiet_of_same (HVl.out _)))
        go_wp2_with fail
        have HB3 : Hid (Below w.heap.size w (wr.drewN nq)) := Lib.hid (HBH.out.trans ⟨rfl, rfl, rfl, Nat.le_refl _, fun _ _ => rfl⟩)
        go_roundw
        case rel => exact ⟨k + 1, by omega, by go_num, HA2, HB3⟩
        case measure => simp [intOf]; omega
    · have hall : G.take k = G := List.take_of_length_le (by omega)
      have hc2 := ha.out
      rw [hall] at hc2
      have HBH := Lib.hid HB.out
      by_cases h32 : G.length ≤ 32
      · have HV : Hid (check G = 0) := Lib.hid (by unfold check; rw [if_pos hc2, if_pos h32])
        have hi : ¬ (32 : Int) < (G.length : Int) := by omega
        clear hall hc2 ha
        go_wp2_with fail
        go_ret
        exact ⟨ret_i HV.out.symm, HBH.out⟩
      · have HV : Hid (check G = 71) := Lib.hid (by unfold check; rw [if_pos hc2, if_neg h32])
        have hi : (32 : Int) < (G.length : Int) := by omega
        clear hall hc2 ha
        go_wp2_with fail
        go_ret
        exact ⟨ret_i HV.out.symm, HBH.out⟩
theorem r7check_any (v : Value) (G : List HField) (hG : Few G) (w : World) (hF : FL w v G) :
    Calls Tryz.prog 13 #[v] w fun e w' => e = .returned (.int .i64 (check G)) ∧ Below w.heap.size w w' := r7check_far v G hG.far w hF
end Go.Proofs.YtblpooddamkfdaaGreatDoor.R7Check

/- The row's step for a law whose row lists variables, and its card: the witness in the world that the listed data lay. -/
namespace Go.Proofs.YtblpooddamkfdaaGreatDoor.LawCard
open Go.ChangeShapes Go.WideShapes Go.ChangeAt Go.RowKit
variable {H : Type} {enc : TypeId × Value → H}
/-- there is an input that fits: in the world that the listed data lay -/
theorem witness {C : Checked} {os : Os} {f : FuncId} {fn : Func} {s : OpenSpec} {conds : List PathCond} {apart : Bool} {laid : List (String × DataW Unit)} (args : Array Value)
    (hv : ((World.laidAll C.prog os laid).forCall (fun _ _ => 0) ⟨#[], args, []⟩).variablesZipB C.prog = true)
    (hr : (((World.laidAll C.prog os laid).forCall (fun _ _ => 0) ⟨#[], args, []⟩).heap.toList.drop C.prog.globals.size).take ((begin C.prog (fun _ _ => 0) default).world.heap.size - C.prog.globals.size) =
      (begin C.prog (fun _ _ => 0) default).world.heap.toList.drop C.prog.globals.size)
    (hok : Input.okWideB C.prog ((World.laidAll C.prog os laid).forCall (fun _ _ => 0) ⟨#[], args, []⟩) f ⟨#[], args, []⟩ = true)
    (hplain : ∀ w, laidMetH C.prog laid w = laidMet C.prog laid w)
    (hf : (World.holding C.prog os ⟨#[], #[], []⟩).layFits C.prog laid [] = true)
    (hi : (World.holding C.prog os ⟨#[], #[], []⟩).layIfaces C.prog laid (World.laidAll C.prog os laid) = true)
    {x : List (DataW H) × List (DataW H) × List MemPlace} (hx : DataW.whole enc C.prog ((World.laidAll C.prog os laid).forCall (fun _ _ => 0) ⟨#[], args, []⟩).memory fn.params.toList s.vars apart args.toList 8 = some x)
    (hconds : conds.all (PathCond.test C.prog ⟨fn.params.toList, x.1, s.bare.plain.varTypes C.prog, x.2.1⟩) = true) (hkk : ∀ k, s.cond = some k → k H (x.1 ++ x.2.1) = true)
    (hsz : s.bare.sizedB enc C.prog fn apart ((World.laidAll C.prog os laid).forCall (fun _ _ => 0) ⟨#[], args, []⟩).memory args 8 = true) :
    ∃ (w : World) (tape : Tape) (i : Input), w.os = os ∧ (w.forCall tape i).Shaped C.prog ∧ i.vars = [] ∧ Input.okWide C.prog (w.forCall tape i) .any w.heap.size f i ∧
      s.preRow enc C.prog fn conds apart laid (w.forCall tape i).memory i.args ∧ ({} : Assume).holds C.prog (lone (Frame.enter C.prog f i.args .normal) [] (w.forCall tape i)) :=
  ⟨World.laidAll C.prog os laid, fun _ _ => 0, ⟨#[], args, []⟩, World.laidAll_os _ _ _, World.shaped_of_ZipB hv hr, (Input.okWide_of_okWideB (base := 0) hok).1, (Input.okWide_of_okWideB hok).2,
    OpenSpec.preRow_of_cond 8 hx hconds hkk hsz (by rw [hplain]; exact laidMet_laidAll _ hf hi), by
    simp only [Assume.holds]
    exact ⟨by simp, by simp, fun _ => Modest.zero, by simp, by simp⟩⟩
end Go.Proofs.YtblpooddamkfdaaGreatDoor.LawCard

/- A variable or a parameter that holds a head, in a box made behind w. -/
namespace Go.Proofs.YtblpooddamkfdaaGreatDoor.Held
open Go.ChangeShapes Go.WideShapes Go.ChangeAt Go.RowKit LexPure Bytes Ret Rows1 FieldsPure Flds HeadPure HBox KeptRow Mem
set_option maxRecDepth 20000
/-- box g, made behind w, holds head H with its list v -/
structure LB (w W : World) (g : Nat) (H : H8) (v : Value) : Prop where
  below : Below w.heap.size w W
  low : w.heap.size ≤ g
  box : HBox W g H v
  list : FL W v H.fields
  lt : g < W.heap.size
theorem LB.new {w W : World} {H : H8} {v : Value} (hb : Below w.heap.size w W) (hf : FL W v H.fields) : LB w (W.alloc (.cells (hc H v) 25)) W.heap.size H v :=
  ⟨hb.alloc hb.size _, hb.size, ⟨Has.new W _ _⟩, hf.below ((Below.refl _ _).alloc (Nat.le_refl _) _), by simp⟩
theorem LB.call {w W W' : World} {g : Nat} {H : H8} {v : Value} (h : LB w W g H v) (hb : Below W.heap.size W W') : LB w W' g H v :=
  ⟨below_chain h.below hb, h.low, h.box.below hb h.lt, h.list.below hb, Nat.lt_of_lt_of_le h.lt hb.size⟩
theorem LB.alloc {w W : World} {g : Nat} {H : H8} {v : Value} (h : LB w W g H v) (o : Obj) : LB w (W.alloc o) g H v := h.call ((Below.refl _ _).alloc (Nat.le_refl _) o)
/-- an answer with a row of its own is stored over -/
theorem LB.put {w W W' : World} {g : Nat} {H H' : H8} {v v' : Value} (h : LB w W g H v) (hb : Below W.heap.size W W') (hr : RowF W' W.heap.size v' H'.fields) : LB w (hput W' g H' v') g H' v' :=
  ⟨below_hput (below_chain h.below hb) h.low _ _, h.low, (h.box.below hb h.lt).put _ _, fl_of (row_hput hr.1 (g := g) h.lt H' v') (by have := hr.2; omega), by rw [size_hput]; exact Nat.lt_of_lt_of_le h.lt hb.size⟩
theorem LB.drewN {w W : World} {g : Nat} {H : H8} {v : Value} (h : LB w W g H v) (n : Nat) : LB w (W.drewN n) g H v :=
  ⟨below_drewN h.below n, h.low, ⟨h.box.has.drewN n⟩, h.list, h.lt⟩
end Go.Proofs.YtblpooddamkfdaaGreatDoor.Held

/- Layer 10: bodies in chunks, read byte by byte, and written. No program is named. -/
namespace Go.Proofs.YtblpooddamkfdaaGreatDoor.ChunkPure
open Bytes LexPure LexNum HeadPure
set_option maxRecDepth 20000
inductive Ph where
  | size
  | data (left : Nat)
  | after
  | trail (n : Nat)
  | done
  | bad (e : Int)
/-- where the reading stands: the line so far, whether a 13 stands behind it -/
structure M where
  most : Int
  size : Nat
  ph : Ph
  line : List UInt8
  cr : Bool
def begin_ (most : Int) : M := ⟨most, 0, .size, [], false⟩
def bound : Ph → Nat
  | .size => 64
  | .trail _ => 512
  | _ => 0
def extB (c : UInt8) : Bool := c == 9 || (decide (32 ≤ c) && decide (c ≤ 126))
/-- the size that a size line says, or -1 -/
def sizeL (l : List UInt8) : Int := if numOk 16 8 (l.takeWhile (fun c => c != 59)) = true then numR 16 8 (l.takeWhile (fun c => c != 59)) else -1
/-- a line has its semicolon or its colon -/
def parted (l : List UInt8) : Bool := l.any (fun c => c == 59 || c == 58)
/-- may c stand next in a size line, in a trailer? -/
def fitsSize (l : List UInt8) (c : UInt8) : Bool := if parted l = true then extB c else if c = 59 then !l.isEmpty else decide (dig c < 16) && decide (l.length < 8)
def fitsTrail (l : List UInt8) (c : UInt8) : Bool := if parted l = true then plainB c else if c = 58 then !l.isEmpty else markB c
def fits (ph : Ph) (l : List UInt8) (c : UInt8) : Bool :=
  match ph with
  | .size => decide (l.length < 64) && fitsSize l c
  | .trail _ => decide (l.length < 512) && fitsTrail l c
  | _ => false
theorem fits_bound {ph : Ph} {l : List UInt8} {c : UInt8} (h : fits ph l c = true) : l.length < bound ph := by
  unfold fits at h
  unfold bound
  split at h
  · rw [Bool.and_eq_true] at h; exact of_decide_eq_true h.1
  · rw [Bool.and_eq_true] at h; exact of_decide_eq_true h.1
  · cases h
def fail (m : M) (e : Int) : M := ⟨m.most, m.size, .bad e, [], false⟩
def goOn (m : M) (ph : Ph) : M := ⟨m.most, m.size, ph, [], false⟩
/-- a line's end -/
def endLine (m : M) : M :=
  match m.ph with
  | .size => if sizeL m.line < 0 then fail m 100 else if m.most < m.size + sizeL m.line then fail m 101 else if sizeL m.line = 0 then goOn m (.trail 0) else goOn m (.data (sizeL m.line).toNat)
  | .after => goOn m .size
  | .trail n => if m.line = [] then goOn m .done else if (field8 m.line).2 ≠ 0 ∨ n = 32 then fail m 100 else goOn m (.trail (n + 1))
  | _ => m
def lineStep (m : M) (c : UInt8) : M :=
  if m.cr then (if c = 10 then endLine m else fail m 100)
  else if c = 13 then { m with cr := true }
  else if fits m.ph m.line c = true then { m with line := m.line ++ [c] } else fail m 100
def bstep (m : M) (c : UInt8) : M × List UInt8 :=
  match m.ph with
  | .data left => (⟨m.most, m.size + 1, if left ≤ 1 then .after else .data (left - 1), m.line, m.cr⟩, [c])
  | .done => (m, [])
  | .bad _ => (m, [])
  | _ => (lineStep m c, [])
def stop (m : M) : Bool :=
  match m.ph with
  | .done => true
  | .bad _ => true
  | _ => false
def run : M → List UInt8 → M × List UInt8 × Nat
  | m, [] => (m, [], 0)
  | m, c :: l => if stop m = true then (m, [], 0) else ((run (bstep m c).1 l).1, (bstep m c).2 ++ (run (bstep m c).1 l).2.1, (run (bstep m c).1 l).2.2 + 1)
theorem run_stop {m : M} (h : stop m = true) (l : List UInt8) : run m l = (m, [], 0) := by
  cases l with
  | nil => rfl
  | cons c l => unfold run; rw [if_pos h]
theorem run_cons {m : M} (h : stop m = false) (c : UInt8) (l : List UInt8) : run m (c :: l) = ((run (bstep m c).1 l).1, (bstep m c).2 ++ (run (bstep m c).1 l).2.1, (run (bstep m c).1 l).2.2 + 1) := by
  conv => lhs; unfold run
  rw [if_neg (by rw [h]; decide)]
theorem run_append : ∀ (m : M) (a b : List UInt8), run m (a ++ b) = ((run (run m a).1 b).1, (run m a).2.1 ++ (run (run m a).1 b).2.1, (run m a).2.2 + (run (run m a).1 b).2.2)
  | m, [], b => by
    rw [List.nil_append]
    show run m b = ((run m b).1, [] ++ (run m b).2.1, 0 + (run m b).2.2)
    rw [List.nil_append, Nat.zero_add]
  | m, c :: a, b => by
    cases h : stop m
    · rw [List.cons_append, run_cons h, run_cons h, run_append]
      simp only [List.append_assoc]
      congr 2
      omega
    · rw [run_stop h, run_stop h]
      show (m, [], 0) = ((run m b).1, [] ++ (run m b).2.1, 0 + (run m b).2.2)
      rw [run_stop h]
      rfl
theorem run_used (m : M) (l : List UInt8) : (run m l).2.2 ≤ l.length ∧ (run m l).2.1.length ≤ (run m l).2.2 ∧ (stop (run m l).1 = false → (run m l).2.2 = l.length) := by
  induction l generalizing m with
  | nil => exact ⟨Nat.le_refl _, Nat.le_refl _, fun _ => rfl⟩
  | cons c l ih =>
    cases h : stop m
    · rw [run_cons h]
      obtain ⟨h1, h2, h3⟩ := ih (bstep m c).1
      have h4 : (bstep m c).2.length ≤ 1 := by
        unfold bstep
        split <;> simp
      refine ⟨by simpa using h1, ?_, fun hs => ?_⟩
      · rw [List.length_append]
        show _ ≤ (run (bstep m c).1 l).2.2 + 1
        omega
      · show (run (bstep m c).1 l).2.2 + 1 = _
        rw [h3 hs, List.length_cons]
    · rw [run_stop h]
      exact ⟨Nat.zero_le _, Nat.le_refl _, fun hs => by rw [h] at hs; cases hs⟩
/-- the whole is in order -/
structure Ok (m : M) : Prop where
  most : (m.size : Int) ≤ m.most ∨ m.size = 0
  left : ∀ n, m.ph = .data n → 1 ≤ n ∧ (m.size : Int) + n ≤ m.most
  line : m.line.length ≤ 512
  trail : ∀ n, m.ph = .trail n → n ≤ 32
theorem Ok.start (most : Int) : Ok (begin_ most) := ⟨.inr rfl, fun n h => (by cases h), Nat.zero_le _, fun n h => (by cases h)⟩
theorem Ok.fail {m : M} (h : Ok m) (e : Int) : Ok (fail m e) := ⟨h.most, fun n h => (by cases h), Nat.zero_le _, fun n h => (by cases h)⟩
theorem numR_nonneg (base : Nat) (d : Int) (p : List UInt8) : 0 ≤ numR base d p := by
  unfold numR
  split
  · omega
  · exact Int.le_refl 0
theorem Ok.endLine {m : M} (h : Ok m) : Ok (endLine m) := by
  unfold ChunkPure.endLine
  split
  · split
    · exact h.fail _
    · split
      · exact h.fail _
      · split
        · exact ⟨h.most, fun n h => (by cases h), Nat.zero_le _, fun n h => (by cases h; exact Nat.zero_le _)⟩
        · rename_i h1 h2 h3
          refine ⟨h.most, fun n hn => ?_, Nat.zero_le _, fun n h => (by cases h)⟩
          have hn2 : (sizeL m.line).toNat = n := by
            have : Ph.data (sizeL m.line).toNat = Ph.data n := hn
            injection this
          have e : (goOn m (.data (sizeL m.line).toNat)).size = m.size := rfl
          have e2 : (goOn m (.data (sizeL m.line).toNat)).most = m.most := rfl
          rw [e, e2]
          omega
  · exact ⟨h.most, fun n h => (by cases h), Nat.zero_le _, fun n h => (by cases h)⟩
  · rename_i n hp
    split
    · exact ⟨h.most, fun n h => (by cases h), Nat.zero_le _, fun n h => (by cases h)⟩
    · split
      · exact h.fail _
      · rename_i h1 h2
        refine ⟨h.most, fun n h => (by cases h), Nat.zero_le _, fun k hk => ?_⟩
        have hk2 : n + 1 = k := by
          have : Ph.trail (n + 1) = Ph.trail k := hk
          injection this
        have := h.trail n hp
        omega
  · exact h
theorem Ok.lineStep {m : M} (h : Ok m) (c : UInt8) : Ok (lineStep m c) := by
  unfold ChunkPure.lineStep
  split
  · split
    · exact h.endLine
    · exact h.fail _
  · split
    · exact ⟨h.most, h.left, h.line, h.trail⟩
    · split
      rotate_left
      · exact h.fail _
      · rename_i h1 h2 h3
        replace h3 := fits_bound h3
        refine ⟨h.most, h.left, ?_, h.trail⟩
        show (m.line ++ [c]).length ≤ 512
        rw [List.length_append, List.length_singleton]
        have : bound m.ph ≤ 512 := by unfold bound; split <;> omega
        omega
theorem Ok.bstep {m : M} (h : Ok m) (c : UInt8) : Ok (bstep m c).1 := by
  unfold ChunkPure.bstep
  split
  · rename_i left hp
    obtain ⟨h1, h2⟩ := h.left left hp
    refine ⟨.inl (by show ((m.size + 1 : Nat) : Int) ≤ m.most; omega), fun n hn => ?_, h.line, fun n hn => ?_⟩
    · have hn2 : (if left ≤ 1 then Ph.after else Ph.data (left - 1)) = Ph.data n := hn
      by_cases hl : left ≤ 1
      · rw [if_pos hl] at hn2; cases hn2
      · rw [if_neg hl] at hn2
        injection hn2 with hn3
        show 1 ≤ n ∧ ((m.size + 1 : Nat) : Int) + n ≤ m.most
        omega
    · have hn2 : (if left ≤ 1 then Ph.after else Ph.data (left - 1)) = Ph.trail n := hn
      split at hn2 <;> cases hn2
  · exact h
  · exact h
  · exact h.lineStep c
theorem Ok.run {m : M} (h : Ok m) (l : List UInt8) : Ok (run m l).1 := by
  induction l generalizing m with
  | nil => exact h
  | cons c l ih =>
    cases hs : stop m
    · rw [run_cons hs]
      exact ih (h.bstep c)
    · rw [run_stop hs]
      exact h
theorem end_keeps (m : M) : (endLine m).size = m.size ∧ (endLine m).most = m.most := by
  unfold endLine
  split
  · split
    · exact ⟨rfl, rfl⟩
    · split
      · exact ⟨rfl, rfl⟩
      · split <;> exact ⟨rfl, rfl⟩
  · exact ⟨rfl, rfl⟩
  · split
    · exact ⟨rfl, rfl⟩
    · split <;> exact ⟨rfl, rfl⟩
  · exact ⟨rfl, rfl⟩
theorem step_size (m : M) (c : UInt8) : (bstep m c).1.size = m.size + (bstep m c).2.length ∧ (bstep m c).1.most = m.most := by
  unfold bstep
  split
  · exact ⟨rfl, rfl⟩
  · exact ⟨rfl, rfl⟩
  · exact ⟨rfl, rfl⟩
  · unfold lineStep
    split
    · split
      · exact end_keeps m
      · exact ⟨rfl, rfl⟩
    · split
      · exact ⟨rfl, rfl⟩
      · split <;> exact ⟨rfl, rfl⟩
theorem run_size (m : M) (l : List UInt8) : (run m l).1.size = m.size + (run m l).2.1.length ∧ (run m l).1.most = m.most := by
  induction l generalizing m with
  | nil => exact ⟨rfl, rfl⟩
  | cons c l ih =>
    cases hs : stop m
    · rw [run_cons hs]
      obtain ⟨h1, h2⟩ := ih (bstep m c).1
      obtain ⟨h3, h4⟩ := step_size m c
      refine ⟨?_, h2.trans h4⟩
      rw [List.length_append]
      show (run (bstep m c).1 l).1.size = _
      omega
    · rw [run_stop hs]
      exact ⟨rfl, rfl⟩
/-! ### what a call answers -/
/-- the bytes of the body, how many were read, whether it is whole, the error -/
def ans (m : M) (l : List UInt8) : List UInt8 × Nat × Bool × Int :=
  match (run m l).1.ph with
  | .bad e => ([], 0, false, e)
  | .done => ((run m l).2.1, (run m l).2.2, true, 0)
  | _ => ((run m l).2.1, (run m l).2.2, false, 0)
def next (m : M) (l : List UInt8) : M := (run m l).1
theorem ans_used (m : M) (l : List UInt8) : (ans m l).2.1 ≤ l.length ∧ (ans m l).1.length ≤ (ans m l).2.1 ∧ ((ans m l).2.2.2 ≠ 0 → (ans m l).1 = []) := by
  obtain ⟨h1, h2, _⟩ := run_used m l
  unfold ans
  split
  · exact ⟨Nat.zero_le _, Nat.le_refl _, fun _ => rfl⟩
  · exact ⟨h1, h2, fun h => absurd rfl h⟩
  · exact ⟨h1, h2, fun h => absurd rfl h⟩
theorem ans_size (m : M) (l : List UInt8) : m.size + (ans m l).1.length ≤ (next m l).size := by
  have := (run_size m l).1
  unfold ans next
  split
  · show m.size + 0 ≤ _
    omega
  · show m.size + (run m l).2.1.length ≤ _
    omega
  · show m.size + (run m l).2.1.length ≤ _
    omega
/-! ### in whatever pieces -/
/-- no error stands -/
def good (m : M) : Bool :=
  match m.ph with
  | .bad _ => false
  | _ => true
def whole (m : M) : Bool :=
  match m.ph with
  | .done => true
  | _ => false
theorem stop_say (m : M) : stop m = (!good m || whole m) := by
  unfold stop good whole
  split <;> simp_all
theorem ans_good {m : M} {l : List UInt8} (h : good (run m l).1 = true) : ans m l = ((run m l).2.1, (run m l).2.2, whole (run m l).1, 0) := by
  unfold ans whole
  unfold good at h
  split <;> simp_all
theorem ans_bad {m : M} {l : List UInt8} (h : good (run m l).1 = false) : ∃ e, (run m l).1.ph = .bad e ∧ ans m l = ([], 0, false, e) := by
  unfold good at h
  split at h
  · rename_i e he
    refine ⟨e, he, ?_⟩
    unfold ans
    rw [he]
  · cases h
/-- errors have numbers -/
def Told (m : M) : Prop := ∀ e, m.ph = .bad e → e = 100 ∨ e = 101
theorem Told.start (most : Int) : Told (begin_ most) := fun e h => by cases h
theorem told_fail {m : M} {e : Int} (he : e = 100 ∨ e = 101) : Told (fail m e) := fun k h => by
  have : Ph.bad e = Ph.bad k := h
  injection this with h2
  rw [← h2]
  exact he
theorem told_end {m : M} (h : Told m) : Told (endLine m) := by
  unfold endLine
  split
  · split
    · exact told_fail (.inl rfl)
    · split
      · exact told_fail (.inr rfl)
      · split
        · exact fun e he => by cases he
        · exact fun e he => by cases he
  · exact fun e he => by cases he
  · split
    · exact fun e he => by cases he
    · split
      · exact told_fail (.inl rfl)
      · exact fun e he => by cases he
  · exact h
theorem told_step {m : M} (h : Told m) (c : UInt8) : Told (bstep m c).1 := by
  unfold bstep
  split
  · intro e he
    have he2 : (if _ ≤ 1 then Ph.after else Ph.data _) = Ph.bad e := he
    split at he2 <;> cases he2
  · exact h
  · exact h
  · unfold lineStep
    split
    · split
      · exact told_end h
      · exact told_fail (.inl rfl)
    · split
      · exact h
      · split
        · exact h
        · exact told_fail (.inl rfl)
theorem Told.run {m : M} (h : Told m) (l : List UInt8) : Told (run m l).1 := by
  induction l generalizing m with
  | nil => exact h
  | cons c l ih =>
    cases hs : stop m
    · rw [run_cons hs]
      exact ih (told_step h c)
    · rw [run_stop hs]
      exact h
theorem ans_err {m : M} {l : List UInt8} (ht : Told m) : (ans m l).2.2.2 = 0 ↔ good (run m l).1 = true := by
  cases h : good (run m l).1
  · obtain ⟨e, he, ha⟩ := ans_bad h
    rw [ha]
    have := ht.run l e he
    simp
    omega
  · rw [ans_good h]
    simp
theorem next_next (m : M) (a b : List UInt8) : next (next m a) b = next m (a ++ b) := by
  unfold next
  rw [run_append]
theorem piece_bad {m : M} (ht : Told m) {a b d : List UInt8} (h : (ans (next m a) b).2.2.2 ≠ 0) : ans m (a ++ b ++ d) = ([], 0, false, (ans (next m a) b).2.2.2) := by
  have ht2 : Told (next m a) := ht.run a
  have hg : good (run (next m a) b).1 = false := by
    cases q : good (run (next m a) b).1
    · rfl
    · exact absurd ((ans_err ht2).2 q) h
  obtain ⟨e, he, ha⟩ := ans_bad hg
  have h1 : (run m (a ++ b)).1 = (run (next m a) b).1 := by rw [run_append]; rfl
  have hs : stop (run m (a ++ b)).1 = true := by rw [stop_say, h1, hg]; rfl
  have h2 : (run m (a ++ b ++ d)).1 = (run (next m a) b).1 := by
    rw [run_append, run_stop hs, h1]
  rw [ha]
  unfold ans
  rw [h2, he]
theorem piece_ok {m : M} (ht : Told m) {a b : List UInt8} (d : List UInt8) (h : (ans (next m a) b).2.2.2 = 0) :
    good (run m (a ++ b)).1 = true ∧ (run m (a ++ b)).2.1 = (run m a).2.1 ++ (ans (next m a) b).1 ∧ (run m (a ++ b)).2.2 = (run m a).2.2 + (ans (next m a) b).2.1 ∧
      (ans (next m a) b).2.2.1 = ((ans m (a ++ b ++ d)).2.2.1 && decide ((run m (a ++ b)).2.2 = (ans m (a ++ b ++ d)).2.1)) := by
  have ht2 : Told (next m a) := ht.run a
  have hg := (ans_err ht2).1 h
  have h1 : (run m (a ++ b)).1 = (run (next m a) b).1 := by rw [run_append]; rfl
  refine ⟨by rw [h1]; exact hg, by rw [ans_good hg, run_append]; rfl, by rw [ans_good hg, run_append]; rfl, ?_⟩
  rw [show (ans (next m a) b).2.2.1 = whole (run (next m a) b).1 by rw [ans_good hg], ← h1]
  rw [← h1] at hg
  cases hw : whole (run m (a ++ b)).1
  · have hs : stop (run m (a ++ b)).1 = false := by rw [stop_say, hg, hw]; rfl
    cases hr : good (run m (a ++ b ++ d)).1
    · obtain ⟨e, _, ha⟩ := ans_bad hr
      rw [ha]
      rfl
    · rw [ans_good hr]
      cases hw2 : whole (run m (a ++ b ++ d)).1
      · rfl
      · rw [Bool.true_and]
        symm
        rw [decide_eq_false_iff_not]
        intro heq
        have hra := run_append m (a ++ b) d
        have h3 : (run (run m (a ++ b)).1 d).2.2 = 0 := by
          have := congrArg (fun r => r.2.2) hra
          dsimp only at this heq
          omega
        have h4 : (run (run m (a ++ b)).1 d).1 = (run m (a ++ b)).1 := by
          cases d with
          | nil => rfl
          | cons c d =>
            rw [run_cons hs] at h3
            cases h3
        have h5 : (run m (a ++ b ++ d)).1 = (run m (a ++ b)).1 := by rw [hra]; exact h4
        rw [h5, hw] at hw2
        cases hw2
  · have hs : stop (run m (a ++ b)).1 = true := by rw [stop_say, hw, Bool.or_true]
    have h2 : run m (a ++ b ++ d) = run m (a ++ b) := by
      rw [run_append, run_stop hs]
      simp
    have hr : good (run m (a ++ b ++ d)).1 = true := by rw [h2]; exact hg
    rw [ans_good hr, h2, hw]
    simp
end Go.Proofs.YtblpooddamkfdaaGreatDoor.ChunkPure

/- Layer 6: a host, an authority, over lists of bytes. No program is named. -/
namespace Go.Proofs.YtblpooddamkfdaaGreatDoor.HostPure
open LexPure Bytes LexNum CutAt
def alnum (c : UInt8) : Bool := (decide (48 ≤ c.toNat) && decide (c.toNat ≤ 57)) || (decide (65 ≤ c.toNat) && decide (c.toNat ≤ 90)) || (decide (97 ≤ c.toNat) && decide (c.toNat ≤ 122))
def hostC (c : UInt8) : Bool := alnum c || c == 45 || c == 46
/-- two dots side by side -/
def dotted : List UInt8 → Bool
  | a :: b :: s => (a == 46 && b == 46) || dotted (b :: s)
  | _ => false
def host (s : List UInt8) : Bool := !s.isEmpty && decide (s.length ≤ 64) && !dotted s && s.all hostC && alnum (s.headD 0) && alnum (s.getLastD 0)
def portOk (d : List UInt8) : Bool := numOk 10 5 d && decide (1 ≤ numR 10 5 d) && decide (numR 10 5 d ≤ 65535)
def authO (s : List UInt8) : Option (List UInt8 × Int) :=
  if host (aheadOf 58 s) then
    if hasB 58 s then (if portOk (behind 58 s) then some (lower (aheadOf 58 s), numR 10 5 (behind 58 s)) else none)
    else some (lower (aheadOf 58 s), 0)
  else none
def authH (s : List UInt8) : List UInt8 := match authO s with | some (h, _) => h | none => []
def authP (s : List UInt8) : Int := match authO s with | some (_, p) => p | none => 0
def authE (s : List UInt8) : Int := if (authO s).isSome then 0 else 61

/-! ### bytes -/
theorem small_alnum (b : UInt8) : alnum (small b) = alnum b := by
  have := all_bytes (p := fun b => alnum (small b) == alnum b) (by decide +kernel) b
  simpa using this
theorem small_hostC (b : UInt8) : hostC (small b) = hostC b := by
  have := all_bytes (p := fun b => hostC (small b) == hostC b) (by decide +kernel) b
  simpa using this
theorem small_46 (b : UInt8) : (small b == 46) = (b == 46) := by
  have := all_bytes (p := fun b => (small b == 46) == (b == 46)) (by decide +kernel) b
  simpa using this
theorem small_58 (b : UInt8) : (small b == 58) = (b == 58) := by
  have := all_bytes (p := fun b => (small b == 58) == (b == 58)) (by decide +kernel) b
  simpa using this
theorem small_58n (b : UInt8) : (small b != 58) = (b != 58) := by unfold bne; rw [small_58]
theorem small_dig (b : UInt8) : dig (small b) = dig b := by
  have := all_bytes (p := fun b => dig (small b) == dig b) (by decide +kernel) b
  simpa using this
theorem hostC_58 (b : UInt8) (h : hostC b = true) : (b != 58) = true := by
  have := all_bytes (p := fun b => !hostC b || (b != 58)) (by decide +kernel) b
  rw [h] at this
  simpa using this

/-! ### small letters -/
theorem dotted_lower : ∀ s : List UInt8, dotted (lower s) = dotted s
  | [] => rfl
  | [_] => rfl
  | a :: b :: s => by
    have ih := dotted_lower (b :: s)
    unfold lower at ih ⊢
    rw [List.map_cons] at ih
    rw [List.map_cons, List.map_cons, dotted, dotted, ih, small_46, small_46]
theorem headD_lower (s : List UInt8) : alnum ((lower s).headD 0) = alnum (s.headD 0) := by
  cases s with
  | nil => rfl
  | cons c s => exact small_alnum c
theorem getLastD_lower (s : List UInt8) : alnum ((lower s).getLastD 0) = alnum (s.getLastD 0) := by
  unfold lower
  rw [List.getLastD_eq_getLast?, List.getLastD_eq_getLast?, List.getLast?_map]
  cases s.getLast? with
  | none => rfl
  | some c => exact small_alnum c
theorem host_lower (s : List UInt8) : host (lower s) = host s := by
  unfold host
  rw [dotted_lower, headD_lower, getLastD_lower, lower_length]
  have h1 : (lower s).isEmpty = s.isEmpty := by cases s <;> rfl
  have h2 : (lower s).all hostC = s.all hostC := by
    unfold lower
    rw [List.all_map]
    congr 1
    funext c
    exact small_hostC c
  rw [h1, h2]
theorem ahead_lower (s : List UInt8) : aheadOf 58 (lower s) = lower (aheadOf 58 s) := by
  unfold aheadOf lower
  rw [List.takeWhile_map]
  congr 2
  funext c
  exact small_58n c
theorem behind_lower (s : List UInt8) : behind 58 (lower s) = lower (behind 58 s) := by
  unfold behind lower
  rw [List.dropWhile_map, List.map_tail]
  congr 3
  funext c
  exact small_58n c
theorem has_lower (s : List UInt8) : hasB 58 (lower s) = hasB 58 s := by
  unfold hasB lower
  rw [List.any_map]
  congr 1
  funext c
  exact small_58 c
theorem numV_lower (b : Nat) (s : List UInt8) : numV b (lower s) = numV b s := by
  unfold numV lower
  rw [List.foldl_map]
  congr 1
  funext n c
  rw [small_dig]
theorem numOk_lower (b : Nat) (d : Int) (s : List UInt8) : numOk b d (lower s) = numOk b d s := by
  unfold numOk
  rw [lower_length]
  have h1 : (lower s).isEmpty = s.isEmpty := by cases s <;> rfl
  have h2 : (lower s).all (fun c => decide (dig c < b)) = s.all (fun c => decide (dig c < b)) := by
    unfold lower
    rw [List.all_map]
    congr 1
    funext c
    simp only [Function.comp_apply, small_dig]
  rw [h1, h2]
theorem numR_lower (b : Nat) (d : Int) (s : List UInt8) : numR b d (lower s) = numR b d s := by
  unfold numR
  rw [numOk_lower, numV_lower]
theorem portOk_lower (s : List UInt8) : portOk (lower s) = portOk s := by
  unfold portOk
  rw [numOk_lower, numR_lower]
/-- the case of letters doesn't matter -/
theorem authO_lower (s : List UInt8) : authO (lower s) = authO s := by
  unfold authO
  rw [ahead_lower, has_lower, behind_lower, host_lower, portOk_lower, numR_lower, lower_lower]

/-! ### what is told is an authority that means itself -/
theorem ahead_all {s : List UInt8} (h : s.all (fun c => c != 58) = true) (r : List UInt8) : aheadOf 58 (s ++ 58 :: r) = s ∧ behind 58 (s ++ 58 :: r) = r ∧ hasB 58 (s ++ 58 :: r) = true := by
  have h' : ∀ a ∈ s, (a != 58) = true := List.all_eq_true.1 h
  refine ⟨?_, ?_, ?_⟩
  · unfold aheadOf
    rw [List.takeWhile_append_of_pos h', List.takeWhile_cons]
    simp
  · unfold behind
    rw [List.dropWhile_append_of_pos h', List.dropWhile_cons]
    simp
  · unfold hasB
    simp
theorem ahead_self {s : List UInt8} (h : s.all (fun c => c != 58) = true) : aheadOf 58 s = s ∧ hasB 58 s = false := by
  have h' : ∀ a ∈ s, (a != 58) = true := List.all_eq_true.1 h
  refine ⟨?_, ?_⟩
  · have := List.takeWhile_append_of_pos (l₂ := []) h'
    rw [List.append_nil] at this
    unfold aheadOf
    rw [this]
    simp
  · unfold hasB
    rw [List.any_eq_false]
    intro a ha
    simpa using h' a ha
theorem host_no58 {s : List UInt8} (h : host s = true) : s.all (fun c => c != 58) = true := by
  unfold host at h
  simp only [Bool.and_eq_true] at h
  rw [List.all_eq_true]
  exact fun c hc => hostC_58 c (List.all_eq_true.1 h.1.1.2 c hc)
theorem authO_some {s h : List UInt8} {p : Int} (e : authO s = some (h, p)) : host h = true ∧ lower h = h ∧ 0 ≤ p ∧ p ≤ 65535 := by
  unfold authO at e
  split at e
  · rename_i hh
    split at e
    · split at e
      · rename_i hp
        unfold portOk at hp
        simp only [Bool.and_eq_true, decide_eq_true_eq] at hp
        injection e with e
        injection e with e1 e2
        subst e1; subst e2
        exact ⟨by rw [host_lower]; exact hh, lower_lower _, by omega, hp.2⟩
      · cases e
    · injection e with e
      injection e with e1 e2
      subst e1; subst e2
      exact ⟨by rw [host_lower]; exact hh, lower_lower _, by decide, by decide⟩
  · cases e
theorem authO_host {h : List UInt8} (hh : host h = true) (hl : lower h = h) : authO h = some (h, 0) := by
  obtain ⟨h1, h2⟩ := ahead_self (host_no58 hh)
  unfold authO
  rw [h1, h2, hh, hl]
  rfl
theorem authO_port {h : List UInt8} (hh : host h = true) (hl : lower h = h) : authO (h ++ [58, 48, 48, 48, 56, 48]) = some (h, 80) := by
  obtain ⟨h1, h2, h3⟩ := ahead_all (host_no58 hh) [48, 48, 48, 56, 48]
  unfold authO
  rw [h1, h2, h3, hh, hl]
  rfl
theorem auth_none {s : List UInt8} (h : authO s = none) : authH s = [] ∧ authP s = 0 ∧ authE s = 61 := by
  unfold authH authP authE; rw [h]; exact ⟨rfl, rfl, rfl⟩
theorem auth_some {s h : List UInt8} {p : Int} (e : authO s = some (h, p)) : authH s = h ∧ authP s = p ∧ authE s = 0 := by
  unfold authH authP authE; rw [e]; exact ⟨rfl, rfl, rfl⟩
theorem host_len {s : List UInt8} (h : host s = true) : s.length ≤ 64 := by
  unfold host at h
  simp only [Bool.and_eq_true, decide_eq_true_eq] at h
  exact h.1.1.1.1.2
theorem host_ne {s : List UInt8} (h : host s = true) : s ≠ [] := by
  intro e
  subst e
  cases h
end Go.Proofs.YtblpooddamkfdaaGreatDoor.HostPure

/- Paths: escapes, pieces, the normal form. No program is named. -/
namespace Go.Proofs.YtblpooddamkfdaaGreatDoor.PathPure
open LexPure Bytes

/-- a plain byte -/
def plainP (n : Nat) : Bool := n == 45 || n == 46 || n == 95 || n == 126 || (decide (48 ≤ n) && decide (n ≤ 57)) || (decide (65 ≤ n) && decide (n ≤ 90)) || (decide (97 ≤ n) && decide (n ≤ 122))
/-- a byte that a path may have, but for the sign of an escape -/
def okc (c : UInt8) : Bool := decide (33 ≤ c.toNat) && decide (c.toNat ≤ 126) && c != 63 && c != 35
/-- a large digit -/
def hx (n : Nat) : UInt8 := UInt8.ofNat (if n < 10 then 48 + n else 55 + n)
/-- how a byte that was escaped is written -/
def wr (n : Nat) : List UInt8 := if plainP n then [UInt8.ofNat n] else [37, hx (n / 16), hx (n % 16)]
def two (a b : UInt8) : Nat := 16 * dig a + dig b
def isHex (c : UInt8) : Bool := decide (dig c < 16)
/-- plain escapes undone, the others in large digits -/
def esc : List UInt8 → Option (List UInt8)
  | [] => some []
  | c :: s => if okc c then
      if c == 37 then match s with
        | a :: b :: r => if isHex a && isHex b then (esc r).map (wr (two a b) ++ ·) else none
        | _ => none
      else (esc s).map (c :: ·)
    else none
def escapes : List UInt8 → Option (List UInt8)
  | [] => none
  | c :: s => if c == 47 then esc (c :: s) else none
/-- the pieces between slashes -/
def cuts : List UInt8 → List (List UInt8)
  | [] => [[]]
  | c :: s => if c == 47 then [] :: cuts s else match cuts s with
    | [] => [[c]]
    | p :: ps => (c :: p) :: ps
def isDot (p : List UInt8) : Bool := p.isEmpty || p == [46]
def isUp (p : List UInt8) : Bool := p == [46, 46]
/-- the pieces that are kept -/
def keeps : List (List UInt8) → List (List UInt8) → Option (List (List UInt8))
  | kept, [] => some kept
  | kept, p :: ps => if isDot p then keeps kept ps else if isUp p then (if kept.isEmpty then none else keeps kept.dropLast ps) else keeps (kept ++ [p]) ps
def join (kept : List (List UInt8)) : List UInt8 := kept.flatMap (fun p => 47 :: p)
def endsOpen (ps : List (List UInt8)) : Bool := isDot (ps.getLastD []) || isUp (ps.getLastD [])
def finish (kept : List (List UInt8)) (ps : List (List UInt8)) : List UInt8 := if kept.isEmpty || endsOpen ps then join kept ++ [47] else join kept
def normal (s : List UInt8) : Option (List UInt8) :=
  match escapes s with
  | none => none
  | some t => match keeps [] (cuts t.tail) with
    | none => none
    | some kept => some (finish kept (cuts t.tail))
/-- escapes undone -/
def dec : List UInt8 → Option (List UInt8)
  | [] => some []
  | c :: s => if c == 37 then match s with
      | a :: b :: r => if isHex a && isHex b then (dec r).map (UInt8.ofNat (two a b) :: ·) else none
      | _ => none
    else (dec s).map (c :: ·)
def under (p q : List UInt8) : Bool := p.take q.length == q && (p.length == q.length || p[q.length]? == some 47 || q.getLast? == some 47)

theorem esc_cons (c : UInt8) (s : List UInt8) : esc (c :: s) = if okc c then
      if c == 37 then (match s with
        | a :: b :: r => if isHex a && isHex b then (esc r).map (wr (two a b) ++ ·) else none
        | _ => none)
      else (esc s).map (c :: ·)
    else none := by rw [esc.eq_def]
theorem dec_cons (c : UInt8) (s : List UInt8) : dec (c :: s) = if c == 37 then (match s with
      | a :: b :: r => if isHex a && isHex b then (dec r).map (UInt8.ofNat (two a b) :: ·) else none
      | _ => none)
    else (dec s).map (c :: ·) := by rw [dec.eq_def]
theorem cuts_cons (c : UInt8) (s : List UInt8) : cuts (c :: s) = if c == 47 then [] :: cuts s else (match cuts s with
    | [] => [[c]]
    | p :: ps => (c :: p) :: ps) := by rw [cuts.eq_def]
/-! ### what is escaped once -/
/-- a text in which every byte that need not be escaped isn't -/
inductive Enc : List UInt8 → Prop
  | nil : Enc []
  | one (c : UInt8) (r : List UInt8) : okc c = true → (c == 37) = false → Enc r → Enc (c :: r)
  | tri (n : Nat) (r : List UInt8) : n < 256 → plainP n = false → Enc r → Enc (37 :: hx (n / 16) :: hx (n % 16) :: r)
theorem all_below {p : Nat → Bool} (h : (List.range 256).all p = true) {n : Nat} (hn : n < 256) : p n = true := List.all_eq_true.1 h n (List.mem_range.2 hn)
theorem two_lt {a b : UInt8} (ha : isHex a = true) (hb : isHex b = true) : two a b < 256 := by
  unfold isHex at ha hb
  simp only [decide_eq_true_eq] at ha hb
  unfold two
  omega
theorem hx_dig {n : Nat} (h : n < 256) : isHex (hx (n / 16)) = true ∧ isHex (hx (n % 16)) = true ∧ two (hx (n / 16)) (hx (n % 16)) = n := by
  have := all_below (p := fun n => isHex (hx (n / 16)) && isHex (hx (n % 16)) && two (hx (n / 16)) (hx (n % 16)) == n) (by decide +kernel) h
  simpa [and_assoc] using this
theorem hx_okc {n : Nat} (h : n < 256) : okc (hx (n / 16)) = true ∧ okc (hx (n % 16)) = true ∧ (hx (n / 16) == 37) = false ∧ (hx (n % 16) == 37) = false ∧ (hx (n / 16) == 47) = false ∧ (hx (n % 16) == 47) = false := by
  have := all_below (p := fun n => okc (hx (n / 16)) && okc (hx (n % 16)) && !(hx (n / 16) == 37) && !(hx (n % 16) == 37) && !(hx (n / 16) == 47) && !(hx (n % 16) == 47)) (by decide +kernel) h
  simp only [Bool.and_eq_true, Bool.not_eq_true'] at this
  exact ⟨this.1.1.1.1.1, this.1.1.1.1.2, this.1.1.1.2, this.1.1.2, this.1.2, this.2⟩
theorem plain_okc {n : Nat} (h : n < 256) (hp : plainP n = true) : okc (UInt8.ofNat n) = true ∧ (UInt8.ofNat n == 37) = false ∧ (UInt8.ofNat n == 47) = false := by
  have := all_below (p := fun n => !plainP n || (okc (UInt8.ofNat n) && !(UInt8.ofNat n == 37) && !(UInt8.ofNat n == 47))) (by decide +kernel) h
  rw [hp] at this
  simp only [Bool.not_true, Bool.false_or, Bool.and_eq_true, Bool.not_eq_true'] at this
  exact ⟨this.1.1, this.1.2, this.2⟩
theorem enc_wr {n : Nat} (h : n < 256) {r : List UInt8} (hr : Enc r) : Enc (wr n ++ r) := by
  unfold wr
  by_cases hp : plainP n = true
  · rw [if_pos hp]
    have := plain_okc h hp
    exact Enc.one _ _ this.1 this.2.1 hr
  · rw [if_neg hp]
    exact Enc.tri n r h (by simpa using hp) hr
/-- what comes out of escapes is escaped once -/
theorem esc_enc : ∀ (n : Nat) {s t : List UInt8}, s.length ≤ n → esc s = some t → Enc t
  | _, [], t, _, h => by
    simp only [esc, Option.some.injEq] at h
    subst h
    exact Enc.nil
  | 0, c :: s, t, hn, _ => by simp at hn
  | n + 1, c :: s, t, hn, h => by
    rw [esc_cons] at h
    split at h
    · rename_i hc
      split at h
      · split at h
        · rename_i a b r
          split at h
          · rename_i hab
            rw [Bool.and_eq_true] at hab
            obtain ⟨u, hu, rfl⟩ := Option.map_eq_some_iff.1 h
            exact enc_wr (two_lt hab.1 hab.2) (esc_enc n (by simp at hn; omega) hu)
          · cases h
        · cases h
      · rename_i h37
        obtain ⟨u, hu, rfl⟩ := Option.map_eq_some_iff.1 h
        exact Enc.one _ _ hc (by simpa using h37) (esc_enc n (by simp at hn; omega) hu)
    · cases h
theorem enc_esc {t : List UInt8} (h : Enc t) : esc t = some t := by
  induction h with
  | nil => rfl
  | one c r hc h37 _ ih => rw [esc_cons, if_pos hc, if_neg (by simp [h37]), ih]; rfl
  | tri n r hn hp _ ih =>
    have hd := hx_dig hn
    have h37 : okc 37 = true := by decide
    rw [esc_cons, if_pos h37, if_pos (by decide)]
    simp only [hd.1, hd.2.1, Bool.and_self, if_true, hd.2.2, ih]
    unfold wr
    rw [hp]
    rfl
theorem esc_append : ∀ (n : Nat) {s t : List UInt8} (r : List UInt8), s.length ≤ n → esc s = some t → esc (s ++ r) = (esc r).map (t ++ ·)
  | _, [], t, r, _, h => by
    simp only [esc, Option.some.injEq] at h
    subst h
    simp
  | 0, c :: s, t, r, hn, _ => by simp at hn
  | n + 1, c :: s, t, r, hn, h => by
    rw [esc_cons] at h
    split at h
    · rename_i hc
      split at h
      · rename_i h37
        split at h
        · rename_i a b q
          split at h
          · rename_i hab
            obtain ⟨u, hu, rfl⟩ := Option.map_eq_some_iff.1 h
            have ih := esc_append n r (s := q) (by simp at hn; omega) hu
            show esc (c :: a :: b :: (q ++ r)) = _
            rw [esc_cons, if_pos hc, if_pos h37]
            simp only [hab, if_true, ih, Option.map_map]
            congr 1
            funext x
            simp
          · cases h
        · cases h
      · rename_i h37
        obtain ⟨u, hu, rfl⟩ := Option.map_eq_some_iff.1 h
        have ih := esc_append n r (s := s) (by simp at hn; omega) hu
        show esc (c :: (s ++ r)) = _
        rw [esc_cons, if_pos hc, if_neg h37, ih, Option.map_map]
        congr 1
    · cases h
theorem enc_append {s t : List UInt8} (hs : Enc s) (ht : Enc t) : Enc (s ++ t) := by
  induction hs with
  | nil => exact ht
  | one c r hc h37 _ ih => exact Enc.one c _ hc h37 ih
  | tri n r hn hp _ ih => exact Enc.tri n _ hn hp ih

/-! ### pieces -/
theorem cuts_ne (s : List UInt8) : cuts s ≠ [] := by
  cases s with
  | nil => simp [cuts]
  | cons c s =>
    rw [cuts_cons]
    split
    · simp
    · split <;> simp
def noSlash (p : List UInt8) : Bool := p.all (fun c => c != 47)
theorem cuts_plain : ∀ {p : List UInt8}, noSlash p = true → cuts p = [p]
  | [], _ => rfl
  | c :: p, h => by
    unfold noSlash at h
    rw [List.all_cons, Bool.and_eq_true] at h
    rw [cuts_cons, if_neg (by simpa using h.1), cuts_plain (p := p) h.2]
theorem cuts_cut : ∀ {p : List UInt8} {r : List UInt8}, noSlash p = true → cuts (p ++ 47 :: r) = p :: cuts r
  | [], r, _ => by
    show cuts (47 :: r) = _
    rw [cuts_cons, if_pos (by decide)]
  | c :: p, r, h => by
    unfold noSlash at h
    rw [List.all_cons, Bool.and_eq_true] at h
    show cuts (c :: (p ++ 47 :: r)) = _
    rw [cuts_cons, if_neg (by simpa using h.1), cuts_cut (p := p) (r := r) h.2]
/-- what stands ahead doesn't hang on what stands behind a slash -/
theorem cuts_append : ∀ (s r : List UInt8), cuts (s ++ 47 :: r) = cuts s ++ cuts r
  | [], r => by
    show cuts (47 :: r) = _
    rw [cuts_cons, if_pos (by decide)]
    rfl
  | c :: s, r => by
    have ih := cuts_append s r
    show cuts (c :: (s ++ 47 :: r)) = cuts (c :: s) ++ cuts r
    rw [cuts_cons, cuts_cons]
    split
    · rw [ih]; rfl
    · rw [ih]
      cases h : cuts s with
      | nil => exact absurd h (cuts_ne s)
      | cons p ps => rfl
theorem cuts_noSlash : ∀ {s p : List UInt8}, p ∈ cuts s → noSlash p = true
  | [], p, h => by
    simp only [cuts, List.mem_singleton] at h
    subst h
    rfl
  | c :: s, p, h => by
    rw [cuts_cons] at h
    by_cases hc : (c == 47) = true
    · rw [if_pos hc, List.mem_cons] at h
      rcases h with rfl | h
      · rfl
      · exact cuts_noSlash h
    · rw [if_neg hc] at h
      have hc' : (c == 47) = false := by simpa using hc
      split at h
      · rename_i hp
        exact absurd hp (cuts_ne s)
      · rename_i q qs hp
        rw [List.mem_cons] at h
        rcases h with rfl | h
        · have := cuts_noSlash (s := s) (p := q) (by rw [hp]; simp)
          unfold noSlash at *
          rw [List.all_cons, this]
          simp [bne, hc']
        · exact cuts_noSlash (s := s) (p := p) (by rw [hp]; simp [h])
theorem cuts_enc {t : List UInt8} (h : Enc t) : ∀ p ∈ cuts t, Enc p := by
  induction h with
  | nil =>
    intro p hp
    simp only [cuts, List.mem_singleton] at hp
    subst hp
    exact Enc.nil
  | one c r hc h37 _ ih =>
    intro p hp
    rw [cuts_cons] at hp
    split at hp
    · rw [List.mem_cons] at hp
      rcases hp with rfl | hp
      · exact Enc.nil
      · exact ih p hp
    · split at hp
      · rename_i hq
        exact absurd hq (cuts_ne r)
      · rename_i q qs hq
        rw [List.mem_cons] at hp
        rcases hp with rfl | hp
        · exact Enc.one c q hc h37 (ih q (by rw [hq]; simp))
        · exact ih p (by rw [hq]; simp [hp])
  | tri n r hn hp _ ih =>
    intro p hm
    have hk := hx_okc hn
    obtain ⟨q, qs, hq⟩ : ∃ q qs, cuts r = q :: qs := by
      cases h : cuts r with
      | nil => exact absurd h (cuts_ne r)
      | cons q qs => exact ⟨q, qs, rfl⟩
    have e : cuts (37 :: hx (n / 16) :: hx (n % 16) :: r) = (37 :: hx (n / 16) :: hx (n % 16) :: q) :: qs := by
      rw [cuts_cons, if_neg (by decide), cuts_cons, if_neg (by simp [hk.2.2.2.2.1]), cuts_cons, if_neg (by simp [hk.2.2.2.2.2]), hq]
    rw [e, List.mem_cons] at hm
    rcases hm with rfl | hm
    · exact Enc.tri n q hn hp (ih q (by rw [hq]; simp))
    · exact ih p (by rw [hq]; simp [hm])
end Go.Proofs.YtblpooddamkfdaaGreatDoor.PathPure

/- The normal form of a path: it is its own, and how it goes on. No program is named. -/
namespace Go.Proofs.YtblpooddamkfdaaGreatDoor.PathForm
open LexPure Bytes PathPure

/-- a piece that may be kept -/
structure CleanP (p : List UInt8) : Prop where
  dot : isDot p = false
  up : isUp p = false
  no : noSlash p = true
  enc : Enc p
/-- the text of kept pieces, with a slash behind or not -/
def form (kept : List (List UInt8)) (tr : Bool) : List UInt8 := if tr then join kept ++ [47] else join kept
theorem keeps_append : ∀ (ps qs kept : List (List UInt8)), keeps kept (ps ++ qs) = (keeps kept ps).bind (fun k => keeps k qs)
  | [], qs, kept => rfl
  | p :: ps, qs, kept => by
    show keeps kept (p :: (ps ++ qs)) = _
    rw [keeps, keeps]
    split
    · exact keeps_append ps qs kept
    · split
      · split
        · rfl
        · exact keeps_append ps qs _
      · exact keeps_append ps qs _
theorem keeps_clean : ∀ (ps kept : List (List UInt8)), (∀ p ∈ ps, CleanP p) → keeps kept ps = some (kept ++ ps)
  | [], kept, _ => by simp [keeps]
  | p :: ps, kept, h => by
    have hp := h p (by simp)
    rw [keeps, if_neg (by simp [hp.dot]), if_neg (by simp [hp.up]), keeps_clean ps _ (fun q hq => h q (by simp [hq]))]
    simp
theorem keeps_kept : ∀ (ps kept out : List (List UInt8)), (∀ p ∈ kept, CleanP p) → (∀ p ∈ ps, Enc p ∧ noSlash p = true) → keeps kept ps = some out → ∀ p ∈ out, CleanP p
  | [], kept, out, hk, _, h => by
    simp only [keeps, Option.some.injEq] at h
    subst h
    exact hk
  | p :: ps, kept, out, hk, hp, h => by
    have hps : ∀ q ∈ ps, Enc q ∧ noSlash q = true := fun q hq => hp q (by simp [hq])
    rw [keeps] at h
    split at h
    · exact keeps_kept ps kept out hk hps h
    · rename_i h1
      split at h
      · split at h
        · cases h
        · exact keeps_kept ps _ out (fun q hq => hk q ((List.dropLast_sublist kept).subset hq)) hps h
      · rename_i h2
        refine keeps_kept ps _ out (fun q hq => ?_) hps h
        rw [List.mem_append, List.mem_singleton] at hq
        rcases hq with hq | rfl
        · exact hk q hq
        · have := hp q (by simp)
          exact ⟨by simpa using h1, by simpa using h2, this.2, this.1⟩
theorem enc_slash {r : List UInt8} (h : Enc r) : Enc (47 :: r) := Enc.one 47 r (by decide) (by decide) h
theorem join_enc : ∀ {kept : List (List UInt8)}, (∀ p ∈ kept, CleanP p) → Enc (join kept)
  | [], _ => Enc.nil
  | p :: ps, h => by
    show Enc ((47 :: p) ++ join ps)
    exact enc_append (enc_slash (h p (by simp)).enc) (join_enc (fun q hq => h q (by simp [hq])))
theorem form_enc {kept : List (List UInt8)} {tr : Bool} (h : ∀ p ∈ kept, CleanP p) : Enc (form kept tr) := by
  unfold form
  split
  · exact enc_append (join_enc h) (enc_slash Enc.nil)
  · exact join_enc h
/-- a form with something behind -/
theorem cuts_join : ∀ (kept : List (List UInt8)) (r : List UInt8), (∀ p ∈ kept, CleanP p) → cuts (join kept ++ 47 :: r).tail = kept ++ cuts r
  | [], r, _ => rfl
  | p :: ps, r, h => by
    have hp := h p (by simp)
    have ih := cuts_join ps r (fun q hq => h q (by simp [hq]))
    have e : (join (p :: ps) ++ 47 :: r).tail = p ++ (join ps ++ 47 :: r) := by
      show (((47 :: p) ++ join ps) ++ 47 :: r).tail = _
      simp
    rw [e]
    obtain ⟨t, ht⟩ : ∃ t, join ps ++ 47 :: r = 47 :: t := by
      cases ps with
      | nil => exact ⟨r, rfl⟩
      | cons q qs => exact ⟨q ++ join qs ++ 47 :: r, by show ((47 :: q) ++ join qs) ++ 47 :: r = _; simp⟩
    rw [ht] at ih ⊢
    rw [cuts_cut hp.no]
    show p :: cuts t = p :: (ps ++ cuts r)
    rw [show cuts t = ps ++ cuts r from ih]
theorem cuts_join_end (kept : List (List UInt8)) (hne : kept ≠ []) (h : ∀ p ∈ kept, CleanP p) : cuts (join kept).tail = kept := by
  obtain ⟨l, p, rfl⟩ : ∃ l p, kept = l ++ [p] := ⟨kept.dropLast, kept.getLast hne, (List.dropLast_concat_getLast hne).symm⟩
  have hp := h p (by simp)
  have e : join (l ++ [p]) = join l ++ 47 :: p := by simp [join]
  rw [e, cuts_join l p (fun q hq => h q (by simp [hq])), cuts_plain hp.no]
/-- a form's pieces -/
theorem cuts_form (kept : List (List UInt8)) (tr : Bool) (hf : kept = [] → tr = true) (h : ∀ p ∈ kept, CleanP p) : cuts (form kept tr).tail = kept ++ (if tr then [[]] else []) := by
  unfold form
  cases tr with
  | true => exact cuts_join kept [] h
  | false =>
    have hne : kept ≠ [] := fun e => by cases hf e
    simp only [Bool.false_eq_true, if_false, List.append_nil]
    exact cuts_join_end kept hne h
/-- the pieces of a form with more behind it -/
theorem cuts_more (kept : List (List UInt8)) (tr : Bool) (hf : kept = [] → tr = true) (h : ∀ p ∈ kept, CleanP p) (r : List UInt8) : cuts (form kept tr ++ 47 :: r).tail = (kept ++ (if tr then [[]] else [])) ++ cuts r := by
  have hne : form kept tr ≠ [] := by
    unfold form
    cases tr with
    | true => simp
    | false =>
      cases kept with
      | nil => cases hf rfl
      | cons p ps => show (47 :: p) ++ join ps ≠ []; simp
  have e : (form kept tr ++ 47 :: r).tail = (form kept tr).tail ++ 47 :: r := List.tail_append_of_ne_nil hne
  rw [e, cuts_append, cuts_form kept tr hf h]
theorem form_head (kept : List (List UInt8)) (tr : Bool) (hf : kept = [] → tr = true) : ∃ t, form kept tr = 47 :: t := by
  unfold form
  cases kept with
  | nil => rw [hf rfl]; exact ⟨[], rfl⟩
  | cons p ps => cases tr <;> exact ⟨_, rfl⟩
theorem keeps_trail (kept : List (List UInt8)) (tr : Bool) (h : ∀ p ∈ kept, CleanP p) : keeps [] (kept ++ (if tr then [[]] else [])) = some kept := by
  rw [keeps_append, keeps_clean kept [] h]
  cases tr <;> simp [keeps, isDot]
/-- what is answered is a form -/
theorem normal_form {s t : List UInt8} (h : normal s = some t) : ∃ kept tr, t = form kept tr ∧ (kept = [] → tr = true) ∧ (∀ p ∈ kept, CleanP p) := by
  unfold normal at h
  split at h
  · cases h
  · rename_i u hu
    split at h
    · cases h
    · rename_i kept hk
      injection h with h
      have hu2 : ∃ c r, s = c :: r ∧ esc (c :: r) = some u := by
        cases s with
        | nil => cases hu
        | cons c r =>
          refine ⟨c, r, rfl, ?_⟩
          have hu : (if (c == 47) = true then esc (c :: r) else none) = some u := hu
          by_cases h47 : (c == 47) = true
          · rwa [if_pos h47] at hu
          · rw [if_neg h47] at hu
            cases hu
      obtain ⟨c, r, rfl, hu2⟩ := hu2
      have he := esc_enc _ (Nat.le_refl _) hu2
      have het : Enc u.tail := by
        cases u with
        | nil => exact Enc.nil
        | cons d v =>
          have hu : (if (c == 47) = true then esc (c :: r) else none) = some (d :: v) := hu
          by_cases h47 : (c == 47) = true
          · rw [if_pos h47] at hu
            have hc : c = 47 := by simpa using h47
            subst hc
            rw [esc_cons, if_pos (by decide), if_neg (by decide)] at hu
            obtain ⟨v', hv', e⟩ := Option.map_eq_some_iff.1 hu
            injection e with e1 e2
            subst e2
            exact esc_enc _ (Nat.le_refl _) hv'
          · rw [if_neg h47] at hu
            cases hu
      have hclean := keeps_kept _ [] kept (fun p hp => by simp at hp) (fun p hp => ⟨cuts_enc het p hp, cuts_noSlash hp⟩) hk
      subst h
      unfold finish
      refine ⟨kept, kept.isEmpty || endsOpen (cuts u.tail), ?_, fun e => by simp [e], hclean⟩
      unfold form
      rfl
/-- how a form goes on: the escapes of it are itself -/
theorem escapes_more {kept : List (List UInt8)} {tr : Bool} (hf : kept = [] → tr = true) (h : ∀ p ∈ kept, CleanP p) {r u : List UInt8} (hr : esc r = some u) : escapes (form kept tr ++ r) = some (form kept tr ++ u) := by
  obtain ⟨t, ht⟩ := form_head kept tr hf
  have he := enc_esc (form_enc (tr := tr) h)
  have := esc_append _ r (Nat.le_refl _) he
  rw [hr] at this
  rw [ht] at this ⊢
  show (if (47 == (47 : UInt8)) = true then esc (47 :: t ++ r) else none) = _
  rw [if_pos (by decide), this]
  rfl
/-- a normal form is its own -/
theorem normal_fixed {kept : List (List UInt8)} {tr : Bool} (hf : kept = [] → tr = true) (h : ∀ p ∈ kept, CleanP p) : normal (form kept tr) = some (form kept tr) := by
  have he := escapes_more hf h (r := []) (u := []) rfl
  rw [List.append_nil] at he
  unfold normal
  rw [he]
  simp only
  rw [cuts_form kept tr hf h, keeps_trail kept tr h]
  simp only
  congr 1
  unfold finish form
  cases tr with
  | true => simp [endsOpen, isDot]
  | false =>
    have hne : kept ≠ [] := fun e => by cases hf e
    obtain ⟨l, p, rfl⟩ : ∃ l p, kept = l ++ [p] := ⟨kept.dropLast, kept.getLast hne, (List.dropLast_concat_getLast hne).symm⟩
    have hp := h p (by simp)
    simp [endsOpen, hp.dot, hp.up]
theorem normal_normal {s t : List UInt8} (h : normal s = some t) : normal t = some t := by
  obtain ⟨kept, tr, rfl, hf, hc⟩ := normal_form h
  exact normal_fixed hf hc
end Go.Proofs.YtblpooddamkfdaaGreatDoor.PathForm

/- Paths: the normal form is not longer. No program is named. -/
namespace Go.Proofs.YtblpooddamkfdaaGreatDoor.PathLen
open LexPure Bytes PathPure PathForm
/-- what pieces weigh, a slash each -/
def wt (ps : List (List UInt8)) : Nat := (ps.map (fun p => p.length + 1)).sum
theorem wt_append (a b : List (List UInt8)) : wt (a ++ b) = wt a + wt b := by simp [wt]
theorem wt_cuts : ∀ s : List UInt8, wt (cuts s) = s.length + 1
  | [] => rfl
  | c :: s => by
    have ih := wt_cuts s
    rw [cuts_cons]
    split
    · show 1 + wt (cuts s) = _
      rw [ih]
      simp
      omega
    · cases h : cuts s with
      | nil => exact absurd h (cuts_ne s)
      | cons p ps =>
        rw [h] at ih
        simp [wt] at ih ⊢
        omega
theorem join_wt (k : List (List UInt8)) : (join k).length = wt k := by
  induction k with
  | nil => rfl
  | cons p k ih =>
    show ((47 :: p) ++ join k).length = _
    rw [List.length_append, ih]
    simp [wt]
theorem wt_dropLast (k : List (List UInt8)) : wt k.dropLast ≤ wt k := by
  rcases List.eq_nil_or_concat k with rfl | ⟨l, p, rfl⟩
  · exact Nat.le_refl _
  · simp [wt]
theorem keeps_wt : ∀ (ps G K : List (List UInt8)), keeps G ps = some K → wt K ≤ wt G + wt ps
  | [], G, K, h => by
    simp only [keeps, Option.some.injEq] at h
    subst h
    exact Nat.le_add_right _ _
  | p :: ps, G, K, h => by
    have hw : wt (p :: ps) = p.length + 1 + wt ps := by simp [wt]
    rw [keeps] at h
    split at h
    · have := keeps_wt ps G K h
      omega
    · split at h
      · split at h
        · cases h
        · have := keeps_wt ps _ K h
          have := wt_dropLast G
          omega
      · have := keeps_wt ps _ K h
        rw [wt_append] at this
        have : wt [p] = p.length + 1 := by simp [wt]
        omega
theorem keeps_open {ps G K : List (List UInt8)} (hne : ps ≠ []) (ho : endsOpen ps = true) (h : keeps G ps = some K) : wt K + 1 ≤ wt G + wt ps := by
  rcases List.eq_nil_or_concat ps with rfl | ⟨l, p, rfl⟩
  · exact absurd rfl hne
  · rw [List.concat_eq_append] at *
    rw [keeps_append] at h
    obtain ⟨k, hk, h2⟩ := Option.bind_eq_some_iff.1 h
    have h1 := keeps_wt l G k hk
    rw [wt_append]
    have hp : wt [p] = p.length + 1 := by simp [wt]
    unfold endsOpen at ho
    rw [List.getLastD_eq_getLast?, List.getLast?_append] at ho
    simp only [List.getLast?_singleton, Option.some_or, Option.getD_some, Bool.or_eq_true] at ho
    rw [keeps] at h2
    split at h2
    · simp only [keeps, Option.some.injEq] at h2
      subst h2
      omega
    · split at h2
      · split at h2
        · cases h2
        · simp only [keeps, Option.some.injEq] at h2
          subst h2
          have := wt_dropLast k
          omega
      · rename_i a b
        rcases ho with h | h
        · exact absurd h a
        · exact absurd h b
theorem finish_len {u : List UInt8} {K : List (List UInt8)} (hu : 1 ≤ u.length) (h : keeps [] (cuts u.tail) = some K) : (finish K (cuts u.tail)).length ≤ u.length := by
  have hw := wt_cuts u.tail
  have h1 := keeps_wt _ _ _ h
  have hl : u.tail.length + 1 = u.length := by rw [List.length_tail]; omega
  have h0 : wt [] = 0 := rfl
  unfold finish
  split
  · rename_i hb
    rw [List.length_append, join_wt]
    rw [Bool.or_eq_true] at hb
    rcases hb with hb | hb
    · have : K = [] := List.isEmpty_iff.1 hb
      subst this
      simp [wt]
      omega
    · have := keeps_open (cuts_ne _) hb h
      simp
      omega
  · rw [join_wt]
    omega
theorem normal_len {s t : List UInt8} (he : ∀ u, escapes s = some u → 1 ≤ u.length ∧ u.length ≤ s.length) (h : normal s = some t) : t.length ≤ s.length := by
  unfold normal at h
  split at h
  · cases h
  · rename_i u hu
    split at h
    · cases h
    · rename_i K hK
      injection h with h
      subst h
      have := he u hu
      have := finish_len this.1 hK
      omega
/-- a form's last byte -/
theorem form_last (kept : List (List UInt8)) (tr : Bool) (hf : kept = [] → tr = true) (hc : ∀ p ∈ kept, CleanP p) : ((form kept tr).getLast? == some 47) = tr := by
  unfold form
  cases tr with
  | true => simp
  | false =>
    have hne : kept ≠ [] := fun e => by cases hf e
    obtain ⟨l, p, rfl⟩ : ∃ l p, kept = l ++ [p] := ⟨kept.dropLast, kept.getLast hne, (List.dropLast_concat_getLast hne).symm⟩
    have hp := hc p (by simp)
    have e : join (l ++ [p]) = join l ++ 47 :: p := by simp [join]
    simp only [Bool.false_eq_true, if_false]
    rw [e, List.getLast?_append]
    have hpn : p ≠ [] := fun h => by have := hp.dot; rw [h] at this; exact absurd this (by decide)
    have hl : (47 :: p).getLast? = some (p.getLast hpn) := by
      rw [List.getLast?_eq_some_getLast (by simp), List.getLast_cons hpn]
    rw [hl]
    simp only [Option.some_or]
    rw [beq_eq_false_iff_ne]
    intro h
    injection h with h
    have := hp.no
    unfold noSlash at this
    rw [List.all_eq_true] at this
    have h2 := this _ (List.getLast_mem hpn)
    rw [h] at h2
    exact absurd h2 (by decide)
end Go.Proofs.YtblpooddamkfdaaGreatDoor.PathLen

/- Layer 5 of the program: what one round of its loops over a text takes off the front. No program is named. -/
namespace Go.Proofs.YtblpooddamkfdaaGreatDoor.PEsc
open LexPure Bytes PathPure
/-- whether an escape stands at the front -/
def escO : List UInt8 → Bool
  | _ :: a :: b :: _ => isHex a && isHex b
  | _ => false
/-- the byte of the escape at the front, else 0 -/
def escN : List UInt8 → Nat
  | _ :: a :: b :: _ => if isHex a && isHex b then two a b else 0
  | _ => 0
theorem escN_lt (s : List UInt8) : escN s < 256 := by
  unfold escN
  split
  · split
    · rename_i h
      rw [Bool.and_eq_true] at h
      exact two_lt h.1 h.2
    · decide
  · decide
theorem esc_three {s : List UInt8} (h : escO s = true) : 3 ≤ s.length := by
  unfold escO at h
  split at h
  · simp
  · cases h
theorem dec_yes {t : List UInt8} (h : escO (37 :: t) = true) : dec (37 :: t) = (dec ((37 :: t).drop 3)).map (UInt8.ofNat (escN (37 :: t)) :: ·) := by
  rw [dec_cons, if_pos (by decide)]
  match t with
  | [] => cases h
  | [_] => cases h
  | a :: b :: r =>
    have hh : (isHex a && isHex b) = true := h
    have e : escN (37 :: a :: b :: r) = two a b := by unfold escN; simp only; rw [if_pos hh]
    simp only [hh, if_true, e]
    rfl
theorem dec_no {t : List UInt8} (h : escO (37 :: t) = false) : dec (37 :: t) = none := by
  rw [dec_cons, if_pos (by decide)]
  match t with
  | [] => rfl
  | [_] => rfl
  | a :: b :: r =>
    have hh : (isHex a && isHex b) = false := h
    simp only [hh]
    rfl
theorem dec_other {c : UInt8} {t : List UInt8} (h : ¬ c = 37) : dec (c :: t) = (dec t).map (c :: ·) := by
  rw [dec_cons, if_neg (by simpa using h)]
theorem esc_bad {c : UInt8} {t : List UInt8} (h : okc c = false) : esc (c :: t) = none := by
  rw [esc_cons, if_neg (by simp [h])]
theorem esc_other {c : UInt8} {t : List UInt8} (h0 : okc c = true) (h : ¬ c = 37) : esc (c :: t) = (esc t).map (c :: ·) := by
  rw [esc_cons, if_pos h0, if_neg (by simpa using h)]
theorem esc_yes {t : List UInt8} (h : escO (37 :: t) = true) : esc (37 :: t) = (esc ((37 :: t).drop 3)).map (wr (escN (37 :: t)) ++ ·) := by
  rw [esc_cons, if_pos (by decide), if_pos (by decide)]
  match t with
  | [] => cases h
  | [_] => cases h
  | a :: b :: r =>
    have hh : (isHex a && isHex b) = true := h
    have e : escN (37 :: a :: b :: r) = two a b := by unfold escN; simp only; rw [if_pos hh]
    simp only [hh, if_true, e]
    rfl
theorem esc_no {t : List UInt8} (h : escO (37 :: t) = false) : esc (37 :: t) = none := by
  rw [esc_cons, if_pos (by decide), if_pos (by decide)]
  match t with
  | [] => rfl
  | [_] => rfl
  | a :: b :: r =>
    have hh : (isHex a && isHex b) = false := h
    simp only [hh]
    rfl
theorem wr_le (n : Nat) : (wr n).length ≤ 3 := by unfold wr; split <;> simp
theorem map_map {o : Option (List UInt8)} (acc x : List UInt8) : (o.map (x ++ ·)).map (acc ++ ·) = o.map ((acc ++ x) ++ ·) := by
  cases o <;> simp
theorem map_cons {o : Option (List UInt8)} (acc : List UInt8) (c : UInt8) : (o.map (c :: ·)).map (acc ++ ·) = o.map ((acc ++ [c]) ++ ·) := by
  cases o <;> simp
end Go.Proofs.YtblpooddamkfdaaGreatDoor.PEsc

/- Layer 6: what a target means, over lists of bytes. No program is named. -/
namespace Go.Proofs.YtblpooddamkfdaaGreatDoor.TargetPure
open LexPure Bytes LexNum CutAt HostPure PathPure PathForm PathLen
structure Tgt where
  form : Int
  host : List UInt8
  port : Int
  path : List UInt8
  query : List UInt8
  has : Bool
def zero : Tgt := ⟨0, [], 0, [], [], false⟩
def qc (c : UInt8) : Bool := decide (33 ≤ c.toNat) && decide (c.toNat ≤ 126) && c != 35
def qok (s : List UInt8) : Bool := s.all qc
/-- path and query -/
def local6 (t : Tgt) (s : List UInt8) : Tgt × Int :=
  match normal (aheadOf 63 s) with
  | none => (zero, 50)
  | some p => if qok (behind 63 s) then ({ t with path := p, query := behind 63 s, has := hasB 63 s }, 0) else (zero, 60)
def endC (c : UInt8) : Bool := c == 47 || c == 63
def inA (s : List UInt8) : List UInt8 := s.takeWhile (fun c => !endC c)
def outA (s : List UInt8) : List UInt8 := s.dropWhile (fun c => !endC c)
def slashed (s : List UInt8) : List UInt8 := if s.head? == some 47 then s else 47 :: s
def CONNECT : List UInt8 := [67, 79, 78, 78, 69, 67, 84]
def OPTIONS : List UInt8 := [79, 80, 84, 73, 79, 78, 83]
def SCHEME : List UInt8 := [104, 116, 116, 112, 58, 47, 47]
def remote6 (s : List UInt8) : Tgt × Int :=
  match authO s with
  | some (h, p) => if p = 0 then (zero, 60) else (⟨3, h, p, [], [], false⟩, 0)
  | none => (zero, 60)
def star6 (m : List UInt8) : Tgt × Int := if m == OPTIONS then (⟨4, [], 0, [], [], false⟩, 0) else (zero, 60)
def absolute6 (s : List UInt8) : Tgt × Int :=
  match authO (inA s) with
  | some (h, p) => local6 ⟨2, h, p, [], [], false⟩ (slashed (outA s))
  | none => (zero, 61)
def hasScheme (s : List UInt8) : Bool := decide (7 ≤ s.length) && alike (s.take 7) SCHEME
def parse6 (m s : List UInt8) : Tgt × Int :=
  if m == CONNECT then remote6 s
  else if s == [42] then star6 m
  else if s.head? == some 47 then local6 ⟨1, [], 0, [], [], false⟩ s
  else if hasScheme s then absolute6 (s.drop 7)
  else (zero, 60)
def origin6 (t : Tgt) : List UInt8 :=
  if t.form = 1 ∨ t.form = 2 then (if t.has then t.path ++ 63 :: t.query else t.path)
  else if t.form = 4 then [42] else []

/-! ### what comes out -/
theorem local_cases (t : Tgt) (s : List UInt8) : (local6 t s = (zero, 50)) ∨ (local6 t s = (zero, 60)) ∨
    ∃ p, normal (aheadOf 63 s) = some p ∧ qok (behind 63 s) = true ∧ local6 t s = ({ t with path := p, query := behind 63 s, has := hasB 63 s }, 0) := by
  unfold local6
  split
  · exact .inl rfl
  · rename_i p hp
    by_cases h : qok (behind 63 s) = true
    · exact .inr (.inr ⟨p, hp, h, by rw [if_pos h]⟩)
    · exact .inr (.inl (by rw [if_neg h]))
/-- an error comes with the zero target -/
theorem local_err (t : Tgt) (s : List UInt8) (h : (local6 t s).2 ≠ 0) : (local6 t s).1 = zero := by
  rcases local_cases t s with e | e | ⟨p, _, _, e⟩ <;> rw [e] at h ⊢
  exact absurd rfl h
theorem parse_err (m s : List UInt8) (h : (parse6 m s).2 ≠ 0) : (parse6 m s).1 = zero := by
  unfold parse6 at h ⊢
  split
  · rename_i hm
    rw [if_pos hm] at h
    unfold remote6 at h ⊢
    split
    · rename_i a b ha
      rw [ha] at h
      simp only at h
      split
      · rfl
      · rename_i hb
        rw [if_neg hb] at h
        exact absurd rfl h
    · rfl
  · rename_i hm
    rw [if_neg hm] at h
    split
    · rename_i hs
      rw [if_pos hs] at h
      unfold star6 at h ⊢
      split
      · rename_i ho
        rw [if_pos ho] at h
        exact absurd rfl h
      · rfl
    · rename_i hs
      rw [if_neg hs] at h
      split
      · rename_i hh
        rw [if_pos hh] at h
        exact local_err _ _ h
      · rename_i hh
        rw [if_neg hh] at h
        split
        · rename_i hc
          rw [if_pos hc] at h
          unfold absolute6 at h ⊢
          split
          · rename_i a b ha
            rw [ha] at h
            exact local_err _ _ h
          · rfl
        · rfl
/-- a target that is read is of the form Remote or Asterisk, without a path, or has a normal path and a right query -/
theorem parse_ok (m s : List UInt8) (h : (parse6 m s).2 = 0) :
    (((parse6 m s).1.form = 3 ∨ (parse6 m s).1.form = 4) ∧ (parse6 m s).1.path = [] ∧ (parse6 m s).1.has = false) ∨
    (((parse6 m s).1.form = 1 ∨ (parse6 m s).1.form = 2) ∧ ∃ r, normal (aheadOf 63 r) = some (parse6 m s).1.path ∧ qok (behind 63 r) = true ∧ (parse6 m s).1.query = behind 63 r ∧ (parse6 m s).1.has = hasB 63 r ∧ r.length ≤ s.length + 1) := by
  unfold parse6 at h ⊢
  split
  · rename_i hm
    rw [if_pos hm] at h
    left
    unfold remote6 at h ⊢
    split
    · rename_i a b ha
      rw [ha] at h
      simp only at h
      split
      · rename_i hb
        rw [if_pos hb] at h
        exact absurd h (by decide)
      · exact ⟨.inl rfl, rfl, rfl⟩
    · rename_i ha
      rw [ha] at h
      exact absurd h (by decide)
  · rename_i hm
    rw [if_neg hm] at h
    split
    · rename_i hs
      rw [if_pos hs] at h
      left
      unfold star6 at h ⊢
      split
      · exact ⟨.inr rfl, rfl, rfl⟩
      · rename_i ho
        rw [if_neg ho] at h
        exact absurd h (by decide)
    · rename_i hs
      rw [if_neg hs] at h
      split
      · rename_i hh
        rw [if_pos hh] at h
        right
        rcases local_cases ⟨1, [], 0, [], [], false⟩ s with e | e | ⟨p, e1, e2, e⟩
        · rw [e] at h; exact absurd h (by decide)
        · rw [e] at h; exact absurd h (by decide)
        · rw [e]
          exact ⟨.inl rfl, s, e1, e2, rfl, rfl, by omega⟩
      · rename_i hh
        rw [if_neg hh] at h
        split
        · rename_i hc
          rw [if_pos hc] at h
          right
          unfold absolute6 at h ⊢
          split
          · rename_i a b ha
            rw [ha] at h
            simp only at h
            rcases local_cases ⟨2, a, b, [], [], false⟩ (slashed (outA (s.drop 7))) with e | e | ⟨p, e1, e2, e⟩
            · rw [e] at h; exact absurd h (by decide)
            · rw [e] at h; exact absurd h (by decide)
            · rw [e]
              refine ⟨.inr rfl, _, e1, e2, rfl, rfl, ?_⟩
              have h1 : (outA (s.drop 7)).length ≤ s.length := by
                have := (List.dropWhile_suffix (l := s.drop 7) (fun c => !endC c)).length_le
                rw [List.length_drop] at this
                unfold outA
                omega
              unfold slashed
              split <;> simp <;> omega
          · rename_i ha
            rw [ha] at h
            exact absurd h (show ¬ (61 : Int) = 0 by decide)
        · rename_i hc
          rw [if_neg hc] at h
          exact absurd h (by decide)

/-! ### what goes to a server, read there -/
theorem enc_okc {t : List UInt8} (h : Enc t) : t.all okc = true := by
  induction h with
  | nil => rfl
  | one c r h1 _ _ ih => rw [List.all_cons, h1, ih]; rfl
  | tri n r h1 _ _ ih =>
    obtain ⟨a, b, _⟩ := hx_okc h1
    rw [List.all_cons, List.all_cons, List.all_cons, a, b, ih]
    rfl
theorem okc_63 (c : UInt8) (h : okc c = true) : (c != 63) = true := by
  unfold okc at h
  simp only [Bool.and_eq_true] at h
  exact h.1.2
theorem normal_no63 {s t : List UInt8} (h : normal s = some t) : t.all (fun c => c != 63) = true := by
  obtain ⟨kept, tr, rfl, _, hc⟩ := normal_form h
  rw [List.all_eq_true]
  exact fun c hm => okc_63 c (List.all_eq_true.1 (enc_okc (form_enc hc)) c hm)
theorem normal_head {s t : List UInt8} (h : normal s = some t) : ∃ r, t = 47 :: r := by
  obtain ⟨kept, tr, rfl, hf, _⟩ := normal_form h
  exact form_head kept tr hf
theorem ahead63 {s : List UInt8} (h : s.all (fun c => c != 63) = true) (r : List UInt8) : aheadOf 63 (s ++ 63 :: r) = s ∧ behind 63 (s ++ 63 :: r) = r ∧ hasB 63 (s ++ 63 :: r) = true := by
  have h' : ∀ a ∈ s, (a != 63) = true := List.all_eq_true.1 h
  refine ⟨?_, ?_, ?_⟩
  · unfold aheadOf
    rw [List.takeWhile_append_of_pos h', List.takeWhile_cons]
    simp
  · unfold behind
    rw [List.dropWhile_append_of_pos h', List.dropWhile_cons]
    simp
  · unfold hasB
    simp
theorem self63 {s : List UInt8} (h : s.all (fun c => c != 63) = true) : aheadOf 63 s = s ∧ behind 63 s = [] ∧ hasB 63 s = false := by
  have h' : ∀ a ∈ s, (a != 63) = true := List.all_eq_true.1 h
  refine ⟨?_, ?_, ?_⟩
  · have := List.takeWhile_append_of_pos (l₂ := []) h'
    rw [List.append_nil] at this
    unfold aheadOf
    rw [this]
    simp
  · have := List.dropWhile_append_of_pos (l₂ := []) h'
    rw [List.append_nil] at this
    unfold behind
    rw [this]
    rfl
  · unfold hasB
    rw [List.any_eq_false]
    intro a ha
    simpa using h' a ha
theorem behind_none {s : List UInt8} (h : hasB 63 s = false) : behind 63 s = [] := by
  refine (self63 ?_).2.1
  unfold hasB at h
  rw [List.any_eq_false] at h
  rw [List.all_eq_true]
  intro a ha
  have := h a ha
  simpa using this
def GET : List UInt8 := [71, 69, 84]
theorem parse_slash (m : List UInt8) (hm : (m == CONNECT) = false) (r : List UInt8) : parse6 m (47 :: r) = local6 ⟨1, [], 0, [], [], false⟩ (47 :: r) := by
  unfold parse6
  have h1 : ((47 :: r : List UInt8) == [42]) = false := by
    rw [beq_eq_false_iff_ne]
    intro e
    injection e with e1 e2
    exact absurd e1 (by decide)
  rw [hm, h1]
  simp
theorem again {m s : List UInt8} (h : (parse6 m s).2 = 0) (hf : (parse6 m s).1.form = 1 ∨ (parse6 m s).1.form = 2) :
    parse6 GET (origin6 (parse6 m s).1) = (⟨1, [], 0, (parse6 m s).1.path, (parse6 m s).1.query, (parse6 m s).1.has⟩, 0) := by
  rcases parse_ok m s h with ⟨hq, _⟩ | ⟨_, r, e1, e2, e3, e4, _⟩
  · exfalso; omega
  · generalize (parse6 m s).1 = t at *
    obtain ⟨fo, ho, po, pa, qu, ha⟩ := t
    simp only at *
    subst e3; subst e4
    have hn := normal_no63 e1
    obtain ⟨v, rfl⟩ := normal_head e1
    have hnn := normal_normal e1
    unfold origin6
    simp only
    rw [if_pos hf]
    by_cases hh : hasB 63 r = true
    · rw [if_pos hh]
      rw [List.cons_append, parse_slash GET (by decide), ← List.cons_append]
      obtain ⟨a1, a2, a3⟩ := ahead63 hn (behind 63 r)
      unfold local6
      rw [a1, a2, a3, hnn]
      simp only
      rw [if_pos e2, hh]
    · have hx : hasB 63 r = false := by simpa using hh
      rw [if_neg hh]
      rw [parse_slash GET (by decide)]
      obtain ⟨a1, a2, a3⟩ := self63 hn
      unfold local6
      rw [a1, a2, a3, hnn]
      simp only
      rw [behind_none hx, hx]
      rfl

/-! ### an absolute target -/
theorem inA_all {s : List UInt8} (h : s.all (fun c => !endC c) = true) (r : List UInt8) : inA (s ++ 47 :: r) = s ∧ outA (s ++ 47 :: r) = 47 :: r := by
  have h' : ∀ a ∈ s, (!endC a) = true := List.all_eq_true.1 h
  refine ⟨?_, ?_⟩
  · unfold inA
    rw [List.takeWhile_append_of_pos h', List.takeWhile_cons]
    simp [endC]
  · unfold outA
    rw [List.dropWhile_append_of_pos h', List.dropWhile_cons]
    simp [endC]
theorem parse_abs {x : List UInt8} (hx : x.all (fun c => !endC c) = true) (s : List UInt8) : parse6 GET (SCHEME ++ x ++ 47 :: s) =
    match authO x with
    | some (h, p) => local6 ⟨2, h, p, [], [], false⟩ (47 :: s)
    | none => (zero, 61) := by
  have e : SCHEME ++ x ++ 47 :: s = 104 :: 116 :: 116 :: 112 :: 58 :: 47 :: 47 :: (x ++ 47 :: s) := by rw [List.append_assoc]; rfl
  have h1 : (SCHEME ++ x ++ 47 :: s == [42]) = false := by
    rw [e, beq_eq_false_iff_ne]
    intro h
    injection h with h _
    exact absurd h (by decide)
  have h2 : ((SCHEME ++ x ++ 47 :: s).head? == some 47) = false := by rw [e]; rfl
  have h3 : (SCHEME ++ x ++ 47 :: s).take 7 = SCHEME := by rw [e]; rfl
  have h4 : (SCHEME ++ x ++ 47 :: s).drop 7 = x ++ 47 :: s := by rw [e]; rfl
  have h5 : hasScheme (SCHEME ++ x ++ 47 :: s) = true := by
    unfold hasScheme
    rw [h3, alike_self, e]
    simp
  unfold parse6
  rw [h1, h2, h4, h5, show (GET == CONNECT) = false by decide]
  simp only [Bool.false_eq_true, if_false, if_true]
  obtain ⟨i1, i2⟩ := inA_all hx s
  unfold absolute6
  rw [i1, i2]
  have : slashed (47 :: s) = 47 :: s := by unfold slashed; simp
  rw [this]
/-- the errors of two targets that differ in what isn't read -/
theorem local_same (t u : Tgt) (s : List UInt8) : (local6 t s).2 = (local6 u s).2 := by
  unfold local6
  split
  · rfl
  · split <;> rfl
theorem local_ok {t u : Tgt} {s : List UInt8} (h : (local6 u s).2 = 0) : (local6 t s).1 = { t with path := (local6 u s).1.path, query := (local6 u s).1.query, has := (local6 u s).1.has } := by
  rcases local_cases u s with e | e | ⟨p, e1, e2, e⟩
  · rw [e] at h; exact absurd h (by decide)
  · rw [e] at h; exact absurd h (by decide)
  · rw [e]
    unfold local6
    rw [e1]
    simp only
    rw [if_pos e2]
end Go.Proofs.YtblpooddamkfdaaGreatDoor.TargetPure

/- Layer 11: requests read off a connection's bytes. No program is named. -/
namespace Go.Proofs.YtblpooddamkfdaaGreatDoor.InflowPure
open Bytes LexPure LexNum FieldsPure HeadPure HostPure TargetPure FramePure ChunkPure
set_option maxRecDepth 20000
structure Rq where
  head : H8
  target : Tgt
  host : List UInt8
  port : Int
  body : List UInt8
  sized : Bool
  keep : Bool
  upgrade : List UInt8
def zeroQ : Rq := ⟨zero8, zero, [], 0, [], false, false, []⟩
/-- the status of an error -/
def status11 (e : Int) : Int := if e = 82 then 414 else if e = 83 then 431 else if e = 81 then 505 else if e = 91 then 501 else if e = 101 then 413 else 400
def HOSTN : List UInt8 := [104, 111, 115, 116]
def UPG : List UInt8 := [117, 112, 103, 114, 97, 100, 101]
def EXPECT : List UInt8 := [101, 120, 112, 101, 99, 116]
/-- whom it is for; none: refused -/
def host11 (h : H8) (t : Tgt) : Option (List UInt8 × Int) :=
  if 1 < getN h.fields HOSTN ∨ (getN h.fields HOSTN = 0 ∧ 0 < h.minor) then none
  else if getN h.fields HOSTN = 1 ∧ authE (getV h.fields HOSTN) ≠ 0 then none
  else if t.form = 2 ∨ t.form = 3 then some (t.host, t.port)
  else if getN h.fields HOSTN = 0 then some ([], 0)
  else some (authH (getV h.fields HOSTN), authP (getV h.fields HOSTN))
def up11 (h : H8) (kind : Int) : List UInt8 :=
  if h.method = GET ∧ 0 < h.minor ∧ kind = 1 ∧ (elems h.fields UPG).length = 1 ∧ hasE h.fields CONNECTION UPG = true then lower ((elems h.fields UPG).headD []) else []
inductive In where
  | wait
  | fail (s : Int)
  | whole (q : Rq) (n : Nat)
/-- the body, of the bytes behind the head -/
def body11 (q : Rq) (n : Nat) (kind len most : Int) (D : List UInt8) : In :=
  if kind = 1 then .whole q n
  else if kind = 2 then (if (D.length : Int) < len then .wait else .whole { q with body := D.take len.toNat } (n + len.toNat))
  else if (ans (begin_ most) D).2.2.2 ≠ 0 then .fail (status11 (ans (begin_ most) D).2.2.2)
  else if (ans (begin_ most) D).2.2.1 = true then .whole { q with body := (ans (begin_ most) D).1 } (n + (ans (begin_ most) D).2.1)
  else .wait
/-- behind a whole head of n bytes -/
def rest11 (h : H8) (n : Nat) (most : Int) (D : List UInt8) : In :=
  if (parse6 h.method h.target).2 ≠ 0 then .fail 400
  else match host11 h (parse6 h.method h.target).1 with
    | none => .fail 400
    | some (hn, hp) =>
      if 0 < getN h.fields EXPECT then .fail 417
      else if (request9 h.minor h.fields most).2.2 ≠ 0 then .fail (status11 (request9 h.minor h.fields most).2.2)
      else if h.method = TargetPure.CONNECT ∧ (request9 h.minor h.fields most).1 ≠ 1 then .fail 400
      else body11 ⟨h, (parse6 h.method h.target).1, hn, hp, [], decide ((request9 h.minor h.fields most).1 ≠ 1), keep9 h.minor h.fields, up11 h (request9 h.minor h.fields most).1⟩ n (request9 h.minor h.fields most).1 (request9 h.minor h.fields most).2.1 most D
def read11 (most : Int) (D : List UInt8) : In :=
  match read8 false D with
  | .wait => .wait
  | .bad e => .fail (status11 e)
  | .done h n => rest11 h n most (D.drop n)
theorem body_append {q : Rq} {n : Nat} {kind len most : Int} {D : List UInt8} (x : List UInt8) (h : body11 q n kind len most D ≠ .wait) : body11 q n kind len most (D ++ x) = body11 q n kind len most D := by
  unfold body11 at *
  by_cases h1 : kind = 1
  · rw [if_pos h1, if_pos h1]
  rw [if_neg h1] at h ⊢
  rw [if_neg h1]
  by_cases h2 : kind = 2
  · rw [if_pos h2] at h ⊢
    rw [if_pos h2]
    by_cases h3 : (D.length : Int) < len
    · rw [if_pos h3] at h
      exact absurd rfl h
    · rw [if_neg h3, if_neg (by rw [List.length_append]; omega), List.take_append_of_le_length (by omega)]
  rw [if_neg h2] at h ⊢
  rw [if_neg h2]
  have key : (ans (begin_ most) D).2.2.2 ≠ 0 ∨ (ans (begin_ most) D).2.2.1 = true → ans (begin_ most) (D ++ x) = ans (begin_ most) D := by
    intro hk
    have hs : stop (run (begin_ most) D).1 = true := by
      unfold ans at hk
      unfold stop
      split at hk <;> simp_all
    have : run (begin_ most) (D ++ x) = run (begin_ most) D := by
      rw [run_append, run_stop hs]
      simp
    unfold ans
    rw [this]
  by_cases h4 : (ans (begin_ most) D).2.2.2 ≠ 0
  · rw [key (.inl h4)]
  · by_cases h5 : (ans (begin_ most) D).2.2.1 = true
    · rw [key (.inr h5)]
    · rw [if_neg h4, if_neg h5] at h
      exact absurd rfl h
theorem rest_append {h : H8} {n : Nat} {most : Int} {D : List UInt8} (x : List UInt8) (hn : rest11 h n most D ≠ .wait) : rest11 h n most (D ++ x) = rest11 h n most D := by
  unfold rest11 at *
  by_cases h1 : (parse6 h.method h.target).2 ≠ 0
  · rw [if_pos h1, if_pos h1]
  rw [if_neg h1] at hn ⊢
  rw [if_neg h1]
  cases hh : host11 h (parse6 h.method h.target).1 with
  | none => rfl
  | some p =>
    rw [hh] at hn
    dsimp only at hn ⊢
    by_cases h2 : 0 < getN h.fields EXPECT
    · rw [if_pos h2, if_pos h2]
    rw [if_neg h2] at hn ⊢
    rw [if_neg h2]
    by_cases h3 : (request9 h.minor h.fields most).2.2 ≠ 0
    · rw [if_pos h3, if_pos h3]
    rw [if_neg h3] at hn ⊢
    rw [if_neg h3]
    by_cases h4 : h.method = TargetPure.CONNECT ∧ (request9 h.minor h.fields most).1 ≠ 1
    · rw [if_pos h4, if_pos h4]
    rw [if_neg h4] at hn ⊢
    rw [if_neg h4]
    exact body_append x hn
theorem read11_append {most : Int} {D : List UInt8} (x : List UInt8) (h : read11 most D ≠ .wait) : read11 most (D ++ x) = read11 most D := by
  unfold read11 at h ⊢
  have h8 : read8 false D ≠ .wait := by
    intro e
    rw [e] at h
    exact h rfl
  rw [read_append false D x h8]
  cases hr : read8 false D with
  | wait => exact absurd hr h8
  | bad e => rfl
  | done hd n =>
    rw [hr] at h
    dsimp only at h ⊢
    obtain ⟨h1, _, _, _⟩ := read_front false D hd n hr
    rw [List.drop_append_of_le_length h1]
    exact rest_append x h
theorem status_pos (e : Int) : status11 e ≠ 0 := by
  unfold status11
  split
  · decide
  split
  · decide
  split
  · decide
  split
  · decide
  split <;> decide
theorem body_say {q : Rq} {n : Nat} {kind len most : Int} {D : List UInt8} : (∀ s, body11 q n kind len most D = .fail s → s ≠ 0) ∧ ∀ q' m, body11 q n kind len most D = .whole q' m → n ≤ m ∧ m ≤ n + D.length := by
  unfold body11
  by_cases h1 : kind = 1
  · rw [if_pos h1]
    exact ⟨fun s h => (by cases h), fun q' m h => (by cases h; omega)⟩
  rw [if_neg h1]
  by_cases h2 : kind = 2
  · rw [if_pos h2]
    by_cases h3 : (D.length : Int) < len
    · rw [if_pos h3]
      exact ⟨fun s h => (by cases h), fun q' m h => (by cases h)⟩
    · rw [if_neg h3]
      exact ⟨fun s h => (by cases h), fun q' m h => (by cases h; omega)⟩
  rw [if_neg h2]
  by_cases h4 : (ans (begin_ most) D).2.2.2 ≠ 0
  · rw [if_pos h4]
    exact ⟨fun s h => (by cases h; exact status_pos _), fun q' m h => (by cases h)⟩
  rw [if_neg h4]
  by_cases h5 : (ans (begin_ most) D).2.2.1 = true
  · rw [if_pos h5]
    have := (ans_used (begin_ most) D).1
    exact ⟨fun s h => (by cases h), fun q' m h => (by cases h; omega)⟩
  · rw [if_neg h5]
    exact ⟨fun s h => (by cases h), fun q' m h => (by cases h)⟩
theorem rest_say {h : H8} {n : Nat} {most : Int} {D : List UInt8} : (∀ s, rest11 h n most D = .fail s → s ≠ 0) ∧ ∀ q' m, rest11 h n most D = .whole q' m → n ≤ m ∧ m ≤ n + D.length := by
  unfold rest11
  by_cases h1 : (parse6 h.method h.target).2 ≠ 0
  · rw [if_pos h1]
    exact ⟨fun s h => (by cases h; decide), fun q' m h => (by cases h)⟩
  rw [if_neg h1]
  cases hh : host11 h (parse6 h.method h.target).1 with
  | none => exact ⟨fun s h => (by cases h; decide), fun q' m h => (by cases h)⟩
  | some p =>
    dsimp only
    by_cases h2 : 0 < getN h.fields EXPECT
    · rw [if_pos h2]
      exact ⟨fun s h => (by cases h; decide), fun q' m h => (by cases h)⟩
    rw [if_neg h2]
    by_cases h3 : (request9 h.minor h.fields most).2.2 ≠ 0
    · rw [if_pos h3]
      exact ⟨fun s h => (by cases h; exact status_pos _), fun q' m h => (by cases h)⟩
    rw [if_neg h3]
    by_cases h4 : h.method = TargetPure.CONNECT ∧ (request9 h.minor h.fields most).1 ≠ 1
    · rw [if_pos h4]
      exact ⟨fun s h => (by cases h; decide), fun q' m h => (by cases h)⟩
    rw [if_neg h4]
    exact body_say
theorem read11_say {most : Int} {D : List UInt8} : (∀ s, read11 most D = .fail s → s ≠ 0) ∧ ∀ q n, read11 most D = .whole q n → 0 < n ∧ n ≤ D.length := by
  unfold read11
  cases hr : read8 false D with
  | wait => exact ⟨fun s h => (by cases h), fun q' m h => (by cases h)⟩
  | bad e => exact ⟨fun s h => (by cases h; exact status_pos _), fun q' m h => (by cases h)⟩
  | done hd n =>
    obtain ⟨h1, h2, _, _⟩ := read_front false D hd n hr
    obtain ⟨r1, r2⟩ := rest_say (h := hd) (n := n) (most := most) (D := D.drop n)
    refine ⟨r1, fun q m h => ?_⟩
    have := r2 q m h
    rw [List.length_drop] at this
    omega
theorem read11_nil (most : Int) : read11 most [] = .wait := by
  cases h : read11 most [] with
  | wait => rfl
  | fail s =>
    have : read8 false [] = .wait := rfl
    unfold read11 at h
    rw [this] at h
    cases h
  | whole q n =>
    have := read11_say.2 q n h
    simp at this
    omega
/-! ### one behind the other -/
/-- the requests, the status with which reading ends (0: it goes on), the bytes that aren't used -/
def all11 (most : Int) : Nat → List UInt8 → List Rq × Int × List UInt8
  | 0, D => ([], 0, D)
  | f + 1, D => match read11 most D with
    | .wait => ([], 0, D)
    | .fail s => ([], s, D)
    | .whole q n => (q :: (all11 most f (D.drop n)).1, (all11 most f (D.drop n)).2.1, (all11 most f (D.drop n)).2.2)
theorem all_fuel (most : Int) : ∀ (f g : Nat) (D : List UInt8), D.length ≤ f → D.length ≤ g → all11 most f D = all11 most g D
  | 0, 0, D, _, _ => rfl
  | 0, g + 1, D, h, _ => by
    have : D = [] := List.length_eq_zero_iff.1 (by omega)
    subst this
    unfold all11
    rw [read11_nil]
  | f + 1, 0, D, _, h => by
    have : D = [] := List.length_eq_zero_iff.1 (by omega)
    subst this
    unfold all11
    rw [read11_nil]
  | f + 1, g + 1, D, h1, h2 => by
    unfold all11
    cases hr : read11 most D with
    | wait => rfl
    | fail s => rfl
    | whole q n =>
      have hn := read11_say.2 q n hr
      dsimp only
      rw [all_fuel most f g (D.drop n) (by rw [List.length_drop]; omega) (by rw [List.length_drop]; omega)]
def allOf (most : Int) (D : List UInt8) : List Rq × Int × List UInt8 := all11 most D.length D
theorem allOf_step (most : Int) (D : List UInt8) : allOf most D = match read11 most D with
    | .wait => ([], 0, D)
    | .fail s => ([], s, D)
    | .whole q n => (q :: (allOf most (D.drop n)).1, (allOf most (D.drop n)).2.1, (allOf most (D.drop n)).2.2) := by
  unfold allOf
  rw [all_fuel most D.length (D.length + 1) D (Nat.le_refl _) (Nat.le_succ _)]
  conv => lhs; unfold all11
  cases hr : read11 most D with
  | wait => rfl
  | fail s => rfl
  | whole q n =>
    dsimp only
    rw [all_fuel most D.length (D.drop n).length (D.drop n) (by rw [List.length_drop]; omega) (Nat.le_refl _)]
/-- what comes behind: nothing is told otherwise -/
theorem all_append (most : Int) (x : List UInt8) : ∀ (N : Nat) (D : List UInt8), D.length ≤ N → allOf most (D ++ x) =
    if (allOf most D).2.1 ≠ 0 then ((allOf most D).1, (allOf most D).2.1, (allOf most D).2.2 ++ x)
    else ((allOf most D).1 ++ (allOf most ((allOf most D).2.2 ++ x)).1, (allOf most ((allOf most D).2.2 ++ x)).2.1, (allOf most ((allOf most D).2.2 ++ x)).2.2)
  | N, D, hN => by
    cases hr : read11 most D with
    | wait =>
      have : allOf most D = ([], 0, D) := by rw [allOf_step, hr]
      rw [this, if_neg (fun h => h rfl)]
      rfl
    | fail s =>
      have h1 : allOf most D = ([], s, D) := by rw [allOf_step, hr]
      have h2 : read11 most (D ++ x) = .fail s := by rw [read11_append x (by rw [hr]; intro h; cases h), hr]
      have h3 : allOf most (D ++ x) = ([], s, D ++ x) := by rw [allOf_step, h2]
      rw [h1, h3, if_pos (read11_say.1 s hr)]
    | whole q n =>
      have hn := read11_say.2 q n hr
      have h1 : allOf most D = (q :: (allOf most (D.drop n)).1, (allOf most (D.drop n)).2.1, (allOf most (D.drop n)).2.2) := by rw [allOf_step, hr]
      have h2 : read11 most (D ++ x) = .whole q n := by rw [read11_append x (by rw [hr]; intro h; cases h), hr]
      have h3 : allOf most (D ++ x) = (q :: (allOf most (D.drop n ++ x)).1, (allOf most (D.drop n ++ x)).2.1, (allOf most (D.drop n ++ x)).2.2) := by
        rw [allOf_step, h2]
        dsimp only
        rw [List.drop_append_of_le_length hn.2]
      match N, hN with
      | 0, hN => omega
      | N + 1, hN =>
        have ih := all_append most x N (D.drop n) (by rw [List.length_drop]; omega)
        rw [h3, h1, ih]
        by_cases h : (allOf most (D.drop n)).2.1 ≠ 0
        · rw [if_pos h, if_pos h]
        · rw [if_neg h, if_neg h]
          rfl
end Go.Proofs.YtblpooddamkfdaaGreatDoor.InflowPure

/- Layer 8: a head that is read is short, and its fields are few. No program is named. -/
namespace Go.Proofs.YtblpooddamkfdaaGreatDoor.HeadFew
open LexPure Bytes FieldsPure HeadPure HostPure TargetPure FramePure ChunkPure InflowPure
set_option maxRecDepth 20000
def short (f : HField) : Prop := f.1.length ≤ 512 ∧ f.2.length ≤ 512
theorem field_short (l : List UInt8) (h : l.length ≤ 512) : short (field8 l).1 := by
  unfold field8
  split
  · refine ⟨?_, ?_⟩
    · have : (nameB l).length ≤ l.length := (List.takeWhile_prefix _).length_le
      show (nameB l).length ≤ 512
      omega
    · have h1 := trim_length (l.drop ((nameB l).length + 1))
      rw [List.length_drop] at h1
      show (trim _).length ≤ 512
      omega
  · exact ⟨Nat.zero_le _, Nat.zero_le _⟩
theorem fields_few (h : H8) : ∀ (m : Nat) (acc : List HField) (a : Nat) (s : List UInt8) (h' : H8) (n : Nat), fields8 h m acc a s = .done h' n → (∀ f ∈ acc, short f) →
    a + 2 ≤ n ∧ h'.fields.length ≤ acc.length + m ∧ ∀ f ∈ h'.fields, short f := by
  intro m
  induction m with
  | zero =>
    intro acc a s h' n hd ha
    unfold fields8 at hd
    cases hs : scan 512 83 0 s with
    | wait => rw [hs] at hd; cases hd
    | bad e => rw [hs] at hd; cases hd
    | whole k =>
      rw [hs] at hd
      dsimp only at hd
      by_cases hk : k = 0
      · rw [if_pos hk] at hd
        injection hd with e1 e2
        subst e1
        exact ⟨by omega, Nat.le_refl _, ha⟩
      · rw [if_neg hk] at hd
        cases hd
  | succ m ih =>
    intro acc a s h' n hd ha
    unfold fields8 at hd
    cases hs : scan 512 83 0 s with
    | wait => rw [hs] at hd; cases hd
    | bad e => rw [hs] at hd; cases hd
    | whole k =>
      rw [hs] at hd
      dsimp only at hd
      by_cases hk : k = 0
      · rw [if_pos hk] at hd
        injection hd with e1 e2
        subst e1
        exact ⟨by omega, by show acc.length ≤ _; omega, ha⟩
      · rw [if_neg hk] at hd
        by_cases hf : (field8 (s.take k)).2 = 0
        · rw [if_pos hf] at hd
          obtain ⟨l, q, e, hk2, _, hb⟩ := scan_whole 512 83 s 0 k hs
          have hkl : k ≤ 512 := by omega
          obtain ⟨h1, h2, h3⟩ := ih _ _ _ _ _ hd (fun f hf => by
            rcases List.mem_append.1 hf with hf | hf
            · exact ha f hf
            · rw [List.mem_singleton] at hf
              subst hf
              exact field_short _ (by rw [List.length_take]; omega))
          refine ⟨by omega, ?_, h3⟩
          rw [List.length_append, List.length_singleton] at h2
          omega
        · rw [if_neg hf] at hd
          cases hd
/-- what a head that is read says -/
theorem read_few {s : List UInt8} {h : H8} {n : Nat} (hd : read8 false s = .done h n) : 5 ≤ n ∧ h.fields.length ≤ 32 ∧ ∀ f ∈ h.fields, short f := by
  unfold read8 skipOf at hd
  simp only [Bool.false_eq_true, if_false] at hd
  unfold from8 at hd
  cases hs : scan 1100 82 0 (s.drop (skip8 s)) with
  | wait => rw [hs] at hd; cases hd
  | bad e => rw [hs] at hd; cases hd
  | whole k =>
    rw [hs] at hd
    simp only [Bool.false_eq_true, if_false] at hd
    by_cases hx : (start8 ((s.drop (skip8 s)).take k)).2 = 0
    · rw [if_pos hx] at hd
      have hk : k ≠ 0 := by
        intro e
        rw [e, List.take_zero] at hx
        exact absurd hx start_nil
      obtain ⟨h1, h2, h3⟩ := fields_few _ _ _ _ _ _ _ hd (fun f hf => by cases hf)
      exact ⟨by omega, by simpa using h2, h3⟩
    · rw [if_neg hx] at hd
      cases hd
theorem rest_head {h : H8} {n : Nat} {most : Int} {D : List UInt8} {q : Rq} {m : Nat} (e : rest11 h n most D = .whole q m) : q.head = h ∧ n ≤ m := by
  have hm := (rest_say (h := h) (n := n) (most := most) (D := D)).2 q m e
  refine ⟨?_, hm.1⟩
  unfold rest11 at e
  split at e
  · cases e
  split at e
  · cases e
  split at e
  · cases e
  split at e
  · cases e
  split at e
  · cases e
  unfold body11 at e
  split at e
  · injection e with e1 _; rw [← e1]
  split at e
  · split at e
    · cases e
    · injection e with e1 _; rw [← e1]
  split at e
  · cases e
  split at e
  · injection e with e1 _; rw [← e1]
  · cases e
theorem whole_few {most : Int} {D : List UInt8} {q : Rq} {n : Nat} (h : read11 most D = .whole q n) : 5 ≤ n ∧ q.head.fields.length ≤ 32 ∧ ∀ f ∈ q.head.fields, short f := by
  unfold read11 at h
  cases hr : read8 false D with
  | wait => rw [hr] at h; cases h
  | bad e => rw [hr] at h; cases h
  | done hd k =>
    rw [hr] at h
    obtain ⟨e1, e2⟩ := rest_head h
    obtain ⟨h1, h2, h3⟩ := read_few hr
    rw [e1]
    exact ⟨by omega, h2, h3⟩
theorem all_count (most : Int) : ∀ (N : Nat) (D : List UInt8), D.length ≤ N → 5 * (allOf most D).1.length ≤ D.length
  | N, D, hN => by
    rw [allOf_step]
    cases hr : read11 most D with
    | wait => exact Nat.zero_le _
    | fail s => exact Nat.zero_le _
    | whole q n =>
      have hn := read11_say.2 q n hr
      have h5 := (whole_few hr).1
      match N, hN with
      | 0, hN => omega
      | N + 1, hN =>
        have ih := all_count most N (D.drop n) (by rw [List.length_drop]; omega)
        dsimp only
        rw [List.length_drop] at ih
        rw [List.length_cons]
        omega
theorem all_mem (most : Int) : ∀ (N : Nat) (D : List UInt8), D.length ≤ N → ∀ q ∈ (allOf most D).1, ∃ E n, read11 most E = .whole q n
  | N, D, hN => by
    rw [allOf_step]
    cases hr : read11 most D with
    | wait => intro q hq; cases hq
    | fail s => intro q hq; cases hq
    | whole q0 n =>
      have hn := read11_say.2 q0 n hr
      match N, hN with
      | 0, hN => omega
      | N + 1, hN =>
        have ih := all_mem most N (D.drop n) (by rw [List.length_drop]; omega)
        intro q hq
        dsimp only at hq
        rcases List.mem_cons.1 hq with rfl | hq
        · exact ⟨D, n, hr⟩
        · exact ih q hq
end Go.Proofs.YtblpooddamkfdaaGreatDoor.HeadFew

/- Layer 12: a response read piece by piece, over lists of bytes. No program is named. -/
namespace Go.Proofs.YtblpooddamkfdaaGreatDoor.OutPure
open Bytes LexPure LexNum FieldsPure HeadPure FramePure ChunkPure
set_option maxRecDepth 20000
/-! ### the heads -/
def interim (st : Int) : Bool := decide (100 ≤ st) && decide (st < 200) && decide (st ≠ 101)
def heads : Nat → List UInt8 → Res × List UInt8
  | 0, D => (read8 true D, D)
  | k + 1, D => match read8 true D with
    | .done h n => if interim h.status = true then heads k (D.drop n) else (.done h n, D)
    | .wait => (.wait, D)
    | .bad e => (.bad e, D)
def headsOf (D : List UInt8) : Res × List UInt8 := heads D.length D
theorem read_nil : read8 true [] = .wait := rfl
theorem heads_enough : ∀ (n k : Nat) (D : List UInt8), D.length ≤ n → D.length ≤ k → heads k D = heads D.length D := by
  intro n
  induction n with
  | zero =>
    intro k D hn _
    have : D = [] := List.length_eq_zero_iff.1 (by omega)
    subst this
    cases k with
    | zero => rfl
    | succ k =>
      show (match read8 true [] with | .done h n => if interim h.status = true then heads k (([] : List UInt8).drop n) else (.done h n, []) | .wait => (.wait, []) | .bad e => (.bad e, [])) = (read8 true [], [])
      rw [read_nil]
  | succ n ih =>
    intro k D hn hk
    cases D with
    | nil => exact ih k [] (Nat.zero_le _) (Nat.zero_le _)
    | cons c D =>
      cases k with
      | zero => rw [List.length_cons] at hk; omega
      | succ k =>
        rw [List.length_cons]
        unfold heads
        cases hr : read8 true (c :: D) with
        | wait => rfl
        | bad e => rfl
        | done h m =>
          dsimp only
          obtain ⟨h1, h2, _⟩ := read_front true (c :: D) h m hr
          rw [List.length_cons] at hn hk h1
          split
          · have hl : ((c :: D).drop m).length ≤ D.length := by rw [List.length_drop, List.length_cons]; omega
            rw [ih k _ (by omega) (by omega), ih D.length _ (by omega) hl]
          · rfl
theorem heads_step {D : List UInt8} {h : H8} {n : Nat} (hr : read8 true D = .done h n) (hi : interim h.status = true) : headsOf D = headsOf (D.drop n) := by
  obtain ⟨h1, h2, _⟩ := read_front true D h n hr
  unfold headsOf
  cases hD : D.length with
  | zero => omega
  | succ k =>
    conv => lhs; unfold heads
    rw [hr]
    dsimp only
    rw [if_pos hi]
    exact heads_enough D.length k _ (by rw [List.length_drop]; omega) (by rw [List.length_drop]; omega)
theorem heads_wait {D : List UInt8} (hr : read8 true D = .wait) : headsOf D = (.wait, D) := by
  unfold headsOf
  cases D.length with
  | zero => show (read8 true D, D) = _; rw [hr]
  | succ k => unfold heads; rw [hr]
theorem heads_bad {D : List UInt8} {e : Int} (hr : read8 true D = .bad e) : headsOf D = (.bad e, D) := by
  unfold headsOf
  cases D.length with
  | zero => show (read8 true D, D) = _; rw [hr]
  | succ k => unfold heads; rw [hr]
theorem heads_done {D : List UInt8} {h : H8} {n : Nat} (hr : read8 true D = .done h n) (hi : interim h.status = false) : headsOf D = (.done h n, D) := by
  unfold headsOf
  cases D.length with
  | zero => show (read8 true D, D) = _; rw [hr]
  | succ k => unfold heads; rw [hr]; dsimp only; rw [if_neg (by rw [hi]; decide)]
/-- what the heads come to: the last one's reading, and the bytes behind the interim ones -/
theorem heads_is : ∀ (n : Nat) (D : List UInt8), D.length ≤ n → read8 true (headsOf D).2 = (headsOf D).1 ∧ (headsOf D).2.length ≤ D.length ∧ headsOf (headsOf D).2 = headsOf D ∧ ∀ h k, (headsOf D).1 = .done h k → interim h.status = false := by
  intro n
  induction n with
  | zero =>
    intro D hn
    have : D = [] := List.length_eq_zero_iff.1 (by omega)
    subst this
    rw [heads_wait read_nil]
    exact ⟨read_nil, Nat.le_refl _, heads_wait read_nil, fun h k x => by cases x⟩
  | succ n ih =>
    intro D hn
    cases hr : read8 true D with
    | wait => rw [heads_wait hr]; exact ⟨hr, Nat.le_refl _, heads_wait hr, fun h k x => by cases x⟩
    | bad e => rw [heads_bad hr]; exact ⟨hr, Nat.le_refl _, heads_bad hr, fun h k x => by cases x⟩
    | done h m =>
      cases hi : interim h.status with
      | false =>
        rw [heads_done hr hi]
        exact ⟨hr, Nat.le_refl _, heads_done hr hi, fun h' k x => by injection x with x1 _; rw [← x1]; exact hi⟩
      | true =>
        obtain ⟨h1, h2, _⟩ := read_front true D h m hr
        rw [heads_step hr hi]
        have := ih (D.drop m) (by rw [List.length_drop]; omega)
        exact ⟨this.1, Nat.le_trans this.2.1 (by rw [List.length_drop]; omega), this.2.2⟩
theorem heads_append (x : List UInt8) : ∀ (n : Nat) (D : List UInt8), D.length ≤ n → ((headsOf D).1 ≠ .wait → headsOf (D ++ x) = ((headsOf D).1, (headsOf D).2 ++ x)) ∧ ((headsOf D).1 = .wait → headsOf (D ++ x) = headsOf ((headsOf D).2 ++ x)) := by
  intro n
  induction n with
  | zero =>
    intro D hn
    have : D = [] := List.length_eq_zero_iff.1 (by omega)
    subst this
    rw [heads_wait read_nil]
    exact ⟨fun h => absurd rfl h, fun _ => rfl⟩
  | succ n ih =>
    intro D hn
    cases hr : read8 true D with
    | wait => rw [heads_wait hr]; exact ⟨fun h => absurd rfl h, fun _ => rfl⟩
    | bad e =>
      have := read_append true D x (by rw [hr]; exact fun h => by cases h)
      rw [hr] at this
      rw [heads_bad hr, heads_bad this]
      exact ⟨fun _ => rfl, fun h => by cases h⟩
    | done h m =>
      have hx := read_append true D x (by rw [hr]; exact fun h => by cases h)
      rw [hr] at hx
      obtain ⟨h1, h2, _⟩ := read_front true D h m hr
      cases hi : interim h.status with
      | false =>
        rw [heads_done hr hi, heads_done hx hi]
        exact ⟨fun _ => rfl, fun h => by cases h⟩
      | true =>
        rw [heads_step hr hi, heads_step hx hi, List.drop_append_of_le_length h1]
        exact ih (D.drop m) (by rw [List.length_drop]; omega)
/-- an error has a number -/
theorem fields_err (h : H8) : ∀ (m : Nat) (acc : List HField) (a : Nat) (s : List UInt8) (e : Int), fields8 h m acc a s = .bad e → e ≠ 0 := by
  intro m
  induction m with
  | zero =>
    intro acc a s e hb
    unfold fields8 at hb
    cases hs : scan 512 83 0 s with
    | wait => rw [hs] at hb; cases hb
    | bad e' =>
      rw [hs] at hb
      injection hb with hb
      rw [← hb]
      exact scan_bad 512 83 (by decide) s 0 e' hs
    | whole k =>
      rw [hs] at hb
      dsimp only at hb
      split at hb
      · cases hb
      · injection hb with hb
        omega
  | succ m ih =>
    intro acc a s e hb
    unfold fields8 at hb
    cases hs : scan 512 83 0 s with
    | wait => rw [hs] at hb; cases hb
    | bad e' =>
      rw [hs] at hb
      injection hb with hb
      rw [← hb]
      exact scan_bad 512 83 (by decide) s 0 e' hs
    | whole k =>
      rw [hs] at hb
      dsimp only at hb
      split at hb
      · cases hb
      · split at hb
        · exact ih _ _ _ _ hb
        · injection hb with hb
          omega
theorem read_err (r : Bool) (s : List UInt8) (e : Int) (hb : read8 r s = .bad e) : e ≠ 0 := by
  unfold read8 from8 at hb
  split at hb
  · cases hb
  · rename_i e' hs
    injection hb with hb
    rw [← hb]
    exact scan_bad 1100 82 (by decide) _ 0 e' hs
  · rename_i k hs
    dsimp only at hb
    generalize (if r = true then status8 _ else start8 _) = x at hb
    split at hb
    · exact fields_err _ _ _ _ _ _ hb
    · rename_i hx
      injection hb with hb
      rw [← hb]
      exact hx
/-! ### a reader -/
inductive Md where
  | head
  | len (left : Nat)
  | chunks (m : M)
  | all
  | fin
  | nothing
  | bad (e : Int)
structure St where
  md : Md
  data : List UInt8
  gone : Bool
  kind : Int
  kept : Bool
inductive Pc where
  | none
  | head (h : H8)
  | data (d : List UInt8)
  | fin
def st0 : St := ⟨.head, [], false, 0, false⟩
def tell (d : List UInt8) : Pc := if d = [] then .none else .data d
def isN : Pc → Bool
  | .none => true
  | _ => false
def doneM : Md → Bool
  | .nothing => true
  | _ => false
def MT : Int := 1099511627776
def openM (f : Int × Int × Int) : Md := if f.1 = 2 then .len f.2.1.toNat else if f.1 = 3 then .chunks (begin_ MT) else if f.1 = 4 then .all else .fin
def stepO (meth : List UInt8) (s : St) : Pc × Nat × Int × St :=
  match s.md with
  | .head => match headsOf s.data with
    | (.wait, r) => (.none, 0, 0, { s with data := r })
    | (.bad e, r) => (.none, 0, e, { s with data := r })
    | (.done h n, r) => if (response9 meth h.status h.minor h.fields).2.2 = 0 then
        (.head h, n, 0, ⟨openM (response9 meth h.status h.minor h.fields), r, s.gone, (response9 meth h.status h.minor h.fields).1, keep9 h.minor h.fields⟩)
      else (.none, 0, (response9 meth h.status h.minor h.fields).2.2, { s with data := r })
  | .len left => if left = 0 then (.fin, 0, 0, { s with md := .nothing }) else (tell (s.data.take left), (s.data.take left).length, 0, { s with md := .len (left - (s.data.take left).length) })
  | .chunks m => if (ans m s.data).2.2.2 ≠ 0 then (.none, 0, (ans m s.data).2.2.2, { s with md := .chunks (next m s.data) })
      else if (ans m s.data).1 = [] ∧ (ans m s.data).2.2.1 = true then (.fin, (ans m s.data).2.1, 0, { s with md := .nothing })
      else (tell (ans m s.data).1, (ans m s.data).2.1, 0, { s with md := .chunks (next m s.data) })
  | .all => if s.data = [] ∧ s.gone = true then (.fin, 0, 0, { s with md := .nothing }) else (tell s.data, s.data.length, 0, s)
  | .fin => (.fin, 0, 0, { s with md := .nothing })
  | .nothing => (.none, 0, 0, s)
  | .bad e => (.none, 0, e, s)
/-- the error behind a step -/
def errO (r : Pc × Nat × Int × St) : Int := if r.2.2.1 = 0 ∧ isN r.1 = true ∧ r.2.2.2.gone = true ∧ doneM r.2.2.2.md = false then 121 else r.2.2.1
def nextO (meth : List UInt8) (s : St) : Pc × Int × St :=
  if errO (stepO meth s) ≠ 0 then (.none, errO (stepO meth s), { (stepO meth s).2.2.2 with md := .bad (errO (stepO meth s)) })
  else ((stepO meth s).1, 0, { (stepO meth s).2.2.2 with data := (stepO meth s).2.2.2.data.drop (stepO meth s).2.1 })
def feedO (s : St) (x : List UInt8) : St := if s.gone = true then s else { s with data := s.data ++ x }
def endO (s : St) : St := { s with gone := true }
/-- how many pieces it can tell at most before it has none -/
def rank (s : St) : Nat :=
  match s.md with
  | .head => 3
  | .len left => if s.data ≠ [] ∧ left ≠ 0 then 2 else 1
  | .chunks m => if s.data ≠ [] ∧ stop m = false then 2 else 1
  | .all => if s.data ≠ [] then 2 else 1
  | .fin => 1
  | .nothing => 0
  | .bad _ => 0
theorem tell_none {d : List UInt8} : isN (tell d) = true ↔ d = [] := by
  unfold tell
  split <;> simp_all [isN]
/-- where it tells anything there is no error -/
theorem next_some {meth : List UInt8} {s : St} (h : isN (nextO meth s).1 = false) : errO (stepO meth s) = 0 ∧ (stepO meth s).2.2.1 = 0 ∧ isN (stepO meth s).1 = false ∧ nextO meth s = ((stepO meth s).1, 0, { (stepO meth s).2.2.2 with data := (stepO meth s).2.2.2.data.drop (stepO meth s).2.1 }) := by
  unfold nextO at h ⊢
  by_cases he : errO (stepO meth s) ≠ 0
  · rw [if_pos he] at h
    cases h
  · rw [if_neg he] at h ⊢
    have he' : errO (stepO meth s) = 0 := by omega
    refine ⟨he', ?_, h, rfl⟩
    unfold errO at he'
    split at he'
    · omega
    · exact he'
theorem rank_two (s : St) (h : s.md ≠ .head) : rank s < 3 := by
  unfold rank
  split
  · rename_i hm; exact absurd hm h
  all_goals (repeat' split) <;> omega
theorem open_head (f : Int × Int × Int) : openM f ≠ .head := by
  unfold openM
  (repeat' split) <;> exact fun h => by cases h
theorem rank_open (f : Int × Int × Int) (s : St) (h : s.md = openM f) : rank s < 3 := rank_two s (by rw [h]; exact open_head f)
theorem rank_le (s : St) : rank s ≤ 3 := by
  unfold rank
  split
  · omega
  · split <;> omega
  · split <;> omega
  · split <;> omega
  · omega
  · omega
  · omega
theorem rank_next {meth : List UInt8} {s : St} (h : isN (nextO meth s).1 = false) : rank (nextO meth s).2.2 < rank s := by
  obtain ⟨_, he, hp, hn⟩ := next_some h
  rw [hn]
  clear hn h
  dsimp only
  obtain ⟨md, data, gone, kind, kept⟩ := s
  cases md with
  | head =>
    unfold stepO at he hp ⊢
    dsimp only at he hp ⊢
    split at hp
    · cases hp
    · cases hp
    · rename_i h n r hh
      split at hp
      · rename_i hf
        simp only [if_pos hf]
        exact rank_open (response9 meth h.status h.minor h.fields) _ rfl
      · cases hp
  | len left =>
    unfold stepO at he hp ⊢
    dsimp only at he hp ⊢
    by_cases h0 : left = 0
    · rw [if_pos h0]
      dsimp only [rank]
      rw [if_neg (fun x => x.2 h0)]
      omega
    · rw [if_neg h0] at hp ⊢
      dsimp only at hp ⊢
      have hd : data ≠ [] := fun e => by
        rw [e, List.take_nil] at hp
        cases hp
      have hq : data ≠ [] ∧ left ≠ 0 := ⟨hd, h0⟩
      dsimp only [rank]
      rw [if_pos hq, if_neg]
      · omega
      · rw [List.length_take]
        rintro ⟨h1, h2⟩
        rcases Nat.le_total left data.length with hl | hl
        · rw [Nat.min_eq_left hl] at h2
          omega
        · rw [Nat.min_eq_right hl] at h1
          exact h1 (List.drop_length)
  | chunks m =>
    unfold stepO at he hp ⊢
    dsimp only at he hp ⊢
    by_cases h0 : (ans m data).2.2.2 ≠ 0
    · rw [if_pos h0] at hp
      cases hp
    · rw [if_neg h0] at hp ⊢
      by_cases h1 : (ans m data).1 = [] ∧ (ans m data).2.2.1 = true
      · rw [if_pos h1]
        dsimp only [rank]
        split <;> omega
      · rw [if_neg h1] at hp ⊢
        dsimp only at hp ⊢
        have ha : (ans m data).1 ≠ [] := fun e => by
          rw [tell_none.2 e] at hp
          cases hp
        have hd : data ≠ [] ∧ stop m = false := by
          refine ⟨fun e => ?_, ?_⟩
          · have := (ans_used m data)
            rw [e] at this
            have h3 : (ans m []).1.length = 0 := by simp only [List.length_nil] at this; omega
            rw [e] at ha
            exact ha (List.length_eq_zero_iff.1 h3)
          · cases hs : stop m with
            | false => rfl
            | true =>
              exfalso
              apply ha
              unfold ans
              rw [run_stop hs]
              split <;> rfl
        dsimp only [rank]
        rw [if_pos hd, if_neg]
        · omega
        · rintro ⟨h2, h3⟩
          apply h2
          have hu := (run_used m data).2.2 h3
          have : (ans m data).2.1 = (run m data).2.2 := by
            unfold ans
            unfold next at h3
            cases hp2 : (run m data).1.ph <;> simp_all [stop]
          rw [this, hu]
          exact List.drop_length
  | all =>
    unfold stepO at he hp ⊢
    dsimp only at he hp ⊢
    by_cases h0 : data = [] ∧ gone = true
    · rw [if_pos h0]
      dsimp only [rank]
      split <;> omega
    · rw [if_neg h0] at hp ⊢
      dsimp only at hp ⊢
      have hd : data ≠ [] := fun e => by
        rw [tell_none.2 e] at hp
        cases hp
      dsimp only [rank]
      rw [if_pos hd, if_neg]
      · omega
      · rw [List.drop_length]
        exact fun x => x rfl
  | fin =>
    unfold stepO
    dsimp only [rank]
    omega
  | nothing => unfold stepO at hp; cases hp
  | bad e => unfold stepO at hp; cases hp
/-! ### till it has no more -/
/-- the state, the status, the body and the error behind it -/
abbrev Sum := St × Int × List UInt8 × Int
def drainO (meth : List UInt8) : Nat → St → Int → List UInt8 → Sum
  | 0, s, c, b => (s, c, b, 0)
  | k + 1, s, c, b => match nextO meth s with
    | (.none, e, s') => (s', c, b, e)
    | (.head h, _, s') => drainO meth k s' h.status b
    | (.data d, _, s') => drainO meth k s' c (b ++ d)
    | (.fin, _, s') => drainO meth k s' c b
def drain (meth : List UInt8) (s : St) (c : Int) (b : List UInt8) : Sum := drainO meth 4 s c b
def turn (meth : List UInt8) (q : Sum) (x : List UInt8) : Sum := drain meth (feedO q.1 x) q.2.1 q.2.2.1
def sum0 : Sum := (st0, 0, [], 0)
def fed (meth : List UInt8) (P : List (List UInt8)) : Sum := P.foldl (turn meth) sum0
def told (meth : List UInt8) (P : List (List UInt8)) (fin : Bool) : Sum := drain meth (if fin = true then endO (fed meth P).1 else (fed meth P).1) (fed meth P).2.1 (fed meth P).2.2.1
/-- bytes that are not used, and the bytes of a piece -/
def bulkP : Pc → Nat
  | .data d => d.length
  | _ => 0
theorem heads_len (D : List UInt8) : (headsOf D).2.length ≤ D.length := (heads_is D.length D (Nat.le_refl _)).2.1
theorem step_bulk (meth : List UInt8) (s : St) : (stepO meth s).2.2.2.data.length ≤ s.data.length ∧ bulkP (stepO meth s).1 ≤ (stepO meth s).2.1 ∧ (stepO meth s).2.1 ≤ (stepO meth s).2.2.2.data.length := by
  obtain ⟨md, data, gone, kind, kept⟩ := s
  have hh := heads_len data
  cases md with
  | head =>
    unfold stepO
    dsimp only
    split
    · rename_i r hr; rw [hr] at hh; exact ⟨hh, Nat.le_refl _, Nat.zero_le _⟩
    · rename_i r hr; rw [hr] at hh; exact ⟨hh, Nat.le_refl _, Nat.zero_le _⟩
    · rename_i h n r hr
      have h1 := (heads_is data.length data (Nat.le_refl _)).1
      rw [hr] at hh h1
      have h2 := (read_front true _ _ _ h1).1
      split
      · exact ⟨hh, Nat.zero_le _, h2⟩
      · exact ⟨hh, Nat.zero_le _, Nat.zero_le _⟩
  | len left =>
    unfold stepO
    dsimp only
    split
    · exact ⟨Nat.le_refl _, Nat.zero_le _, Nat.zero_le _⟩
    · refine ⟨Nat.le_refl _, ?_, by rw [List.length_take]; exact Nat.min_le_right _ _⟩
      unfold tell
      split
      · exact Nat.zero_le _
      · exact Nat.le_refl _
  | chunks m =>
    unfold stepO
    dsimp only
    have hu := ans_used m data
    split
    · exact ⟨Nat.le_refl _, Nat.zero_le _, Nat.zero_le _⟩
    · split
      · exact ⟨Nat.le_refl _, Nat.zero_le _, hu.1⟩
      · refine ⟨Nat.le_refl _, ?_, hu.1⟩
        unfold tell
        split
        · exact Nat.zero_le _
        · exact hu.2.1
  | all =>
    unfold stepO
    dsimp only
    split
    · exact ⟨Nat.le_refl _, Nat.zero_le _, Nat.zero_le _⟩
    · refine ⟨Nat.le_refl _, ?_, Nat.le_refl _⟩
      unfold tell
      split
      · exact Nat.zero_le _
      · exact Nat.le_refl _
  | fin => exact ⟨Nat.le_refl _, Nat.zero_le _, Nat.zero_le _⟩
  | nothing => exact ⟨Nat.le_refl _, Nat.zero_le _, Nat.zero_le _⟩
  | bad e => exact ⟨Nat.le_refl _, Nat.zero_le _, Nat.zero_le _⟩
theorem next_bulk (meth : List UInt8) (s : St) : bulkP (nextO meth s).1 + (nextO meth s).2.2.data.length ≤ s.data.length := by
  obtain ⟨h1, h2, h3⟩ := step_bulk meth s
  unfold nextO
  split
  · show 0 + (stepO meth s).2.2.2.data.length ≤ _
    omega
  · show bulkP (stepO meth s).1 + ((stepO meth s).2.2.2.data.drop (stepO meth s).2.1).length ≤ _
    rw [List.length_drop]
    omega
theorem drain_bulk (meth : List UInt8) : ∀ (k : Nat) (s : St) (c : Int) (b : List UInt8), (drainO meth k s c b).2.2.1.length + (drainO meth k s c b).1.data.length ≤ b.length + s.data.length := by
  intro k
  induction k with
  | zero => intro s c b; exact Nat.le_refl _
  | succ k ih =>
    intro s c b
    have h := next_bulk meth s
    unfold drainO
    split
    · rename_i e s' hn
      rw [hn] at h
      dsimp only [bulkP] at h ⊢
      omega
    · rename_i hd e s' hn
      rw [hn] at h
      have := ih s' hd.status b
      dsimp only [bulkP] at h
      omega
    · rename_i d e s' hn
      rw [hn] at h
      have := ih s' c (b ++ d)
      rw [List.length_append] at this
      dsimp only [bulkP] at h
      omega
    · rename_i e s' hn
      rw [hn] at h
      have := ih s' c b
      dsimp only [bulkP] at h
      omega
theorem tell_some {d x : List UInt8} (h : tell d = .data x) : x ≠ [] := by
  unfold tell at h
  split at h
  · cases h
  · rename_i hd; injection h with h; rw [← h]; exact hd
theorem step_data {meth : List UInt8} {s : St} {d : List UInt8} (h : (stepO meth s).1 = .data d) : d ≠ [] := by
  unfold stepO at h
  split at h
  · split at h
    · cases h
    · cases h
    · split at h <;> cases h
  · split at h
    · cases h
    · exact tell_some h
  · split at h
    · cases h
    · split at h
      · cases h
      · exact tell_some h
  · split at h
    · cases h
    · exact tell_some h
  · cases h
  · cases h
  · cases h
theorem data_some {meth : List UInt8} {s : St} (_h : isN (nextO meth s).1 = false) : ∀ d, (nextO meth s).1 = .data d → d ≠ [] := fun d hd => by
  unfold nextO at hd
  split at hd
  · cases hd
  · exact step_data hd
end Go.Proofs.YtblpooddamkfdaaGreatDoor.OutPure

/- Layer 12: a response's head that is read is short, its fields are few, its status has three digits. No program is named. -/
namespace Go.Proofs.YtblpooddamkfdaaGreatDoor.OutFew
open LexPure LexNum Bytes FieldsPure HeadPure FramePure Flds OutPure
set_option maxRecDepth 20000
def short (f : HField) : Prop := f.1.length ≤ 512 ∧ f.2.length ≤ 512
theorem trim_len (l : List UInt8) : (trim l).length ≤ l.length := trim_length l
theorem field_short (l : List UInt8) (h : l.length ≤ 512) : short (field8 l).1 := by
  unfold field8
  split
  · refine ⟨?_, ?_⟩
    · have : (nameB l).length ≤ l.length := (List.takeWhile_prefix _).length_le
      show (nameB l).length ≤ 512
      omega
    · have h1 := trim_len (l.drop ((nameB l).length + 1))
      rw [List.length_drop] at h1
      show (trim _).length ≤ 512
      omega
  · exact ⟨Nat.zero_le _, Nat.zero_le _⟩
theorem fields_few (h : H8) : ∀ (m : Nat) (acc : List HField) (a : Nat) (s : List UInt8) (h' : H8) (n : Nat), fields8 h m acc a s = .done h' n → (∀ f ∈ acc, short f) →
    h'.status = h.status ∧ ∀ f ∈ h'.fields, short f := by
  intro m
  induction m with
  | zero =>
    intro acc a s h' n hd ha
    unfold fields8 at hd
    cases hs : scan 512 83 0 s with
    | wait => rw [hs] at hd; cases hd
    | bad e => rw [hs] at hd; cases hd
    | whole k =>
      rw [hs] at hd
      dsimp only at hd
      by_cases hk : k = 0
      · rw [if_pos hk] at hd
        injection hd with e1 e2
        subst e1
        exact ⟨rfl, ha⟩
      · rw [if_neg hk] at hd
        cases hd
  | succ m ih =>
    intro acc a s h' n hd ha
    unfold fields8 at hd
    cases hs : scan 512 83 0 s with
    | wait => rw [hs] at hd; cases hd
    | bad e => rw [hs] at hd; cases hd
    | whole k =>
      rw [hs] at hd
      dsimp only at hd
      by_cases hk : k = 0
      · rw [if_pos hk] at hd
        injection hd with e1 e2
        subst e1
        exact ⟨rfl, ha⟩
      · rw [if_neg hk] at hd
        by_cases hf : (field8 (s.take k)).2 = 0
        · rw [if_pos hf] at hd
          obtain ⟨l, q, e, hk2, _, hb⟩ := scan_whole 512 83 s 0 k hs
          have hkl : k ≤ 512 := by omega
          exact ih _ _ _ _ _ hd (fun f hf => by
            rcases List.mem_append.1 hf with hf | hf
            · exact ha f hf
            · rw [List.mem_singleton] at hf
              rw [hf]
              exact field_short _ (by rw [List.length_take]; omega))
        · rw [if_neg hf] at hd
          cases hd
theorem status_range (l : List UInt8) (h : (status8 l).2 = 0) : 100 ≤ (status8 l).1.status ∧ (status8 l).1.status < 600 := by
  unfold status8 at h ⊢
  split
  · rename_i hc
    rw [if_pos hc] at h
    dsimp only at h ⊢
    split
    · exact ⟨hc.2.2.2.1, hc.2.2.2.2.1⟩
    · rename_i hv
      rw [if_neg hv] at h
      exact absurd h hv
  · rename_i hc
    rw [if_neg hc] at h
    cases h
theorem resp_few {s : List UInt8} {h : H8} {n : Nat} (hd : read8 true s = .done h n) : 100 ≤ h.status ∧ h.status < 600 ∧ Few h.fields := by
  unfold read8 from8 at hd
  split at hd
  · cases hd
  · cases hd
  · rename_i k hs
    dsimp only at hd
    rw [if_pos rfl] at hd
    split at hd
    · rename_i h0
      obtain ⟨h1, h2⟩ := fields_few _ _ _ _ _ _ _ hd (fun f hf => by cases hf)
      have hr := status_range _ h0
      refine ⟨by rw [h1]; exact hr.1, by rw [h1]; exact hr.2, fun j hj => ?_⟩
      have := h2 _ (List.getElem_mem hj)
      exact ⟨by have := this.1; omega, by have := this.2; omega⟩
    · cases hd
/-- lengths are small -/
theorem numR_most (p : List UInt8) : numR 10 15 p ≤ 999999999999999 := by
  unfold numR
  split
  · rename_i h
    unfold numOk at h
    rw [Bool.and_eq_true, Bool.and_eq_true] at h
    have h1 := numV_lt 10 p h.2
    have h2 := of_decide_eq_true h.1.2
    have h3 : 10 ^ p.length ≤ 10 ^ 15 := Nat.pow_le_pow_right (by decide) (by omega)
    have h4 : (10 : Nat) ^ 15 = 1000000000000000 := by decide
    omega
  · omega
theorem len_most : ∀ (l : List (List UInt8)) (n : Int), n ≤ 999999999999999 → lenFrom n l ≤ 999999999999999 := by
  intro l
  induction l with
  | nil => intro n h; exact h
  | cons p l ih =>
    intro n h
    unfold lenFrom lenStep
    by_cases hc : numOk 10 15 p = true ∧ (n < 0 ∨ numR 10 15 p = n)
    · rw [if_pos hc]
      exact ih _ (numR_most p)
    · rw [if_neg hc]
      show (-1 : Int) ≤ _
      decide
theorem resp_len (meth : List UInt8) (st minor : Int) (G : List HField) : (response9 meth st minor G).2.1 ≤ 999999999999999 ∧ ((response9 meth st minor G).2.2 = 0 → 0 ≤ (response9 meth st minor G).2.1) := by
  have h := len_most (lens G) (-1) (by decide)
  have h2 : lenFrom (-1) (lens G) = lenN G := rfl
  rw [h2] at h
  unfold response9
  (repeat' split) <;> dsimp only <;> first | (constructor <;> omega) | exact ⟨by omega, fun e => by omega⟩
end Go.Proofs.YtblpooddamkfdaaGreatDoor.OutFew
