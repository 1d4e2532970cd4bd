/- Texts of this seat, one behind another: R11Read, FArg, FRow, L13Base, LawCard. -/
import Derived.Test.YtblpooddamkfdaaGreatDoorRows
import Derived.Deep.SlicePairs
import Derived.MakeChecks
import Derived.LaidSub
import Derived.Lib.LaidTab
import Derived.Test.YtblpooddamkfdaaGreatDoorCards
import Derived.Test.YtblpooddamkfdaaGreatDoorTie
import Derived.Deep.DeepHandedRow
import Derived.Lay
import Derived.SevenTiedAt
import Derived.Test.YtblpooddamkfdaaGreatDoorRB
import Derived.Test.YtblpooddamkfdaaGreatDoorRC
import Derived.Test.YtblpooddamkfdaaGreatDoorRD
import Derived.Test.YtblpooddamkfdaaGreatDoorA1
import Derived.Test.YtblpooddamkfdaaGreatDoorA3
/- Layer 11, the document's own Read, walked. -/
namespace Go.Proofs.YtblpooddamkfdaaGreatDoor.R11Read
open Go.ChangeShapes Go.WideShapes Go.ChangeAt Go.RowKit LexPure Bytes FieldsPure HeadPure FramePure TargetPure InflowPure Flds HBox KeptRow Mem R11D R12Box R11Host
set_option maxRecDepth 100000
set_option linter.unusedVariables false
set_option linter.unusedSimpArgs false
theorem r11read_any (s : ByteArray) (hs : s.size ≤ 140737488351232) (most : Int) (hmost : -9223372036854775808 ≤ most ∧ most ≤ 9223372036854775807) (w : World) :
    Calls Tryz.prog 7 #[.string s, .int .i64 most] w fun e w' => Ans (readD most (toL s)) w.heap.size e w' ∧ Below w.heap.size w w' :=
  (upto s hs most hmost w).2 (tailB s hs most hmost w) (tailD s hs most hmost w) (tailC s hs most hmost w)
end Go.Proofs.YtblpooddamkfdaaGreatDoor.R11Read

/- An argument that is a list of fields, of bulk at most 1048576. -/
namespace Go.Proofs.YtblpooddamkfdaaGreatDoor.FArg
open Go.ChangeShapes Go.WideShapes Go.ChangeAt Go.RowKit Go.Deep LexPure Bytes Ret Rows1 FieldsPure Flds
set_option maxRecDepth 20000
theorem plain_cell {w : World} {a : Addr} {v : Value} (h : w.cell? a = some v) : a = ⟨a.block, a.off, none⟩ := by
  obtain ⟨b, o, e⟩ := a
  cases e with
  | none => rfl
  | some e =>
    have := World.cell?_spot h
    cases this
theorem add_plain (b o i : Nat) : (⟨b, o, none⟩ : Addr).add i = ⟨b, o + i, none⟩ := by unfold Addr.add; split <;> simp_all
theorem bulk_pos {H : Type} (d : DataW H) : 1 ≤ Rows.uptoBulk d := by
  cases d with
  | lit l => cases l <;> simp [Rows.uptoBulk]
  | _ => simp [Rows.uptoBulk]
theorem bulkAll_len {H : Type} : ∀ l : List (DataW H), l.length ≤ Rows.uptoBulkAll l
  | [] => by simp [Rows.uptoBulkAll]
  | d :: r => by
    have h1 := bulk_pos d
    have h2 := bulkAll_len r
    rw [Rows.uptoBulkAll, List.length_cons]
    omega
theorem bulkAll_mem {H : Type} : ∀ (l : List (DataW H)) (d : DataW H), d ∈ l → Rows.uptoBulk d ≤ Rows.uptoBulkAll l
  | [], _, h => by cases h
  | x :: r, d, h => by
    rw [Rows.uptoBulkAll]
    rcases List.mem_cons.1 h with rfl | h
    · omega
    · have := bulkAll_mem r d h
      omega
/-- a list's value is nil, or it has an address -/
def Nice (v : Value) (n : Nat) : Prop := v = .slice none 0 0 ∨ ∃ a cap, v = .slice (some a) n cap
theorem fields_core {H : Type} {enc : TypeId × Value → H} {W : World} {v : Value} {d : DataW H} {p : List MemPlace} {fuel : Nat}
    (hf : DataW.trod enc Tryz.prog W 0 (fun _ => true) true fuel 23 [v] = some (d, p)) (hb : Rows.uptoBulk d ≤ 1048576) :
    ∃ G, FL W v G ∧ Few G ∧ G.length ≤ 1048576 ∧ Nice v G.length := by
  have he : Tryz.prog.underlying 36 = some (.struct #[(Tryz.prog.fieldsOf 36)[0]!, (Tryz.prog.fieldsOf 36)[1]!]) := by kernel_rfl
  rcases open_slice_pairs Tryz.underlying23 he (by kernel_rfl) (by kernel_rfl) (by kernel_rfl) (by kernel_rfl) (by kernel_rfl) hf with ⟨hc, hx⟩ | ⟨a, len, cap, m, n, V0, V1, D0, D1, P0, P1, hc, _, hlc, hcm, hm, hx, hi⟩
  · obtain rfl : v = .slice none 0 0 := by simpa using hc
    exact ⟨[], ⟨none, 0, rfl, Nat.zero_le _, fun h => absurd h (by simp)⟩, fun j hj => absurd hj (by simp), Nat.zero_le _, .inl rfl⟩
  · obtain rfl : v = .slice (some a) len cap := by simpa using hc
    injection hx with hd hp
    have hlm : len ≤ m := by rw [hm, if_pos rfl]; exact hlc
    have hS : ∀ i, i < m → ∃ s t : ByteArray, V0 i = .string s ∧ V1 i = .string t ∧ D0 i = .lit (.string s.data.toList) ∧ D1 i = .lit (.string t.data.toList) := fun i him => by
      obtain ⟨_, _, t0, t1⟩ := hi i him
      have u0 : Tryz.prog.underlying (Tryz.prog.fieldsOf 36)[0]!.type = some .string := by kernel_rfl
      have u1 : Tryz.prog.underlying (Tryz.prog.fieldsOf 36)[1]!.type = some .string := by kernel_rfl
      obtain ⟨s, hs, hs2, _⟩ := DataW.trod_string u0 t0
      obtain ⟨t, ht, ht2, _⟩ := DataW.trod_string u1 t1
      exact ⟨s, t, by simpa using hs, by simpa using ht, by simpa using congrArg Prod.fst hs2, by simpa using congrArg Prod.fst ht2⟩
    rw [hd, Rows.uptoBulk] at hb
    have hlen := bulkAll_len ((List.range len).map fun i => DataW.agg [D0 i, D1 i])
    rw [List.length_map, List.length_range] at hlen
    have hget : ∀ i : Nat, i < len → ∃ f : HField, V0 i = .string (ofL f.1) ∧ V1 i = .string (ofL f.2) ∧ f.1.length ≤ 1048576 ∧ f.2.length ≤ 1048576 := fun i hil => by
      obtain ⟨s, t, hs, ht, hs2, ht2⟩ := hS i (by omega)
      have hb2 := bulkAll_mem ((List.range len).map fun i => DataW.agg [D0 i, D1 i]) (.agg [D0 i, D1 i]) (List.mem_map.2 ⟨i, by simpa using hil, rfl⟩)
      rw [hs2, ht2] at hb2
      simp only [Rows.uptoBulk, Rows.uptoBulkAll] at hb2
      exact ⟨(toL s, toL t), by rw [hs, ofL_toL], by rw [ht, ofL_toL], by show s.data.toList.length ≤ _; omega, by show t.data.toList.length ≤ _; omega⟩
    let f : Nat → HField := fun i => if h : i < len then (hget i h).choose else ([], [])
    have hfs : ∀ i (h : i < len), V0 i = .string (ofL (f i).1) ∧ V1 i = .string (ofL (f i).2) ∧ (f i).1.length ≤ 1048576 ∧ (f i).2.length ≤ 1048576 := fun i h => by
      have := (hget i h).choose_spec
      simp only [f, dif_pos h]
      exact this
    refine ⟨(List.range len).map f, ⟨some a, cap, by simp, by simp; omega, fun h0 => ?_⟩, fun j hj => ?_, by simp; omega, .inr ⟨a, cap, by simp⟩⟩
    · rw [List.length_map, List.length_range] at h0
      obtain ⟨c0, _⟩ := hi 0 (by omega)
      have ha := plain_cell c0
      have hae : a = ⟨a.block, a.off, none⟩ := by
        obtain ⟨b, o, e⟩ := a
        cases e with
        | none => rfl
        | some e => simp [Addr.add] at ha
      have hblk := World.block_lt_of_cell? _ _ c0
      obtain ⟨b, o, e⟩ := a
      injection hae with _ _ e3
      subst e3
      refine ⟨b, o, rfl, by simpa [Addr.add] using hblk, fun j hj => ?_⟩
      rw [List.length_map, List.length_range] at hj
      obtain ⟨c1, c2, _⟩ := hi j (by omega)
      obtain ⟨v0, v1, _, _⟩ := hfs j hj
      rw [v0] at c1
      rw [v1] at c2
      simp only [List.getElem_map, List.getElem_range]
      rw [add_plain] at c1 c2
      exact ⟨c1, by rw [Nat.add_assoc]; exact c2⟩
    · rw [List.length_map, List.length_range] at hj
      simp only [List.getElem_map, List.getElem_range]
      exact (hfs j hj).2.2
theorem fields_arg {H : Type} {enc : TypeId × Value → H} {W : World} {base : Nat} {v : Value} {d : DataW H} {p : List MemPlace} (hv : Value.okWide Tryz.prog W .any base 23 v)
    (h : DataW.Trod enc Tryz.prog W 0 (fun _ => true) true 23 v d p) (hb : Rows.uptoBulk d ≤ 1048576) :
    ∃ G, FL W v G ∧ Few G ∧ G.length ≤ 1048576 ∧ Nice v G.length := by
  obtain ⟨a0, len, cap, rfl⟩ := okWide_slice Tryz.underlying23 hv
  obtain ⟨fuel, hf⟩ := h
  exact fields_core (by simpa [Value.cells] using hf) hb
/-- the same where each string and each slice takes what memory holds: the first form -/
theorem fields_arg_wide {H : Type} {enc : TypeId × Value → H} {W : World} {base : Nat} {v : Value} {d : DataW H} {p : List MemPlace} (hv : Value.okWide Tryz.prog W .any base 23 v)
    (h : DataW.Trod enc Tryz.prog W 0 (fun _ => true) true 23 v d p) (hb : (d.weights Tryz.prog 23).all (· ≤ reachBytes) = true) :
    ∃ G, FL W v G ∧ (∀ (j : Nat) (h : j < G.length), G[j].1.length ≤ 9223372036854775807 ∧ G[j].2.length ≤ 9223372036854775807) ∧ G.length ≤ 4398046510976 ∧ Nice v G.length := by
  obtain ⟨a0, len, cap, rfl⟩ := okWide_slice Tryz.underlying23 hv
  obtain ⟨fuel, hf⟩ := h
  have he : Tryz.prog.underlying 36 = some (.struct #[(Tryz.prog.fieldsOf 36)[0]!, (Tryz.prog.fieldsOf 36)[1]!]) := by kernel_rfl
  rcases open_slice_pairs Tryz.underlying23 he (by kernel_rfl) (by kernel_rfl) (by kernel_rfl) (by kernel_rfl) (by kernel_rfl) hf with ⟨hc, hx⟩ | ⟨a, len', cap', m, n, V0, V1, D0, D1, P0, P1, hc, _, hlc, hcm, hm, hx, hi⟩
  · have hc' : Value.slice a0 len cap = .slice none 0 0 := by simpa [Value.cells] using hc
    injection hc' with e1 e2 e3
    subst e1 e2 e3
    exact ⟨[], ⟨none, 0, rfl, Nat.zero_le _, fun h => absurd h (by simp)⟩, fun j hj => absurd hj (by simp), Nat.zero_le _, .inl rfl⟩
  · have hc' : Value.slice a0 len cap = .slice (some a) len' cap' := by simpa [Value.cells] using hc
    injection hc' with e1 e2 e3
    subst e1 e2 e3
    injection hx with hd hp
    have hlm : len ≤ m := by rw [hm, if_pos rfl]; exact hlc
    have hS : ∀ i, i < m → ∃ f : HField, V0 i = .string (ofL f.1) ∧ V1 i = .string (ofL f.2) ∧ f.1.length ≤ 9223372036854775807 ∧ f.2.length ≤ 9223372036854775807 := fun i him => by
      obtain ⟨_, _, t0, t1⟩ := hi i him
      have u0 : Tryz.prog.underlying (Tryz.prog.fieldsOf 36)[0]!.type = some .string := by kernel_rfl
      have u1 : Tryz.prog.underlying (Tryz.prog.fieldsOf 36)[1]!.type = some .string := by kernel_rfl
      obtain ⟨s, hs, _, ls⟩ := DataW.trod_string u0 t0
      obtain ⟨t, ht, _, lt⟩ := DataW.trod_string u1 t1
      unfold maxLen at ls lt
      exact ⟨(toL s, toL t), by rw [ofL_toL]; simpa using hs, by rw [ofL_toL]; simpa using ht, by rw [toL_length]; exact ls, by rw [toL_length]; exact lt⟩
    have hlen : len * 32 ≤ 140737488351232 := by
      rw [hd] at hb
      simp only [DataW.weights, Tryz.underlying23, List.all_cons, Bool.and_eq_true] at hb
      have h1 := of_decide_eq_true hb.1
      rw [show Tryz.prog.bytesOf 36 = 32 by kernel_rfl, List.length_map, List.length_range] at h1
      unfold reachBytes at h1
      omega
    let f : Nat → HField := fun i => if h : i < m then (hS i h).choose else ([], [])
    have hfs : ∀ i (h : i < m), V0 i = .string (ofL (f i).1) ∧ V1 i = .string (ofL (f i).2) ∧ (f i).1.length ≤ 9223372036854775807 ∧ (f i).2.length ≤ 9223372036854775807 := fun i h => by
      have := (hS i h).choose_spec
      simp only [f, dif_pos h]
      exact this
    refine ⟨(List.range len).map f, ⟨some a, cap, by simp, by simp; omega, fun h0 => ?_⟩, fun j hj => ?_, by simp; omega, .inr ⟨a, cap, by simp⟩⟩
    · rw [List.length_map, List.length_range] at h0
      obtain ⟨c0, _⟩ := hi 0 (by omega)
      have ha := plain_cell c0
      have hae : a = ⟨a.block, a.off, none⟩ := by
        obtain ⟨b, o, e⟩ := a
        cases e with
        | none => rfl
        | some e => simp [Addr.add] at ha
      have hblk := World.block_lt_of_cell? _ _ c0
      obtain ⟨b, o, e⟩ := a
      injection hae with _ _ e3
      subst e3
      refine ⟨b, o, rfl, by simpa [Addr.add] using hblk, fun j hj => ?_⟩
      rw [List.length_map, List.length_range] at hj
      obtain ⟨c1, c2, _⟩ := hi j (by omega)
      obtain ⟨v0, v1, _, _⟩ := hfs j (by omega)
      rw [v0] at c1
      rw [v1] at c2
      simp only [List.getElem_map, List.getElem_range]
      rw [add_plain] at c1 c2
      exact ⟨c1, by rw [Nat.add_assoc]; exact c2⟩
    · rw [List.length_map, List.length_range] at hj
      simp only [List.getElem_map, List.getElem_range]
      exact (hfs j (by omega)).2.2
theorem weightsAll_mem {H : Type} {P : Program} {e : TypeId} (q : Nat → Bool) : ∀ l : List (DataW H), (DataW.weightsAll P e l).all q = true → ∀ d ∈ l, (d.weights P e).all q = true
  | [], _, d, hd => by cases hd
  | x :: l, h, d, hd => by
    simp only [DataW.weightsAll, List.all_append, Bool.and_eq_true] at h
    rcases List.mem_cons.1 hd with rfl | hd
    · exact h.1
    · exact weightsAll_mem q l h.2 d hd
theorem fields_core_reach {H : Type} {enc : TypeId × Value → H} {W : World} {v : Value} {d : DataW H} {p : List MemPlace} {fuel : Nat}
    (hf : DataW.trod enc Tryz.prog W 0 (fun _ => true) true fuel 23 [v] = some (d, p)) (hb : (d.weights Tryz.prog 23).all (· ≤ reachBytes) = true) :
    ∃ G, FL W v G ∧ Far G ∧ G.length ≤ 4398046510976 ∧ Nice v G.length := by
  have he : Tryz.prog.underlying 36 = some (.struct #[(Tryz.prog.fieldsOf 36)[0]!, (Tryz.prog.fieldsOf 36)[1]!]) := by kernel_rfl
  rcases open_slice_pairs Tryz.underlying23 he (by kernel_rfl) (by kernel_rfl) (by kernel_rfl) (by kernel_rfl) (by kernel_rfl) hf with ⟨hc, hx⟩ | ⟨a, len, cap, m, n, V0, V1, D0, D1, P0, P1, hc, _, hlc, hcm, hm, hx, hi⟩
  · obtain rfl : v = .slice none 0 0 := by simpa using hc
    exact ⟨[], ⟨none, 0, rfl, Nat.zero_le _, fun h => absurd h (by simp)⟩, fun j hj => absurd hj (by simp), Nat.zero_le _, .inl rfl⟩
  · obtain rfl : v = .slice (some a) len cap := by simpa using hc
    injection hx with hd hp
    have hlm : len ≤ m := by rw [hm, if_pos rfl]; exact hlc
    have hall : ∀ i, i < len → ((DataW.agg [D0 i, D1 i]).weights Tryz.prog 36).all (· ≤ reachBytes) = true := fun i hil => by
      rw [hd] at hb
      simp only [DataW.weights, Tryz.underlying23, List.all_cons, Bool.and_eq_true, List.all_append] at hb
      exact weightsAll_mem _ _ hb.2.1 _ (List.mem_map.2 ⟨i, List.mem_range.2 hil, rfl⟩)
    have hS : ∀ i, i < m → ∃ f : HField, V0 i = .string (ofL f.1) ∧ V1 i = .string (ofL f.2) ∧ (i < len → f.1.length ≤ 140737488351232 ∧ f.2.length ≤ 140737488351232) := fun i him => by
      obtain ⟨_, _, t0, t1⟩ := hi i him
      have u0 : Tryz.prog.underlying (Tryz.prog.fieldsOf 36)[0]!.type = some .string := by kernel_rfl
      have u1 : Tryz.prog.underlying (Tryz.prog.fieldsOf 36)[1]!.type = some .string := by kernel_rfl
      obtain ⟨s, hs, hs2, _⟩ := DataW.trod_string u0 t0
      obtain ⟨t, ht, ht2, _⟩ := DataW.trod_string u1 t1
      have e0 : D0 i = .lit (.string s.data.toList) := by simpa using congrArg Prod.fst hs2
      have e1 : D1 i = .lit (.string t.data.toList) := by simpa using congrArg Prod.fst ht2
      refine ⟨(toL s, toL t), by rw [ofL_toL]; simpa using hs, by rw [ofL_toL]; simpa using ht, fun hil => ?_⟩
      have h := hall i hil
      rw [e0, e1] at h
      simp only [DataW.weights, he, List.map_cons, List.map_nil, DataW.weightsEach, List.all_append, List.all_cons, List.all_nil, Bool.and_true, Bool.and_eq_true] at h
      have h1 := of_decide_eq_true h.1
      have h2 := of_decide_eq_true h.2
      unfold reachBytes at h1 h2
      exact ⟨h1, h2⟩
    have hlen : len * 32 ≤ 140737488351232 := by
      rw [hd] at hb
      simp only [DataW.weights, Tryz.underlying23, List.all_cons, Bool.and_eq_true] at hb
      have h1 := of_decide_eq_true hb.1
      rw [show Tryz.prog.bytesOf 36 = 32 by kernel_rfl, List.length_map, List.length_range] at h1
      unfold reachBytes at h1
      omega
    let f : Nat → HField := fun i => if h : i < m then (hS i h).choose else ([], [])
    have hfs : ∀ i (h : i < m), V0 i = .string (ofL (f i).1) ∧ V1 i = .string (ofL (f i).2) ∧ (i < len → (f i).1.length ≤ 140737488351232 ∧ (f i).2.length ≤ 140737488351232) := fun i h => by
      have := (hS i h).choose_spec
      simp only [f, dif_pos h]
      exact this
    refine ⟨(List.range len).map f, ⟨some a, cap, by simp, by simp; omega, fun h0 => ?_⟩, fun j hj => ?_, by simp; omega, .inr ⟨a, cap, by simp⟩⟩
    · rw [List.length_map, List.length_range] at h0
      obtain ⟨c0, _⟩ := hi 0 (by omega)
      have ha := plain_cell c0
      have hae : a = ⟨a.block, a.off, none⟩ := by
        obtain ⟨b, o, e⟩ := a
        cases e with
        | none => rfl
        | some e => simp [Addr.add] at ha
      have hblk := World.block_lt_of_cell? _ _ c0
      obtain ⟨b, o, e⟩ := a
      injection hae with _ _ e3
      subst e3
      refine ⟨b, o, rfl, by simpa [Addr.add] using hblk, fun j hj => ?_⟩
      rw [List.length_map, List.length_range] at hj
      obtain ⟨c1, c2, _⟩ := hi j (by omega)
      obtain ⟨v0, v1, _⟩ := hfs j (by omega)
      rw [v0] at c1
      rw [v1] at c2
      simp only [List.getElem_map, List.getElem_range]
      rw [add_plain] at c1 c2
      exact ⟨c1, by rw [Nat.add_assoc]; exact c2⟩
    · rw [List.length_map, List.length_range] at hj
      simp only [List.getElem_map, List.getElem_range]
      exact (hfs j (by omega)).2.2 (by omega)
theorem fields_arg_reach {H : Type} {enc : TypeId × Value → H} {W : World} {base : Nat} {v : Value} {d : DataW H} {p : List MemPlace} (hv : Value.okWide Tryz.prog W .any base 23 v)
    (h : DataW.Trod enc Tryz.prog W 0 (fun _ => true) true 23 v d p) (hb : (d.weights Tryz.prog 23).all (· ≤ reachBytes) = true) :
    ∃ G, FL W v G ∧ Far G ∧ G.length ≤ 4398046510976 ∧ Nice v G.length := by
  obtain ⟨a0, len, cap, rfl⟩ := okWide_slice Tryz.underlying23 hv
  obtain ⟨fuel, hf⟩ := h
  exact fields_core_reach (by simpa [Value.cells] using hf) hb
end Go.Proofs.YtblpooddamkfdaaGreatDoor.FArg

/- A list of fields appended to a row of one's own. -/
namespace Go.Proofs.YtblpooddamkfdaaGreatDoor.FRow
open Go.ChangeShapes Go.WideShapes Go.ChangeAt Go.RowKit LexPure Bytes Ret Rows1 FieldsPure Flds KeptRow Mem
set_option maxRecDepth 20000
/-- a list's value is nil, or it has an address -/
abbrev Nice := FArg.Nice
theorem encFs_len (G : List HField) : (encFs G).length = G.length * 2 := by
  induction G with
  | nil => rfl
  | cons f G ih =>
    rw [show f :: G = [f] ++ G from rfl, encFs_append, List.length_append, ih]
    simp [encFs, encF]
    omega
theorem encFs_cells (G : List HField) : ∀ u ∈ encFs G, u.oneCell' = true := by
  intro u hu
  unfold encFs at hu
  obtain ⟨f, _, hf⟩ := List.mem_flatMap.1 hu
  unfold encF at hf
  simp only [List.mem_cons, List.not_mem_nil, or_false] at hf
  rcases hf with rfl | rfl <;> rfl
theorem encFs_get (G : List HField) (j : Nat) (u : Value) (h : (encFs G)[j]? = some u) : ∃ i, ∃ hi : i < G.length, (j = i * 2 ∧ u = .string (ofL G[i].1)) ∨ (j = i * 2 + 1 ∧ u = .string (ofL G[i].2)) := by
  have hj : j < G.length * 2 := by rw [← encFs_len]; exact (List.getElem?_eq_some_iff.1 h).1
  have hi : j / 2 < G.length := by omega
  obtain ⟨h1, h2⟩ := encFs_at G (j / 2) G[j / 2] (List.getElem?_eq_getElem hi)
  refine ⟨j / 2, hi, ?_⟩
  rcases Nat.mod_two_eq_zero_or_one j with e | e
  · have ej : j = j / 2 * 2 := by omega
    rw [← ej] at h1
    rw [h1] at h
    exact .inl ⟨ej, (Option.some.inj h).symm⟩
  · have ej : j = j / 2 * 2 + 1 := by omega
    rw [← ej] at h2
    rw [h2] at h
    exact .inr ⟨ej, (Option.some.inj h).symm⟩
set_option maxHeartbeats 800000 in
theorem run_append_list {w : World} (ty base : Nat) (v : Value) (n : Nat) (xs : List Value) (hown : w.ownsRow base 36 2 v n xs) (y : Value) (G : List HField) (hF : FL w y G) (hy : Nice y G.length)
    (h63 : n + G.length ≤ 4398046511104) (hbase : base ≤ w.heap.size) :
    ∃ v' w', (Builtin.append_ #[23, 23] ty #[v, y]).run Tryz.prog w = .ok v' w' ∧ w'.ownsRow base 36 2 v' (n + G.length) (xs ++ encFs G) ∧ w.grownBy w' v.ownBlock := by
  obtain ⟨i0, hi, hz0, hz1, hz2⟩ := info_parts infoF
  rcases hy with rfl | ⟨a, cap, rfl⟩
  · obtain ⟨p', c', hv, _, _⟩ := hF
    have hlen : G.length = 0 := by injection hv with _ h _; exact h.symm
    have hG : G = [] := List.eq_nil_of_length_eq_zero hlen
    subst hG
    exact ⟨v, w, run_append_owned_none (P := Tryz.prog) (w := w) base 23 ty 36 i0 2 Tryz.underlying23 hi v n xs hown, by simpa [encFs] using hown, World.grownBy.refl w _⟩
  · obtain ⟨p', c', hv, hle, hc⟩ := hF
    injection hv with e1 _ e3
    subst e1 e3
    obtain ⟨v', w', hr, h2, h3, _, _⟩ := run_append_own_at (P := Tryz.prog) w base 23 ty 36 i0 _ 2 32 Tryz.underlying23 hi hz0 hz1 hz2 rfl (by omega) v n xs hown a G.length cap (encFs G) (encFs_len G)
      (fun j u h => by
        obtain ⟨i, hi, hh⟩ := encFs_get G j u h
        obtain ⟨g', o', e, _, hcell⟩ := hc (by omega)
        injection e with e
        subst e
        rw [FArg.add_plain]
        rcases hh with ⟨rfl, rfl⟩ | ⟨rfl, rfl⟩
        · exact (hcell i hi).1
        · exact (hcell i hi).2) (encFs_cells G) (by unfold maxLen; omega) (by omega) hbase
    exact ⟨v', w', hr, h2, h3⟩
theorem wpList_append_list {w : World} {ops : Array Oper} {rest : List Oper} {o : Oper} {a : Act} {Q : Exit → Act → World → Prop} (hgd : o.guard = none) (s x : Operand)
    (ho : o.op = .call { callee := .builtin .append, args := #[s, x], argTypes := #[23, 23] }) (base : Nat) (v : Value) (n : Nat) (xs : List Value) (hs : a.eval s = v) (hown : w.ownsRow base 36 2 v n xs)
    (y : Value) (G : List HField) (hx : a.eval x = y) (hF : FL w y G) (hy : Nice y G.length) (h63 : n + G.length ≤ 4398046511104) (hbase : base ≤ w.heap.size)
    (h : ∀ v' w', w'.ownsRow base 36 2 v' (n + G.length) (xs ++ encFs G) → w.grownBy w' v.ownBlock → wpList Tryz.prog ops Q rest (a.put o.dst v') w') :
    wpList Tryz.prog ops Q (o :: rest) a w := by
  refine wpList_plain hgd fun K hK => ?_
  obtain ⟨v', w', hrun, r1, r2⟩ := run_append_list o.type base v n xs hown y G hF hy h63 hbase
  unfold Oper.wp execOp
  simp only [ho, resolve, invoke, builtin, Sem.run_bind, Sem.run_pure, Result.andThen_ok, List.map_toArray, List.map_cons, List.map_nil, hs, hx, hrun]
  exact hK _ _ (h v' w' r1 r2)
/-- an empty list that is no nil -/
theorem owns_none (w : World) (t : TypeId) (base : Nat) (hb : base ≤ w.heap.size) : (w.alloc (.cells #[] t)).ownsRow base t 2 (.slice (some ⟨w.heap.size, 0, none⟩) 0 0) 0 [] :=
  ⟨rfl, .inr ⟨w.heap.size, 0, #[], rfl, hb, heap_alloc_new w _, Nat.le_refl _, Nat.zero_le _, rfl, rfl⟩⟩
/-- behind 'append([]api.Field{}, l...)' -/
theorem copied {w1 w4 : World} {v4 : Value} {G : List HField} (h : w4.ownsRow w1.heap.size 36 2 v4 (0 + G.length) ([] ++ encFs G))
    (hg : (w1.alloc (.cells #[] 36)).grownBy w4 (Value.slice (some ⟨w1.heap.size, 0, none⟩) 0 0).ownBlock) :
    w4.ownsRow w1.heap.size 36 2 v4 G.length (encFs G) ∧ Below w1.heap.size w1 w4 := by
  rw [Nat.zero_add, List.nil_append] at h
  exact ⟨h, ((Below.refl _ w1).alloc (Nat.le_refl _) _).grown hg (by simp) (fun j e => by cases e; exact Nat.le_refl _)⟩
theorem fl_new (w : World) (G : List HField) (cells : List Value) (cap : Nat) (hc : cells = encFs G) (hle : G.length ≤ 4398046511104) :
    FL (w.alloc (.cells cells.toArray 36)) (.slice (some ⟨w.heap.size, 0, none⟩) G.length cap) G := by
  refine ⟨_, cap, rfl, hle, fun _ => ⟨w.heap.size, 0, rfl, by simp, fun j hj => ?_⟩⟩
  have h := (Has.new w 36 cells.toArray).cell
  obtain ⟨h1, h2⟩ := encFs_at G j G[j] (List.getElem?_eq_getElem hj)
  rw [Nat.zero_add, h, h]
  subst hc
  constructor
  · simpa using h1
  · simpa using h2
end Go.Proofs.YtblpooddamkfdaaGreatDoor.FRow

/- Layer 13's laws: the document's example, the copy of a list, strconv's table. -/
namespace Go.Proofs.YtblpooddamkfdaaGreatDoor.L13Base
open Go.ChangeShapes Go.WideShapes Go.ChangeAt Go.RowKit Bytes LexPure FieldsPure EmitPure Flds Mem PEmJoin PLib FRow KeptRow
set_option maxRecDepth 100000
set_option linter.unusedVariables false
set_option linter.unusedSimpArgs false
theorem pow_of_laid {W : World} {L : List (String × DataW Unit)} (hL : L.filter (fun x => x.1 == "internal/strconv.uint64pow10") = [("internal/strconv.uint64pow10", Rows.laid_internal_strconv_uint64pow10)]) (h0 : laidMetH Tryz.prog L W) : Pow W := by
  have h := laidMetH.filter (fun x => x.1 == "internal/strconv.uint64pow10") h0
  rw [hL, MakeChecks.laidMetH_plain _ _ _ (by kernel_rfl)] at h
  exact Lib.tabIs_of_head (g := 0) (t := 155) (e := 146) (n := 20) (by kernel_rfl) (by kernel_rfl) Tryz.underlying155 Tryz.underlying146 (by kernel_rfl) (by kernel_rfl) h
theorem said404 : localE 404 [] [110, 111] false false = [72, 84, 84, 80, 47, 49, 46, 49, 32, 52, 48, 52, 32, 78, 111, 116, 32, 70, 111, 117, 110, 100, 13, 10, 86, 105, 97, 58, 32, 49, 46, 49, 32, 98, 97, 114, 98, 105, 99, 97, 110, 13, 10, 67, 111, 110, 116, 101, 110, 116, 45, 76, 101, 110, 103, 116, 104, 58, 32, 50, 13, 10, 67, 111, 110, 110, 101, 99, 116, 105, 111, 110, 58, 32, 99, 108, 111, 115, 101, 13, 10, 13, 10, 110, 111] := by decide +kernel
theorem anchor_any (w : World) (hm : MaxInt w) (hp : Pow w) : Calls Tryz.prog 6 #[] w fun e w' => e = .returned (.bool true) ∧ Below w.heap.size w w' := by
  have H := PEmLocal.local_any 404 (.slice none 0 0) [] [110, 111] false false (by decide) (by decide) (fun j hj => absurd hj (by simp)) (by decide) (by decide) w hm hp (fl_none w)
  rw [said404] at H
  have HH := Lib.hid H
  clear H hm hp
  go_enter Tryz.func6, Tryz.ntmps6
  go_wp2_with fail
  refine HH.out.mono ?_
  rintro e w1 ⟨rfl, hb⟩
  unfold ofL
  go_wp2_with fail
  go_ret
  exact ⟨rfl, hb⟩
set_option maxHeartbeats 1600000 in
theorem copied_any (v : Value) (G : List HField) (hle : G.length ≤ 4398046511104) (hy : Nice v G.length) (w : World) (hF : FL w v G) :
    Calls Tryz.prog 12 #[v] w fun e w' => ∃ v', e = .returned v' ∧ w'.ownsRow w.heap.size 36 2 v' G.length (encFs G) ∧ Below w.heap.size w w' := by
  obtain ⟨p, cap, rfl, _, _⟩ := id hF
  have hF1 := hF.below ((Below.refl w.heap.size w).alloc (Nat.le_refl _) (.cells #[] 36))
  have hsz : w.heap.size ≤ (w.alloc (.cells #[] 36)).heap.size := by simp
  have HN := Lib.hid hy
  clear hF hy
  go_enter Tryz.func12, Tryz.ntmps12
  go_wp2_with (at_builtin; refine wpList_append_list rfl _ _ rfl w.heap.size _ 0 [] rfl (owns_none w _ _ (Nat.le_refl _)) _ G rfl hF1 HN.out (by omega) hsz ?_; intro v4 w4 hown4 hg4)
  have HR := Lib.hid (copied hown4 hg4)
  clear hown4 hg4 hF1 hsz
  go_ret
  exact ⟨_, rfl, HR.out⟩
end Go.Proofs.YtblpooddamkfdaaGreatDoor.L13Base

/- The row's step for a law whose row lists variables, and its card: the witness in the world that the listed data lay. -/
namespace Go.Proofs.YtblpooddamkfdaaGreatDoor.LawCard
open Go.ChangeShapes Go.WideShapes Go.ChangeAt Go.RowKit
variable {H : Type} {enc : TypeId × Value → H}
/-- there is an input that fits: in the world that the listed data lay -/
theorem witness {C : Checked} {os : Os} {f : FuncId} {fn : Func} {s : OpenSpec} {conds : List PathCond} {apart : Bool} {laid : List (String × DataW Unit)} (args : Array Value)
    (hv : ((World.laidAll C.prog os laid).forCall (fun _ _ => 0) ⟨#[], args, []⟩).variablesZipB C.prog = true)
    (hr : (((World.laidAll C.prog os laid).forCall (fun _ _ => 0) ⟨#[], args, []⟩).heap.toList.drop C.prog.globals.size).take ((begin C.prog (fun _ _ => 0) default).world.heap.size - C.prog.globals.size) =
      (begin C.prog (fun _ _ => 0) default).world.heap.toList.drop C.prog.globals.size)
    (hok : Input.okWideB C.prog ((World.laidAll C.prog os laid).forCall (fun _ _ => 0) ⟨#[], args, []⟩) f ⟨#[], args, []⟩ = true)
    (hplain : ∀ w, laidMetH C.prog laid w = laidMet C.prog laid w)
    (hf : (World.holding C.prog os ⟨#[], #[], []⟩).layFits C.prog laid [] = true)
    (hi : (World.holding C.prog os ⟨#[], #[], []⟩).layIfaces C.prog laid (World.laidAll C.prog os laid) = true)
    {x : List (DataW H) × List (DataW H) × List MemPlace} (hx : DataW.whole enc C.prog ((World.laidAll C.prog os laid).forCall (fun _ _ => 0) ⟨#[], args, []⟩).memory fn.params.toList s.vars apart args.toList 8 = some x)
    (hconds : conds.all (PathCond.test C.prog ⟨fn.params.toList, x.1, s.bare.plain.varTypes C.prog, x.2.1⟩) = true) (hkk : ∀ k, s.cond = some k → k H (x.1 ++ x.2.1) = true)
    (hsz : s.bare.sizedB enc C.prog fn apart ((World.laidAll C.prog os laid).forCall (fun _ _ => 0) ⟨#[], args, []⟩).memory args 8 = true) :
    ∃ (w : World) (tape : Tape) (i : Input), w.os = os ∧ (w.forCall tape i).Shaped C.prog ∧ i.vars = [] ∧ Input.okWide C.prog (w.forCall tape i) .any w.heap.size f i ∧
      s.preRow enc C.prog fn conds apart laid (w.forCall tape i).memory i.args ∧ ({} : Assume).holds C.prog (lone (Frame.enter C.prog f i.args .normal) [] (w.forCall tape i)) :=
  ⟨World.laidAll C.prog os laid, fun _ _ => 0, ⟨#[], args, []⟩, World.laidAll_os _ _ _, World.shaped_of_ZipB hv hr, (Input.okWide_of_okWideB (base := 0) hok).1, (Input.okWide_of_okWideB hok).2,
    OpenSpec.preRow_of_cond 8 hx hconds hkk hsz (by rw [hplain]; exact laidMet_laidAll _ hf hi), by
    simp only [Assume.holds]
    exact ⟨by simp, by simp, fun _ => Modest.zero, by simp, by simp⟩⟩
end Go.Proofs.YtblpooddamkfdaaGreatDoor.LawCard
