/- Texts of this seat, one behind another: SArg, ConfArg. -/
import Derived.Test.YtfihehobkbfmiaaGreatDoorRows
import Derived.Deep.Slices
import Derived.Deep.Fields
import Derived.Test.YtfihehobkbfmiaaGreatDoorA2
import Derived.Test.YtfihehobkbfmiaaGreatDoorA3
/- An argument that is a list of texts. -/
namespace Go.Proofs.YtfihehobkbfmiaaGreatDoor.SArg
open Go.ChangeShapes Go.WideShapes Go.ChangeAt Go.RowKit Go.Deep LexPure Bytes Ret Rows1 Texts BulkOf
set_option maxRecDepth 20000
/-- what both forms have in common: the texts, each with its reading -/
theorem texts_core {H : Type} {enc : TypeId × Value → H} {W : World} {v : Value} {d : DataW H} {p : List MemPlace} {fuel : Nat}
    (hf : DataW.trod enc Tryz.prog W 0 (fun _ => true) true fuel 36 [v] = some (d, p)) :
    ∃ G, Texts W v G ∧ (d = .nil ∧ G = [] ∨ ∃ sp, d = .slice (G.map fun t => .lit (.string t)) sp) := by
  rcases open_slice1 Tryz.underlying36 (by kernel_rfl) hf with ⟨hc, hx⟩ | ⟨a, len, cap, m, n, V, D, Pl, hc, _, hlc, hcm, hm, hx, hi⟩
  · obtain rfl : v = .slice none 0 0 := by simpa using hc
    injection hx with hd _
    exact ⟨[], ⟨none, 0, rfl, Nat.zero_le _, fun h => absurd h (by simp)⟩, .inl ⟨hd, rfl⟩⟩
  · obtain rfl : v = .slice (some a) len cap := by simpa using hc
    injection hx with hd hp
    have hlm : len ≤ m := by rw [hm, if_pos rfl]; exact hlc
    unfold maxLen at hcm
    have hS : ∀ i, i < len → ∃ s : List UInt8, V i = .string (ofL s) ∧ D i = .lit (.string s) := fun i hil => by
      obtain ⟨_, t0⟩ := hi i (by omega)
      obtain ⟨s, hs, hs2, _⟩ := DataW.trod_string Tryz.underlying9 t0
      exact ⟨toL s, by rw [ofL_toL]; simpa using hs, by simpa using congrArg Prod.fst hs2⟩
    let f : Nat → List UInt8 := fun i => if h : i < len then (hS i h).choose else []
    have hfs : ∀ i (h : i < len), V i = .string (ofL (f i)) ∧ D i = .lit (.string (f i)) := fun i h => by
      have := (hS i h).choose_spec
      simp only [f, dif_pos h]
      exact this
    refine ⟨(List.range len).map f, ⟨some a, cap, by simp, by simp; omega, fun h0 => ?_⟩, .inr ⟨(List.range (m - len)).map fun j => D (len + j), ?_⟩⟩
    · rw [List.length_map, List.length_range] at h0
      obtain ⟨c0, _⟩ := hi 0 (by omega)
      have ha := plain_cell c0
      have hae : a = ⟨a.block, a.off, none⟩ := by
        obtain ⟨b, o, e⟩ := a
        cases e with
        | none => rfl
        | some e => simp [Addr.add] at ha
      have hblk := World.block_lt_of_cell? _ _ c0
      obtain ⟨b, o, e⟩ := a
      injection hae with _ _ e3
      subst e3
      refine ⟨b, o, rfl, by simpa [Addr.add] using hblk, fun j hj => ?_⟩
      rw [List.length_map, List.length_range] at hj
      obtain ⟨c1, _⟩ := hi j (by omega)
      rw [(hfs j hj).1] at c1
      simp only [List.getElem_map, List.getElem_range]
      rw [BulkOf.add_plain] at c1
      exact c1
    · rw [hd]
      congr 1
      rw [List.map_map]
      exact List.map_congr_left (fun i hi => (hfs i (List.mem_range.1 hi)).2)
theorem texts_upto {H : Type} {enc : TypeId × Value → H} {W : World} {base : Nat} {v : Value} {d : DataW H} {p : List MemPlace} (hv : Value.okWide Tryz.prog W .any base 36 v)
    (h : DataW.Trod enc Tryz.prog W 0 (fun _ => true) true 36 v d p) (hb : Rows.uptoBulk d ≤ 1048576) :
    ∃ G, Texts W v G ∧ (∀ t ∈ G, t.length ≤ 1048576) ∧ G.length ≤ 1048576 := by
  obtain ⟨a0, len, cap, rfl⟩ := okWide_slice Tryz.underlying36 hv
  obtain ⟨fuel, hf⟩ := h
  obtain ⟨G, hT, hd⟩ := texts_core (v := .slice a0 len cap) (by simpa [Value.cells] using hf)
  refine ⟨G, hT, ?_⟩
  rcases hd with ⟨_, rfl⟩ | ⟨sp, rfl⟩
  · exact ⟨fun t ht => (by cases ht), Nat.zero_le _⟩
  · rw [Rows.uptoBulk] at hb
    have hl := bulkAll_len (G.map fun t => (DataW.lit (.string t) : DataW H))
    rw [List.length_map] at hl
    refine ⟨fun t ht => ?_, by omega⟩
    have := bulkAll_mem (G.map fun t => (DataW.lit (.string t) : DataW H)) (.lit (.string t)) (List.mem_map.2 ⟨t, ht, rfl⟩)
    simp only [Rows.uptoBulk] at this
    omega
theorem texts_reach {H : Type} {enc : TypeId × Value → H} {W : World} {base : Nat} {v : Value} {d : DataW H} {p : List MemPlace} (hv : Value.okWide Tryz.prog W .any base 36 v)
    (h : DataW.Trod enc Tryz.prog W 0 (fun _ => true) true 36 v d p) (hb : (d.weights Tryz.prog 36).all (· ≤ reachBytes) = true) :
    ∃ G, Texts W v G ∧ (∀ t ∈ G, t.length ≤ 140737488351232) ∧ G.length ≤ 8796093022208 := by
  obtain ⟨a0, len, cap, rfl⟩ := okWide_slice Tryz.underlying36 hv
  obtain ⟨fuel, hf⟩ := h
  obtain ⟨G, hT, hd⟩ := texts_core (v := .slice a0 len cap) (by simpa [Value.cells] using hf)
  refine ⟨G, hT, ?_⟩
  rcases hd with ⟨_, rfl⟩ | ⟨sp, rfl⟩
  · exact ⟨fun t ht => (by cases ht), Nat.zero_le _⟩
  · simp only [DataW.weights, Tryz.underlying36, List.all_cons, Bool.and_eq_true, List.all_append] at hb
    refine ⟨fun t ht => ?_, ?_⟩
    · have := weightsAll_mem _ _ hb.2.1 (.lit (.string t)) (List.mem_map.2 ⟨t, ht, rfl⟩)
      simp only [DataW.weights, List.all_cons, List.all_nil, Bool.and_true] at this
      have h1 := of_decide_eq_true this
      unfold reachBytes at h1
      exact h1
    · have h1 := of_decide_eq_true hb.1
      rw [show Tryz.prog.bytesOf 9 = 16 by kernel_rfl, List.length_map] at h1
      unfold reachBytes at h1
      omega
end Go.Proofs.YtfihehobkbfmiaaGreatDoor.SArg

/- Layer 14's laws: an argument that is a config, of bulk at most 1048576. -/
namespace Go.Proofs.YtfihehobkbfmiaaGreatDoor.ConfArg
open Go.ChangeShapes Go.WideShapes Go.ChangeAt Go.RowKit Go.Deep LexPure Bytes Ret Rows1 Texts ConfPure ConfMem RowsArg
set_option maxRecDepth 100000
theorem wf_in {n : Int} (h : (Lit.int .i64 n).wf = true) : -9223372036854775808 ≤ n ∧ n ≤ 9223372036854775807 := by
  simpa [Lit.wf, IntKind.min, IntKind.max, IntKind.bits, IntKind.signed] using h
theorem gather {T : Type} {n : Nat} {R : Nat → T → Prop} (z : T) (h : ∀ i, i < n → ∃ x, R i x) : ∃ G : List T, G.length = n ∧ ∀ i, i < n → R i (G.getD i z) := by
  let f : Nat → T := fun i => if h2 : i < n then (h i h2).choose else z
  refine ⟨(List.range n).map f, by simp, fun i hi => ?_⟩
  have e : ((List.range n).map f).getD i z = f i := by simp [List.getD, hi]
  rw [e]
  have := (h i hi).choose_spec
  simp only [f, dif_pos hi]
  exact this
theorem mem_getD {T : Type} {G : List T} {z x : T} (h : x ∈ G) : ∃ i, i < G.length ∧ G.getD i z = x := by
  obtain ⟨i, hi, rfl⟩ := List.getElem_of_mem h
  exact ⟨i, hi, by simp [List.getD, List.getElem?_eq_getElem hi]⟩
section
variable {H : Type} {enc : TypeId × Value → H} {W : World}
theorem str_size {s : ByteArray} {y : DataW H × List MemPlace} {p : List MemPlace} (hx : y = (.lit (.string s.data.toList), p)) {n : Nat} (h : Rows.uptoBulk y.1 ≤ n) : s.size ≤ n := by
  subst hx
  simp only [Rows.uptoBulk, Array.length_toList] at h
  have e : s.data.size = s.size := rfl
  omega
theorem agg_bulk {H : Type} {k : Nat} {Y : Nat → DataW H × List MemPlace} {n : Nat} (h : Rows.uptoBulk (.agg ((List.range k).map fun j => (Y j).1)) ≤ n) : ∀ j, j < k → Rows.uptoBulk (Y j).1 ≤ n := fun j hj => by
  rw [Rows.uptoBulk] at h
  have := BulkOf.bulkAll_mem ((List.range k).map fun j => (Y j).1) (Y j).1 (List.mem_map.2 ⟨j, List.mem_range.2 hj, rfl⟩)
  omega
theorem slice_bulk {n k : Nat} {Y : Nat → Nat → DataW H × List MemPlace} {sp : List (DataW H)} {b : Nat} (h : Rows.uptoBulk (.slice ((List.range n).map fun i => .agg ((List.range k).map fun j => (Y i j).1)) sp) ≤ b) :
    n ≤ b ∧ ∀ i, i < n → Rows.uptoBulk (.agg ((List.range k).map fun j => (Y i j).1)) ≤ b := by
  rw [Rows.uptoBulk] at h
  refine ⟨?_, fun i hi => ?_⟩
  · have := BulkOf.bulkAll_len ((List.range n).map fun i => (.agg ((List.range k).map fun j => (Y i j).1) : DataW H))
    rw [List.length_map, List.length_range] at this
    omega
  · have := BulkOf.bulkAll_mem ((List.range n).map fun i => (.agg ((List.range k).map fun j => (Y i j).1) : DataW H)) (.agg ((List.range k).map fun j => (Y i j).1)) (List.mem_map.2 ⟨i, List.mem_range.2 hi, rfl⟩)
    omega
theorem cap_core {t e : TypeId} {v : Value} {d : DataW H} {p : List MemPlace} {fuel : Nat} (ht : Tryz.prog.underlying t = some (.slice e)) (hf : DataW.trod enc Tryz.prog W 0 (fun _ => true) true fuel t [v] = some (d, p)) : CapOk v := by
  intro q n cap hv
  subst hv
  rcases open_slice ht hf with ⟨h0, _⟩ | ⟨a, len, cap2, m, n2, D, Pl, hcs, hb, hl, hm, hmm, hx, hi⟩
  · injection h0 with h0
    injection h0 with h1 h2 h3
    omega
  · injection hcs with h0
    injection h0 with h1 h2 h3
    omega
theorem texts_bulk {v : Value} {d : DataW H} {p : List MemPlace} {fuel : Nat} (hf : DataW.trod enc Tryz.prog W 0 (fun _ => true) true fuel 36 [v] = some (d, p)) (hb : Rows.uptoBulk d ≤ 1048576) :
    ∃ G, Texts W v G ∧ G.length ≤ 1048576 ∧ ∀ t ∈ G, t.length ≤ 1048576 := by
  obtain ⟨G, hT, hd⟩ := SArg.texts_core hf
  refine ⟨G, hT, ?_⟩
  rcases hd with ⟨_, rfl⟩ | ⟨sp, rfl⟩
  · exact ⟨Nat.zero_le _, fun t ht => (by cases ht)⟩
  · rw [Rows.uptoBulk] at hb
    have hl := BulkOf.bulkAll_len (G.map fun t => (DataW.lit (.string t) : DataW H))
    rw [List.length_map] at hl
    refine ⟨by omega, fun t ht => ?_⟩
    have := BulkOf.bulkAll_mem (G.map fun t => (DataW.lit (.string t) : DataW H)) (.lit (.string t)) (List.mem_map.2 ⟨t, ht, rfl⟩)
    simp only [Rows.uptoBulk] at this
    omega
theorem filt_elem {N : Nat} {V : Nat → Value} {Y : Nat → DataW H × List MemPlace} (hrd : ∀ (j : Nat) (f : Field), (Tryz.prog.fieldsOf 49)[j]? = some f → DataW.trod enc Tryz.prog W 0 (fun _ => true) true N f.type [V j] = some (Y j))
    (hb : Rows.uptoBulk (.agg ((List.range 6).map fun j => (Y j).1)) ≤ 1048576) : ∃ x : Filt, (∀ j, j < 6 → V j = (filtV x).getD j undef) ∧ FitFilt x := by
  have hl : (Tryz.prog.fieldsOf 49).size = 6 := by kernel_rfl
  have hq : ∀ i, i < 6 → (Tryz.prog.fieldsOf 49)[i]? = some (Tryz.prog.fieldsOf 49)[i]! := fun i hi => by
    rw [getElem!_pos _ i (by rw [hl]; exact hi)]
    exact Array.getElem?_eq_getElem _
  have hbj := agg_bulk hb
  have k0 := hrd 0 _ (hq 0 (by decide))
  obtain ⟨n0, e0, x0, w0⟩ := DataW.trod_int (show Tryz.prog.underlying (Tryz.prog.fieldsOf 49)[0]!.type = some (.int .i64) by kernel_rfl) k0
  have k1 := hrd 1 _ (hq 1 (by decide))
  obtain ⟨s1, e1, x1, _⟩ := DataW.trod_string (show Tryz.prog.underlying (Tryz.prog.fieldsOf 49)[1]!.type = some .string by kernel_rfl) k1
  have k2 := hrd 2 _ (hq 2 (by decide))
  obtain ⟨s2, e2, x2, _⟩ := DataW.trod_string (show Tryz.prog.underlying (Tryz.prog.fieldsOf 49)[2]!.type = some .string by kernel_rfl) k2
  have k3 := hrd 3 _ (hq 3 (by decide))
  obtain ⟨n3, e3, x3, w3⟩ := DataW.trod_int (show Tryz.prog.underlying (Tryz.prog.fieldsOf 49)[3]!.type = some (.int .i64) by kernel_rfl) k3
  have k4 := hrd 4 _ (hq 4 (by decide))
  obtain ⟨n4, e4, x4, w4⟩ := DataW.trod_int (show Tryz.prog.underlying (Tryz.prog.fieldsOf 49)[4]!.type = some (.int .i64) by kernel_rfl) k4
  have k5 := hrd 5 _ (hq 5 (by decide))
  obtain ⟨n5, e5, x5, w5⟩ := DataW.trod_int (show Tryz.prog.underlying (Tryz.prog.fieldsOf 49)[5]!.type = some (.int .i64) by kernel_rfl) k5
  refine ⟨⟨n0, toL s1, toL s2, n3, n4, n5⟩, fun j hj => ?_, ⟨wf_in w0, by rw [toL_length]; exact str_size x1 (hbj 1 (by decide)), by rw [toL_length]; exact str_size x2 (hbj 2 (by decide)), wf_in w3, wf_in w4, wf_in w5⟩⟩
  have hj2 : j = 0 ∨ j = 1 ∨ j = 2 ∨ j = 3 ∨ j = 4 ∨ j = 5 := by omega
  rcases hj2 with rfl | rfl | rfl | rfl | rfl | rfl
  · simpa [filtV] using e0
  · show V 1 = .string (ofL (toL s1))
    rw [ofL_toL]; simpa using e1
  · show V 2 = .string (ofL (toL s2))
    rw [ofL_toL]; simpa using e2
  · simpa [filtV] using e3
  · simpa [filtV] using e4
  · simpa [filtV] using e5
theorem filts_core {v : Value} {d : DataW H} {p : List MemPlace} {fuel : Nat} (hf : DataW.trod enc Tryz.prog W 0 (fun _ => true) true fuel 22 [v] = some (d, p)) (hb : Rows.uptoBulk d ≤ 1048576) :
    ∃ G, Filts W v G ∧ G.length ≤ 1048576 ∧ ∀ x ∈ G, FitFilt x := by
  have he : Tryz.prog.underlying 49 = some (.struct (Tryz.prog.fieldsOf 49)) := by kernel_rfl
  obtain ⟨n, V, Y, N, hR, _, hrd, hd⟩ := rows_core (k := 6) Tryz.underlying22 he (by kernel_rfl) (by kernel_rfl) (by kernel_rfl) (by decide) hf
  have hB : n ≤ 1048576 ∧ ∀ i, i < n → Rows.uptoBulk (.agg ((List.range 6).map fun j => (Y i j).1)) ≤ 1048576 := by
    rcases hd with ⟨_, rfl⟩ | ⟨sp, rfl⟩
    · exact ⟨Nat.zero_le _, fun i hi => absurd hi (by omega)⟩
    · exact slice_bulk hb
  obtain ⟨G, rfl, hG⟩ := gather zFilt (fun i hi => filt_elem (hrd i hi) (hB.2 i hi))
  refine ⟨G, hR.congr (fun i hi j hj => (hG i hi).1 j hj), hB.1, fun x hx => ?_⟩
  obtain ⟨i, hi, rfl⟩ := mem_getD (z := zFilt) hx
  exact (hG i hi).2
theorem rout_elem {N : Nat} {V : Nat → Value} {Y : Nat → DataW H × List MemPlace} (hrd : ∀ (j : Nat) (f : Field), (Tryz.prog.fieldsOf 45)[j]? = some f → DataW.trod enc Tryz.prog W 0 (fun _ => true) true N f.type [V j] = some (Y j))
    (hb : Rows.uptoBulk (.agg ((List.range 13).map fun j => (Y j).1)) ≤ 1048576) : ∃ x : Rout, (∀ j, j < 13 → V j = (routV x).getD j undef) ∧ FitRout x := by
  have hl : (Tryz.prog.fieldsOf 45).size = 13 := by kernel_rfl
  have hq : ∀ i, i < 13 → (Tryz.prog.fieldsOf 45)[i]? = some (Tryz.prog.fieldsOf 45)[i]! := fun i hi => by
    rw [getElem!_pos _ i (by rw [hl]; exact hi)]
    exact Array.getElem?_eq_getElem _
  have hbj := agg_bulk hb
  have k0 := hrd 0 _ (hq 0 (by decide))
  obtain ⟨b0, e0, x0⟩ := DataW.trod_bool (show Tryz.prog.underlying (Tryz.prog.fieldsOf 45)[0]!.type = some .bool by kernel_rfl) k0
  have k1 := hrd 1 _ (hq 1 (by decide))
  obtain ⟨s1, e1, x1, _⟩ := DataW.trod_string (show Tryz.prog.underlying (Tryz.prog.fieldsOf 45)[1]!.type = some .string by kernel_rfl) k1
  have k2 := hrd 2 _ (hq 2 (by decide))
  obtain ⟨s2, e2, x2, _⟩ := DataW.trod_string (show Tryz.prog.underlying (Tryz.prog.fieldsOf 45)[2]!.type = some .string by kernel_rfl) k2
  have k3 := hrd 3 _ (hq 3 (by decide))
  obtain ⟨s3, e3, x3, _⟩ := DataW.trod_string (show Tryz.prog.underlying (Tryz.prog.fieldsOf 45)[3]!.type = some .string by kernel_rfl) k3
  have k4 := hrd 4 _ (hq 4 (by decide))
  obtain ⟨s4, e4, x4, _⟩ := DataW.trod_string (show Tryz.prog.underlying (Tryz.prog.fieldsOf 45)[4]!.type = some .string by kernel_rfl) k4
  have k5 := hrd 5 _ (hq 5 (by decide))
  obtain ⟨n5, e5, x5, w5⟩ := DataW.trod_int (show Tryz.prog.underlying (Tryz.prog.fieldsOf 45)[5]!.type = some (.int .i64) by kernel_rfl) k5
  have k6 := hrd 6 _ (hq 6 (by decide))
  obtain ⟨s6, e6, x6, _⟩ := DataW.trod_string (show Tryz.prog.underlying (Tryz.prog.fieldsOf 45)[6]!.type = some .string by kernel_rfl) k6
  have k7 := hrd 7 _ (hq 7 (by decide))
  obtain ⟨n7, e7, x7, w7⟩ := DataW.trod_int (show Tryz.prog.underlying (Tryz.prog.fieldsOf 45)[7]!.type = some (.int .i64) by kernel_rfl) k7
  have k8 := hrd 8 _ (hq 8 (by decide))
  obtain ⟨s8, e8, x8, _⟩ := DataW.trod_string (show Tryz.prog.underlying (Tryz.prog.fieldsOf 45)[8]!.type = some .string by kernel_rfl) k8
  have k9 := hrd 9 _ (hq 9 (by decide))
  obtain ⟨s9, e9, x9, _⟩ := DataW.trod_string (show Tryz.prog.underlying (Tryz.prog.fieldsOf 45)[9]!.type = some .string by kernel_rfl) k9
  have k10 := hrd 10 _ (hq 10 (by decide))
  obtain ⟨n10, e10, x10, w10⟩ := DataW.trod_int (show Tryz.prog.underlying (Tryz.prog.fieldsOf 45)[10]!.type = some (.int .i64) by kernel_rfl) k10
  have k11 := hrd 11 _ (hq 11 (by decide))
  obtain ⟨n11, e11, x11, w11⟩ := DataW.trod_int (show Tryz.prog.underlying (Tryz.prog.fieldsOf 45)[11]!.type = some (.int .i64) by kernel_rfl) k11
  have k12 := hrd 12 _ (hq 12 (by decide))
  obtain ⟨b12, e12, x12⟩ := DataW.trod_bool (show Tryz.prog.underlying (Tryz.prog.fieldsOf 45)[12]!.type = some .bool by kernel_rfl) k12
  refine ⟨⟨b0, toL s1, toL s2, toL s3, toL s4, n5, toL s6, n7, toL s8, toL s9, n10, n11, b12⟩, fun j hj => ?_, ⟨by rw [toL_length]; exact str_size x1 (hbj 1 (by decide)), by rw [toL_length]; exact str_size x2 (hbj 2 (by decide)), by rw [toL_length]; exact str_size x3 (hbj 3 (by decide)), by rw [toL_length]; exact str_size x4 (hbj 4 (by decide)), wf_in w5, by rw [toL_length]; exact str_size x6 (hbj 6 (by decide)), wf_in w7, by rw [toL_length]; exact str_size x8 (hbj 8 (by decide)), by rw [toL_length]; exact str_size x9 (hbj 9 (by decide)), wf_in w10, wf_in w11⟩⟩
  have hj2 : j = 0 ∨ j = 1 ∨ j = 2 ∨ j = 3 ∨ j = 4 ∨ j = 5 ∨ j = 6 ∨ j = 7 ∨ j = 8 ∨ j = 9 ∨ j = 10 ∨ j = 11 ∨ j = 12 := by omega
  rcases hj2 with rfl | rfl | rfl | rfl | rfl | rfl | rfl | rfl | rfl | rfl | rfl | rfl | rfl
  · simpa [routV] using e0
  · show V 1 = .string (ofL (toL s1))
    rw [ofL_toL]; simpa using e1
  · show V 2 = .string (ofL (toL s2))
    rw [ofL_toL]; simpa using e2
  · show V 3 = .string (ofL (toL s3))
    rw [ofL_toL]; simpa using e3
  · show V 4 = .string (ofL (toL s4))
    rw [ofL_toL]; simpa using e4
  · simpa [routV] using e5
  · show V 6 = .string (ofL (toL s6))
    rw [ofL_toL]; simpa using e6
  · simpa [routV] using e7
  · show V 8 = .string (ofL (toL s8))
    rw [ofL_toL]; simpa using e8
  · show V 9 = .string (ofL (toL s9))
    rw [ofL_toL]; simpa using e9
  · simpa [routV] using e10
  · simpa [routV] using e11
  · simpa [routV] using e12
theorem routs_core {v : Value} {d : DataW H} {p : List MemPlace} {fuel : Nat} (hf : DataW.trod enc Tryz.prog W 0 (fun _ => true) true fuel 41 [v] = some (d, p)) (hb : Rows.uptoBulk d ≤ 1048576) :
    ∃ G, Routs W v G ∧ G.length ≤ 1048576 ∧ ∀ x ∈ G, FitRout x := by
  have he : Tryz.prog.underlying 45 = some (.struct (Tryz.prog.fieldsOf 45)) := by kernel_rfl
  obtain ⟨n, V, Y, N, hR, _, hrd, hd⟩ := rows_core (k := 13) Tryz.underlying41 he (by kernel_rfl) (by kernel_rfl) (by kernel_rfl) (by decide) hf
  have hB : n ≤ 1048576 ∧ ∀ i, i < n → Rows.uptoBulk (.agg ((List.range 13).map fun j => (Y i j).1)) ≤ 1048576 := by
    rcases hd with ⟨_, rfl⟩ | ⟨sp, rfl⟩
    · exact ⟨Nat.zero_le _, fun i hi => absurd hi (by omega)⟩
    · exact slice_bulk hb
  obtain ⟨G, rfl, hG⟩ := gather zRout (fun i hi => rout_elem (hrd i hi) (hB.2 i hi))
  refine ⟨G, hR.congr (fun i hi j hj => (hG i hi).1 j hj), hB.1, fun x hx => ?_⟩
  obtain ⟨i, hi, rfl⟩ := mem_getD (z := zRout) hx
  exact (hG i hi).2
theorem clus_elem {N : Nat} {V : Nat → Value} {Y : Nat → DataW H × List MemPlace} (hrd : ∀ (j : Nat) (f : Field), (Tryz.prog.fieldsOf 38)[j]? = some f → DataW.trod enc Tryz.prog W 0 (fun _ => true) true N f.type [V j] = some (Y j))
    (hb : Rows.uptoBulk (.agg ((List.range 9).map fun j => (Y j).1)) ≤ 1048576) : ∃ x : Clus, ∃ h, (∀ j, j < 9 → V j = (clusV x h).getD j undef) ∧ (Texts W h x.hosts ∧ CapOk h) ∧ FitClus x := by
  have hl : (Tryz.prog.fieldsOf 38).size = 9 := by kernel_rfl
  have hq : ∀ i, i < 9 → (Tryz.prog.fieldsOf 38)[i]? = some (Tryz.prog.fieldsOf 38)[i]! := fun i hi => by
    rw [getElem!_pos _ i (by rw [hl]; exact hi)]
    exact Array.getElem?_eq_getElem _
  have hbj := agg_bulk hb
  have k0 := hrd 0 _ (hq 0 (by decide))
  obtain ⟨s0, e0, x0, _⟩ := DataW.trod_string (show Tryz.prog.underlying (Tryz.prog.fieldsOf 38)[0]!.type = some .string by kernel_rfl) k0
  have k1 := hrd 1 _ (hq 1 (by decide))
  obtain ⟨n1, e1, x1, w1⟩ := DataW.trod_int (show Tryz.prog.underlying (Tryz.prog.fieldsOf 38)[1]!.type = some (.int .i64) by kernel_rfl) k1
  have k2 := hrd 2 _ (hq 2 (by decide))
  rw [show (Tryz.prog.fieldsOf 38)[2]!.type = 36 by kernel_rfl] at k2
  obtain ⟨G2, hT, hG⟩ := texts_bulk (d := (Y 2).1) (p := (Y 2).2) k2 (hbj 2 (by decide))
  have k3 := hrd 3 _ (hq 3 (by decide))
  obtain ⟨n3, e3, x3, w3⟩ := DataW.trod_int (show Tryz.prog.underlying (Tryz.prog.fieldsOf 38)[3]!.type = some (.int .i64) by kernel_rfl) k3
  have k4 := hrd 4 _ (hq 4 (by decide))
  obtain ⟨n4, e4, x4, w4⟩ := DataW.trod_int (show Tryz.prog.underlying (Tryz.prog.fieldsOf 38)[4]!.type = some (.int .i64) by kernel_rfl) k4
  have k5 := hrd 5 _ (hq 5 (by decide))
  obtain ⟨n5, e5, x5, w5⟩ := DataW.trod_int (show Tryz.prog.underlying (Tryz.prog.fieldsOf 38)[5]!.type = some (.int .i64) by kernel_rfl) k5
  have k6 := hrd 6 _ (hq 6 (by decide))
  obtain ⟨n6, e6, x6, w6⟩ := DataW.trod_int (show Tryz.prog.underlying (Tryz.prog.fieldsOf 38)[6]!.type = some (.int .i64) by kernel_rfl) k6
  have k7 := hrd 7 _ (hq 7 (by decide))
  obtain ⟨n7, e7, x7, w7⟩ := DataW.trod_int (show Tryz.prog.underlying (Tryz.prog.fieldsOf 38)[7]!.type = some (.int .i64) by kernel_rfl) k7
  have k8 := hrd 8 _ (hq 8 (by decide))
  obtain ⟨n8, e8, x8, w8⟩ := DataW.trod_int (show Tryz.prog.underlying (Tryz.prog.fieldsOf 38)[8]!.type = some (.int .i64) by kernel_rfl) k8
  refine ⟨⟨toL s0, n1, G2, n3, n4, n5, n6, n7, n8⟩, _, fun j hj => ?_, ⟨hT, cap_core Tryz.underlying36 (d := (Y 2).1) (p := (Y 2).2) k2⟩, ⟨by rw [toL_length]; exact str_size x0 (hbj 0 (by decide)), wf_in w1, hG, wf_in w3, wf_in w4, wf_in w5, wf_in w6, wf_in w7, wf_in w8⟩⟩
  have hj2 : j = 0 ∨ j = 1 ∨ j = 2 ∨ j = 3 ∨ j = 4 ∨ j = 5 ∨ j = 6 ∨ j = 7 ∨ j = 8 := by omega
  rcases hj2 with rfl | rfl | rfl | rfl | rfl | rfl | rfl | rfl | rfl
  · show V 0 = .string (ofL (toL s0))
    rw [ofL_toL]; simpa using e0
  · simpa [clusV] using e1
  · rfl
  · simpa [clusV] using e3
  · simpa [clusV] using e4
  · simpa [clusV] using e5
  · simpa [clusV] using e6
  · simpa [clusV] using e7
  · simpa [clusV] using e8
theorem cluss_core {v : Value} {d : DataW H} {p : List MemPlace} {fuel : Nat} (hf : DataW.trod enc Tryz.prog W 0 (fun _ => true) true fuel 23 [v] = some (d, p)) (hb : Rows.uptoBulk d ≤ 1048576) :
    ∃ G, Cluss W v G ∧ G.length ≤ 1048576 ∧ ∀ x ∈ G, FitClus x := by
  have he : Tryz.prog.underlying 38 = some (.struct (Tryz.prog.fieldsOf 38)) := by kernel_rfl
  obtain ⟨n, V, Y, N, hR, _, hrd, hd⟩ := rows_core (k := 9) Tryz.underlying23 he (by kernel_rfl) (by kernel_rfl) (by kernel_rfl) (by decide) hf
  have hB : n ≤ 1048576 ∧ ∀ i, i < n → Rows.uptoBulk (.agg ((List.range 9).map fun j => (Y i j).1)) ≤ 1048576 := by
    rcases hd with ⟨_, rfl⟩ | ⟨sp, rfl⟩
    · exact ⟨Nat.zero_le _, fun i hi => absurd hi (by omega)⟩
    · exact slice_bulk hb
  obtain ⟨G, rfl, hG⟩ := gather zClus (fun i hi => clus_elem (hrd i hi) (hB.2 i hi))
  obtain ⟨hv, hG⟩ := Classical.axiomOfChoice (show ∀ i, ∃ h, i < G.length → _ from fun i => by
    by_cases hi : i < G.length
    · obtain ⟨h, hh⟩ := hG i hi
      exact ⟨h, fun _ => hh⟩
    · exact ⟨undef, fun h => absurd h hi⟩)
  refine ⟨G, ⟨hv, hR.congr (fun i hi j hj => (hG i hi).1 j hj), fun i hi => (hG i hi).2.1⟩, hB.1, fun x hx => ?_⟩
  obtain ⟨i, hi, rfl⟩ := mem_getD (z := zClus) hx
  exact (hG i hi).2.2
theorem vhos_elem {N : Nat} {V : Nat → Value} {Y : Nat → DataW H × List MemPlace} (hrd : ∀ (j : Nat) (f : Field), (Tryz.prog.fieldsOf 43)[j]? = some f → DataW.trod enc Tryz.prog W 0 (fun _ => true) true N f.type [V j] = some (Y j))
    (hb : Rows.uptoBulk (.agg ((List.range 2).map fun j => (Y j).1)) ≤ 1048576) : ∃ x : Vhos, ∃ h, (∀ j, j < 2 → V j = (vhosV x h).getD j undef) ∧ Routs W h x.routes ∧ FitVhos x := by
  have hl : (Tryz.prog.fieldsOf 43).size = 2 := by kernel_rfl
  have hq : ∀ i, i < 2 → (Tryz.prog.fieldsOf 43)[i]? = some (Tryz.prog.fieldsOf 43)[i]! := fun i hi => by
    rw [getElem!_pos _ i (by rw [hl]; exact hi)]
    exact Array.getElem?_eq_getElem _
  have hbj := agg_bulk hb
  have k0 := hrd 0 _ (hq 0 (by decide))
  obtain ⟨s0, e0, x0, _⟩ := DataW.trod_string (show Tryz.prog.underlying (Tryz.prog.fieldsOf 43)[0]!.type = some .string by kernel_rfl) k0
  have k1 := hrd 1 _ (hq 1 (by decide))
  rw [show (Tryz.prog.fieldsOf 43)[1]!.type = 41 by kernel_rfl] at k1
  obtain ⟨G1, hT, hG⟩ := routs_core (d := (Y 1).1) (p := (Y 1).2) k1 (hbj 1 (by decide))
  refine ⟨⟨toL s0, G1⟩, _, fun j hj => ?_, hT, ⟨by rw [toL_length]; exact str_size x0 (hbj 0 (by decide)), hG⟩⟩
  have hj2 : j = 0 ∨ j = 1 := by omega
  rcases hj2 with rfl | rfl
  · show V 0 = .string (ofL (toL s0))
    rw [ofL_toL]; simpa using e0
  · rfl
theorem vhoss_core {v : Value} {d : DataW H} {p : List MemPlace} {fuel : Nat} (hf : DataW.trod enc Tryz.prog W 0 (fun _ => true) true fuel 24 [v] = some (d, p)) (hb : Rows.uptoBulk d ≤ 1048576) :
    ∃ G, Vhoss W v G ∧ G.length ≤ 1048576 ∧ ∀ x ∈ G, FitVhos x := by
  have he : Tryz.prog.underlying 43 = some (.struct (Tryz.prog.fieldsOf 43)) := by kernel_rfl
  obtain ⟨n, V, Y, N, hR, _, hrd, hd⟩ := rows_core (k := 2) Tryz.underlying24 he (by kernel_rfl) (by kernel_rfl) (by kernel_rfl) (by decide) hf
  have hB : n ≤ 1048576 ∧ ∀ i, i < n → Rows.uptoBulk (.agg ((List.range 2).map fun j => (Y i j).1)) ≤ 1048576 := by
    rcases hd with ⟨_, rfl⟩ | ⟨sp, rfl⟩
    · exact ⟨Nat.zero_le _, fun i hi => absurd hi (by omega)⟩
    · exact slice_bulk hb
  obtain ⟨G, rfl, hG⟩ := gather zVhos (fun i hi => vhos_elem (hrd i hi) (hB.2 i hi))
  obtain ⟨hv, hG⟩ := Classical.axiomOfChoice (show ∀ i, ∃ h, i < G.length → _ from fun i => by
    by_cases hi : i < G.length
    · obtain ⟨h, hh⟩ := hG i hi
      exact ⟨h, fun _ => hh⟩
    · exact ⟨undef, fun h => absurd h hi⟩)
  refine ⟨G, ⟨hv, hR.congr (fun i hi j hj => (hG i hi).1 j hj), fun i hi => (hG i hi).2.1⟩, hB.1, fun x hx => ?_⟩
  obtain ⟨i, hi, rfl⟩ := mem_getD (z := zVhos) hx
  exact (hG i hi).2.2
theorem conf_arg {base : Nat} {v : Value} {d : DataW H} {p : List MemPlace} (hv : Value.okWide Tryz.prog W .any base 26 v)
    (h : DataW.Trod enc Tryz.prog W 0 (fun _ => true) true 26 v d p) (hb : Rows.uptoBulk d ≤ 1048576) :
    ∃ (c : Conf) (vf vc vv : Value), v = .agg (confV c vf vc vv) ∧ CF W vf vc vv c ∧ FitConf c := by
  have he : Tryz.prog.underlying 26 = some (.struct (Tryz.prog.fieldsOf 26)) := by kernel_rfl
  have hC : Tryz.prog.cellsOf 26 = 9 := by kernel_rfl
  have hone := hone_of (show oneCellFields Tryz.prog (Tryz.prog.fieldsOf 26) = true by kernel_rfl)
  obtain ⟨cs, rfl, hsz⟩ := okWide_struct he hv
  obtain ⟨l⟩ := cs
  match l, hsz.trans hC with
  | [c0, c1, c2, c3, c4, c5, c6, c7, c8], _ =>
    obtain ⟨fuel, hf⟩ := h
    obtain ⟨xs, n, _, hx, _, hlen, hg⟩ := DataW.trod_struct he hf
    have hl6 : (Tryz.prog.fieldsOf 26).size = 9 := by kernel_rfl
    match xs, hlen.trans hl6 with
    | [y0, y1, y2, y3, y4, y5, y6, y7, y8], _ =>
      have key : ∀ i (hi : i < 9), DataW.trod enc Tryz.prog W 0 (fun _ => true) true n (Tryz.prog.fieldsOf 26)[i]!.type [[c0, c1, c2, c3, c4, c5, c6, c7, c8][i]] = some [y0, y1, y2, y3, y4, y5, y6, y7, y8][i] := fun i hi => by
        have hq : (Tryz.prog.fieldsOf 26)[i]? = some (Tryz.prog.fieldsOf 26)[i]! := by
          rw [getElem!_pos _ i (by rw [hl6]; exact hi)]
          exact Array.getElem?_eq_getElem _
        have h1 := hg i _ hq
        obtain ⟨o1, k1⟩ := hone i _ hq
        rw [o1, k1] at h1
        have h2 : ((Value.agg ⟨[c0, c1, c2, c3, c4, c5, c6, c7, c8]⟩).cells.toList.drop i).take 1 = [[c0, c1, c2, c3, c4, c5, c6, c7, c8][i]] := by
          rw [show (Value.agg ⟨[c0, c1, c2, c3, c4, c5, c6, c7, c8]⟩).cells.toList = [c0, c1, c2, c3, c4, c5, c6, c7, c8] from rfl, List.drop_eq_getElem_cons (by simpa using hi)]
          rfl
        rw [h2] at h1
        rw [h1, List.getElem?_eq_getElem (by simpa using hi)]
      have u2 : ∀ i, i = 0 ∨ i = 1 ∨ i = 2 ∨ i = 3 ∨ i = 4 ∨ i = 5 → Tryz.prog.underlying (Tryz.prog.fieldsOf 26)[i]!.type = some (.int .i64) := by
        rintro i (rfl | rfl | rfl | rfl | rfl | rfl) <;> kernel_rfl
      obtain ⟨n0, e0, x0, w0⟩ := DataW.trod_int (u2 0 (by simp)) (key 0 (by decide))
      obtain ⟨n1, e1, x1, w1⟩ := DataW.trod_int (u2 1 (by simp)) (key 1 (by decide))
      obtain ⟨n2, e2, x2, w2⟩ := DataW.trod_int (u2 2 (by simp)) (key 2 (by decide))
      obtain ⟨n3, e3, x3, w3⟩ := DataW.trod_int (u2 3 (by simp)) (key 3 (by decide))
      obtain ⟨n4, e4, x4, w4⟩ := DataW.trod_int (u2 4 (by simp)) (key 4 (by decide))
      obtain ⟨n5, e5, x5, w5⟩ := DataW.trod_int (u2 5 (by simp)) (key 5 (by decide))
      have k6 := key 6 (by decide)
      rw [show (Tryz.prog.fieldsOf 26)[6]!.type = 22 by kernel_rfl] at k6
      have k7 := key 7 (by decide)
      rw [show (Tryz.prog.fieldsOf 26)[7]!.type = 23 by kernel_rfl] at k7
      have k8 := key 8 (by decide)
      rw [show (Tryz.prog.fieldsOf 26)[8]!.type = 24 by kernel_rfl] at k8
      have hd : d = .agg [y0.1, y1.1, y2.1, y3.1, y4.1, y5.1, y6.1, y7.1, y8.1] := by simpa using congrArg Prod.fst hx
      rw [hd] at hb
      simp only [Rows.uptoBulk, Rows.uptoBulkAll] at hb
      obtain ⟨Gf, Ff, Lf⟩ := filts_core (d := y6.1) (p := y6.2) k6 (by omega)
      obtain ⟨Gc, Fc, Lc⟩ := cluss_core (d := y7.1) (p := y7.2) k7 (by omega)
      obtain ⟨Gv, Fv, Lv⟩ := vhoss_core (d := y8.1) (p := y8.2) k8 (by omega)
      refine ⟨⟨n0, n1, n2, n3, n4, n5, Gf, Gc, Gv⟩, c6, c7, c8, ?_, ⟨Ff, Fc, Fv, cap_core Tryz.underlying23 (d := y7.1) (p := y7.2) k7, cap_core Tryz.underlying24 (d := y8.1) (p := y8.2) k8⟩, ⟨wf_in w0, wf_in w1, wf_in w2, wf_in w3, wf_in w4, wf_in w5, Lf, Lc, Lv⟩⟩
      unfold confV
      obtain rfl : c0 = .int .i64 n0 := by simpa using e0
      obtain rfl : c1 = .int .i64 n1 := by simpa using e1
      obtain rfl : c2 = .int .i64 n2 := by simpa using e2
      obtain rfl : c3 = .int .i64 n3 := by simpa using e3
      obtain rfl : c4 = .int .i64 n4 := by simpa using e4
      obtain rfl : c5 = .int .i64 n5 := by simpa using e5
      rfl
end
end Go.Proofs.YtfihehobkbfmiaaGreatDoor.ConfArg
