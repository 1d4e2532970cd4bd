/- An argument that is a list of texts. -/
import Derived.Test.YtlgohmghjffiaaaDoorTexts
import Derived.Test.YtlgohmghjffiaaaDoorRows
import Derived.Test.YtlgohmghjffiaaaDoorBulkOf
import Derived.Deep.Slices
namespace Go.Proofs.YtlgohmghjffiaaaDoor.SArg
open Go.ChangeShapes Go.WideShapes Go.ChangeAt Go.RowKit Go.Deep LexPure Bytes Ret Rows1 Texts BulkOf
set_option maxRecDepth 20000
/-- what both forms have in common: the texts, each with its reading -/
theorem texts_core {H : Type} {enc : TypeId × Value → H} {W : World} {v : Value} {d : DataW H} {p : List MemPlace} {fuel : Nat}
    (hf : DataW.trod enc Tryd.prog W 0 (fun _ => true) true fuel 29 [v] = some (d, p)) :
    ∃ G, Texts W v G ∧ (d = .nil ∧ G = [] ∨ ∃ sp, d = .slice (G.map fun t => .lit (.string t)) sp) := by
  rcases open_slice1 Tryd.underlying29 (by kernel_rfl) hf with ⟨hc, hx⟩ | ⟨a, len, cap, m, n, V, D, Pl, hc, _, hlc, hcm, hm, hx, hi⟩
  · obtain rfl : v = .slice none 0 0 := by simpa using hc
    injection hx with hd _
    exact ⟨[], ⟨none, 0, rfl, Nat.zero_le _, fun h => absurd h (by simp)⟩, .inl ⟨hd, rfl⟩⟩
  · obtain rfl : v = .slice (some a) len cap := by simpa using hc
    injection hx with hd hp
    have hlm : len ≤ m := by rw [hm, if_pos rfl]; exact hlc
    unfold maxLen at hcm
    have hS : ∀ i, i < len → ∃ s : List UInt8, V i = .string (ofL s) ∧ D i = .lit (.string s) := fun i hil => by
      obtain ⟨_, t0⟩ := hi i (by omega)
      obtain ⟨s, hs, hs2, _⟩ := DataW.trod_string Tryd.underlying9 t0
      exact ⟨toL s, by rw [ofL_toL]; simpa using hs, by simpa using congrArg Prod.fst hs2⟩
    let f : Nat → List UInt8 := fun i => if h : i < len then (hS i h).choose else []
    have hfs : ∀ i (h : i < len), V i = .string (ofL (f i)) ∧ D i = .lit (.string (f i)) := fun i h => by
      have := (hS i h).choose_spec
      simp only [f, dif_pos h]
      exact this
    refine ⟨(List.range len).map f, ⟨some a, cap, by simp, by simp; omega, fun h0 => ?_⟩, .inr ⟨(List.range (m - len)).map fun j => D (len + j), ?_⟩⟩
    · rw [List.length_map, List.length_range] at h0
      obtain ⟨c0, _⟩ := hi 0 (by omega)
      have ha := plain_cell c0
      have hae : a = ⟨a.block, a.off, none⟩ := by
        obtain ⟨b, o, e⟩ := a
        cases e with
        | none => rfl
        | some e => simp [Addr.add] at ha
      have hblk := World.block_lt_of_cell? _ _ c0
      obtain ⟨b, o, e⟩ := a
      injection hae with _ _ e3
      subst e3
      refine ⟨b, o, rfl, by simpa [Addr.add] using hblk, fun j hj => ?_⟩
      rw [List.length_map, List.length_range] at hj
      obtain ⟨c1, _⟩ := hi j (by omega)
      rw [(hfs j hj).1] at c1
      simp only [List.getElem_map, List.getElem_range]
      rw [BulkOf.add_plain] at c1
      exact c1
    · rw [hd]
      congr 1
      rw [List.map_map]
      exact List.map_congr_left (fun i hi => (hfs i (List.mem_range.1 hi)).2)
theorem texts_upto {H : Type} {enc : TypeId × Value → H} {W : World} {base : Nat} {v : Value} {d : DataW H} {p : List MemPlace} (hv : Value.okWide Tryd.prog W .any base 29 v)
    (h : DataW.Trod enc Tryd.prog W 0 (fun _ => true) true 29 v d p) (hb : Rows.uptoBulk d ≤ 1048576) :
    ∃ G, Texts W v G ∧ (∀ t ∈ G, t.length ≤ 1048576) ∧ G.length ≤ 1048576 := by
  obtain ⟨a0, len, cap, rfl⟩ := okWide_slice Tryd.underlying29 hv
  obtain ⟨fuel, hf⟩ := h
  obtain ⟨G, hT, hd⟩ := texts_core (v := .slice a0 len cap) (by simpa [Value.cells] using hf)
  refine ⟨G, hT, ?_⟩
  rcases hd with ⟨_, rfl⟩ | ⟨sp, rfl⟩
  · exact ⟨fun t ht => (by cases ht), Nat.zero_le _⟩
  · rw [Rows.uptoBulk] at hb
    have hl := bulkAll_len (G.map fun t => (DataW.lit (.string t) : DataW H))
    rw [List.length_map] at hl
    refine ⟨fun t ht => ?_, by omega⟩
    have := bulkAll_mem (G.map fun t => (DataW.lit (.string t) : DataW H)) (.lit (.string t)) (List.mem_map.2 ⟨t, ht, rfl⟩)
    simp only [Rows.uptoBulk] at this
    omega
theorem texts_reach {H : Type} {enc : TypeId × Value → H} {W : World} {base : Nat} {v : Value} {d : DataW H} {p : List MemPlace} (hv : Value.okWide Tryd.prog W .any base 29 v)
    (h : DataW.Trod enc Tryd.prog W 0 (fun _ => true) true 29 v d p) (hb : (d.weights Tryd.prog 29).all (· ≤ reachBytes) = true) :
    ∃ G, Texts W v G ∧ (∀ t ∈ G, t.length ≤ 140737488351232) ∧ G.length ≤ 8796093022208 := by
  obtain ⟨a0, len, cap, rfl⟩ := okWide_slice Tryd.underlying29 hv
  obtain ⟨fuel, hf⟩ := h
  obtain ⟨G, hT, hd⟩ := texts_core (v := .slice a0 len cap) (by simpa [Value.cells] using hf)
  refine ⟨G, hT, ?_⟩
  rcases hd with ⟨_, rfl⟩ | ⟨sp, rfl⟩
  · exact ⟨fun t ht => (by cases ht), Nat.zero_le _⟩
  · simp only [DataW.weights, Tryd.underlying29, List.all_cons, Bool.and_eq_true, List.all_append] at hb
    refine ⟨fun t ht => ?_, ?_⟩
    · have := weightsAll_mem _ _ hb.2.1 (.lit (.string t)) (List.mem_map.2 ⟨t, ht, rfl⟩)
      simp only [DataW.weights, List.all_cons, List.all_nil, Bool.and_true] at this
      have h1 := of_decide_eq_true this
      unfold reachBytes at h1
      exact h1
    · have h1 := of_decide_eq_true hb.1
      rw [show Tryd.prog.bytesOf 9 = 16 by kernel_rfl, List.length_map] at h1
      unfold reachBytes at h1
      omega
end Go.Proofs.YtlgohmghjffiaaaDoor.SArg
