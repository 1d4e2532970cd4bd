/- Texts of this seat, one behind another: InflowMem, FArg, InflowMemD, RMarks, RToken, R7Check, R7One, InflowMemoryW. -/
import Derived.Test.YtlgohmghjffiaaaGreatDoorRows
import Derived.Deep.SlicePairs
import Derived.Lib.Hide
import Derived.Below
import Derived.Outline
import Derived.LoopTactic
import Derived.Handy
import Derived.IntWalk
import Derived.Deep.QuietTactic
import Derived.BigQuiet
import Derived.JoinedCond
import Derived.Maps.AppendAt
import Derived.Test.YtlgohmghjffiaaaGreatDoorMH
import Derived.Test.YtlgohmghjffiaaaGreatDoorA3
import Derived.Test.YtlgohmghjffiaaaGreatDoorA15
import Derived.Test.YtlgohmghjffiaaaGreatDoorA1
import Derived.Test.YtlgohmghjffiaaaGreatDoorA6
import Derived.Test.YtlgohmghjffiaaaGreatDoorB
/- Layer 11: a head whose fields are handed in. No program is named. -/
namespace Go.Proofs.YtlgohmghjffiaaaGreatDoor.InflowMem
open Bytes LexPure LexNum LexList FieldsPure HeadPure HeadWrit HeadLines CutAt HeadCut PathPure PathForm HostPure TargetPure FramePure ChunkPure ChunkHex ChunkText InflowPure InflowWrit InflowHost
set_option maxRecDepth 20000
def xF (f : HField) : HField := (88 :: 45 :: f.1, f.2)
def xL (f : HField) : List UInt8 := (88 :: 45 :: f.1) ++ 58 :: ([32] ++ f.2)
def lines11 (l : List HField) : List UInt8 := l.flatMap (fun f => xL f ++ [13, 10])
def memT (l : List HField) : List UInt8 := startL GETM [47] ++ [13, 10] ++ HOST_ ++ [13, 10] ++ lines11 l ++ [13, 10]
structure Fit (f : HField) : Prop where
  name : token f.1 = true
  val : value f.2 = true
  len : f.1.length + f.2.length ≤ 400
theorem x_token {n : List UInt8} (h : token n = true) : token (88 :: 45 :: n) = true := by
  unfold token at *
  rw [Bool.and_eq_true] at h
  rw [List.all_cons, List.all_cons, h.1]
  rfl
theorem x_line {f : HField} (h : Fit f) : field8 (xL f) = (xF f, 0) ∧ bare (xL f) ∧ 0 < (xL f).length ∧ (xL f).length ≤ 512 := by
  refine ⟨field_ahead (by decide) (x_token h.name) h.val, field_ahead_bare (by decide) (x_token h.name) h.val, ?_, ?_⟩
  · simp [xL]
  · have := h.len
    simp [xL]
    omega
theorem fields_many (h : H8) : ∀ (l : List HField) (m : Nat) (acc : List HField) (a : Nat) (x : List UInt8), l.length ≤ m → (∀ f ∈ l, Fit f) →
    fields8 h m acc a (lines11 l ++ 13 :: 10 :: x) = .done { h with fields := acc ++ l.map xF } (a + (lines11 l).length + 2)
  | [], m, acc, a, x, _, _ => by
    show fields8 h m acc a (13 :: 10 :: x) = _
    rw [fields_end]
    simp [lines11]
  | f :: l, m, acc, a, x, hm, hf => by
    obtain ⟨h1, h2, h3, h4⟩ := x_line (hf f List.mem_cons_self)
    match m, hm with
    | m + 1, hm =>
      have e : lines11 (f :: l) ++ 13 :: 10 :: x = xL f ++ 13 :: 10 :: (lines11 l ++ 13 :: 10 :: x) := by simp [lines11]
      rw [e, fields_line h m acc a h2 h3 h4, h1, if_pos rfl, fields_many h l m _ _ x (by simpa using hm) (fun g hg => hf g (List.mem_cons_of_mem _ hg))]
      rw [List.append_assoc]
      congr 1
      have : (lines11 (f :: l)).length = (xL f).length + 2 + (lines11 l).length := by simp [lines11]; omega
      omega
theorem no_hit {N : List UInt8} (h : ∀ n, alike (88 :: 45 :: n) N = false) (l : List HField) : getN (l.map xF) N = 0 ∧ (l.map xF).filter (hit N) = [] := by
  have hx : ∀ f ∈ l.map xF, hit N f = false := by
    intro f hf
    obtain ⟨g, _, rfl⟩ := List.mem_map.1 hf
    exact h g.1
  refine ⟨?_, ?_⟩
  · unfold getN
    rw [List.countP_eq_zero]
    intro f hf
    rw [hx f hf]
    decide
  · rw [List.filter_eq_nil_iff]
    intro f hf
    rw [hx f hf]
    decide
def memG (l : List HField) : List HField := HOSTF :: l.map xF
def rqM (l : List HField) : Rq := ⟨⟨GETM, [47], 0, [], 1, memG l⟩, ⟨1, [], 0, [47], [], false⟩, [104], authP [104], [], false, keep9 1 (memG l), []⟩
theorem getN_mem (l : List HField) {N : List UInt8} (h : ∀ n, alike (88 :: 45 :: n) N = false) : getN (memG l) N = if hit N HOSTF then 1 else 0 := by
  unfold memG getN
  rw [List.countP_cons, show (l.map xF).countP (hit N) = 0 from (no_hit h l).1]
  simp
theorem mem_say (l : List HField) (h : ∀ f ∈ l, Fit f) (hl : l.length ≤ 30) (x : List UInt8) : read11 9 (memT l ++ x) = .whole (rqM l) (memT l).length := by
  have e : memT l ++ x = startL GETM [47] ++ 13 :: 10 :: (HOST_ ++ 13 :: 10 :: (lines11 l ++ 13 :: 10 :: x)) := by simp [memT]
  have hlen : (startL GETM [47]).length + 2 + HOST_.length + 2 + (lines11 l).length + 2 = (memT l).length := by simp only [memT, List.length_append, List.length_cons, List.length_nil]
  unfold read11
  rw [e, read_start (by decide) (by decide) (by decide) (by decide) (by decide), show (32 : Nat) = 31 + 1 from rfl, fields_line _ 31 _ _ host_bare (by decide) (by decide), host_line, if_pos rfl, fields_many _ l 31 _ _ x (by omega) h, hlen, ← e]
  have h1 : getN (memG l) HOSTN = 1 := by rw [getN_mem l (fun n => rfl)]; rfl
  have h2 : getV (memG l) HOSTN = [104] := rfl
  have h3 : getN (memG l) EXPECT = 0 := by rw [getN_mem l (fun n => rfl)]; rfl
  have h4 : request9 1 (memG l) 9 = (1, 0, 0) := by
    have t1 : getN (memG l) TENC = 0 := by rw [getN_mem l (fun n => rfl)]; rfl
    have t2 : getN (memG l) CLEN = 0 := by rw [getN_mem l (fun n => rfl)]; rfl
    unfold request9
    rw [t1, t2]
    rfl
  have h5 : elems (memG l) UPG = [] := by
    unfold elems memG
    rw [List.filter_cons_of_neg (by decide), (no_hit (fun n => rfl) l).2]
    rfl
  unfold rest11
  dsimp only
  rw [parse_root (by decide)]
  dsimp only
  rw [if_neg (fun q => q rfl)]
  have hg : [] ++ [HOSTF] ++ l.map xF = memG l := rfl
  rw [show ([] : List HField) ++ [(HOSTF, (0 : Int)).fst] ++ l.map xF = memG l from rfl]
  unfold host11
  dsimp only
  rw [h1, h2, if_neg (by decide), if_neg (by decide), if_neg (by decide), if_neg (by decide)]
  dsimp only
  rw [h3, h4, if_neg (by decide), if_neg (by decide), if_neg (by decide)]
  unfold body11 up11
  dsimp only
  rw [if_pos rfl, h5, if_neg (by rintro ⟨_, _, _, q, _⟩; cases q)]
  rfl
end Go.Proofs.YtlgohmghjffiaaaGreatDoor.InflowMem

/- An argument that is a list of fields, of bulk at most 1048576. -/
namespace Go.Proofs.YtlgohmghjffiaaaGreatDoor.FArg
open Go.ChangeShapes Go.WideShapes Go.ChangeAt Go.RowKit Go.Deep LexPure Bytes Ret Rows1 FieldsPure Flds
set_option maxRecDepth 20000
theorem plain_cell {w : World} {a : Addr} {v : Value} (h : w.cell? a = some v) : a = ⟨a.block, a.off, none⟩ := by
  obtain ⟨b, o, e⟩ := a
  cases e with
  | none => rfl
  | some e =>
    have := World.cell?_spot h
    cases this
theorem add_plain (b o i : Nat) : (⟨b, o, none⟩ : Addr).add i = ⟨b, o + i, none⟩ := by unfold Addr.add; split <;> simp_all
theorem bulk_pos {H : Type} (d : DataW H) : 1 ≤ Rows.uptoBulk d := by
  cases d with
  | lit l => cases l <;> simp [Rows.uptoBulk]
  | _ => simp [Rows.uptoBulk]
theorem bulkAll_len {H : Type} : ∀ l : List (DataW H), l.length ≤ Rows.uptoBulkAll l
  | [] => by simp [Rows.uptoBulkAll]
  | d :: r => by
    have h1 := bulk_pos d
    have h2 := bulkAll_len r
    rw [Rows.uptoBulkAll, List.length_cons]
    omega
theorem bulkAll_mem {H : Type} : ∀ (l : List (DataW H)) (d : DataW H), d ∈ l → Rows.uptoBulk d ≤ Rows.uptoBulkAll l
  | [], _, h => by cases h
  | x :: r, d, h => by
    rw [Rows.uptoBulkAll]
    rcases List.mem_cons.1 h with rfl | h
    · omega
    · have := bulkAll_mem r d h
      omega
/-- a list's value is nil, or it has an address -/
def Nice (v : Value) (n : Nat) : Prop := v = .slice none 0 0 ∨ ∃ a cap, v = .slice (some a) n cap
theorem fields_core {H : Type} {enc : TypeId × Value → H} {W : World} {v : Value} {d : DataW H} {p : List MemPlace} {fuel : Nat}
    (hf : DataW.trod enc Tryz.prog W 0 (fun _ => true) true fuel 28 [v] = some (d, p)) (hb : Rows.uptoBulk d ≤ 1048576) :
    ∃ G, FL W v G ∧ Few G ∧ G.length ≤ 1048576 ∧ Nice v G.length := by
  have he : Tryz.prog.underlying 41 = some (.struct #[(Tryz.prog.fieldsOf 41)[0]!, (Tryz.prog.fieldsOf 41)[1]!]) := by kernel_rfl
  rcases open_slice_pairs Tryz.underlying28 he (by kernel_rfl) (by kernel_rfl) (by kernel_rfl) (by kernel_rfl) (by kernel_rfl) hf with ⟨hc, hx⟩ | ⟨a, len, cap, m, n, V0, V1, D0, D1, P0, P1, hc, _, hlc, hcm, hm, hx, hi⟩
  · obtain rfl : v = .slice none 0 0 := by simpa using hc
    exact ⟨[], ⟨none, 0, rfl, Nat.zero_le _, fun h => absurd h (by simp)⟩, fun j hj => absurd hj (by simp), Nat.zero_le _, .inl rfl⟩
  · obtain rfl : v = .slice (some a) len cap := by simpa using hc
    injection hx with hd hp
    have hlm : len ≤ m := by rw [hm, if_pos rfl]; exact hlc
    have hS : ∀ i, i < m → ∃ s t : ByteArray, V0 i = .string s ∧ V1 i = .string t ∧ D0 i = .lit (.string s.data.toList) ∧ D1 i = .lit (.string t.data.toList) := fun i him => by
      obtain ⟨_, _, t0, t1⟩ := hi i him
      have u0 : Tryz.prog.underlying (Tryz.prog.fieldsOf 41)[0]!.type = some .string := by kernel_rfl
      have u1 : Tryz.prog.underlying (Tryz.prog.fieldsOf 41)[1]!.type = some .string := by kernel_rfl
      obtain ⟨s, hs, hs2, _⟩ := DataW.trod_string u0 t0
      obtain ⟨t, ht, ht2, _⟩ := DataW.trod_string u1 t1
      exact ⟨s, t, by simpa using hs, by simpa using ht, by simpa using congrArg Prod.fst hs2, by simpa using congrArg Prod.fst ht2⟩
    rw [hd, Rows.uptoBulk] at hb
    have hlen := bulkAll_len ((List.range len).map fun i => DataW.agg [D0 i, D1 i])
    rw [List.length_map, List.length_range] at hlen
    have hget : ∀ i : Nat, i < len → ∃ f : HField, V0 i = .string (ofL f.1) ∧ V1 i = .string (ofL f.2) ∧ f.1.length ≤ 1048576 ∧ f.2.length ≤ 1048576 := fun i hil => by
      obtain ⟨s, t, hs, ht, hs2, ht2⟩ := hS i (by omega)
      have hb2 := bulkAll_mem ((List.range len).map fun i => DataW.agg [D0 i, D1 i]) (.agg [D0 i, D1 i]) (List.mem_map.2 ⟨i, by simpa using hil, rfl⟩)
      rw [hs2, ht2] at hb2
      simp only [Rows.uptoBulk, Rows.uptoBulkAll] at hb2
      exact ⟨(toL s, toL t), by rw [hs, ofL_toL], by rw [ht, ofL_toL], by show s.data.toList.length ≤ _; omega, by show t.data.toList.length ≤ _; omega⟩
    let f : Nat → HField := fun i => if h : i < len then (hget i h).choose else ([], [])
    have hfs : ∀ i (h : i < len), V0 i = .string (ofL (f i).1) ∧ V1 i = .string (ofL (f i).2) ∧ (f i).1.length ≤ 1048576 ∧ (f i).2.length ≤ 1048576 := fun i h => by
      have := (hget i h).choose_spec
      simp only [f, dif_pos h]
      exact this
    refine ⟨(List.range len).map f, ⟨some a, cap, by simp, by simp; omega, fun h0 => ?_⟩, fun j hj => ?_, by simp; omega, .inr ⟨a, cap, by simp⟩⟩
    · rw [List.length_map, List.length_range] at h0
      obtain ⟨c0, _⟩ := hi 0 (by omega)
      have ha := plain_cell c0
      have hae : a = ⟨a.block, a.off, none⟩ := by
        obtain ⟨b, o, e⟩ := a
        cases e with
        | none => rfl
        | some e => simp [Addr.add] at ha
      have hblk := World.block_lt_of_cell? _ _ c0
      obtain ⟨b, o, e⟩ := a
      injection hae with _ _ e3
      subst e3
      refine ⟨b, o, rfl, by simpa [Addr.add] using hblk, fun j hj => ?_⟩
      rw [List.length_map, List.length_range] at hj
      obtain ⟨c1, c2, _⟩ := hi j (by omega)
      obtain ⟨v0, v1, _, _⟩ := hfs j hj
      rw [v0] at c1
      rw [v1] at c2
      simp only [List.getElem_map, List.getElem_range]
      rw [add_plain] at c1 c2
      exact ⟨c1, by rw [Nat.add_assoc]; exact c2⟩
    · rw [List.length_map, List.length_range] at hj
      simp only [List.getElem_map, List.getElem_range]
      exact (hfs j hj).2.2
theorem fields_arg {H : Type} {enc : TypeId × Value → H} {W : World} {base : Nat} {v : Value} {d : DataW H} {p : List MemPlace} (hv : Value.okWide Tryz.prog W .any base 28 v)
    (h : DataW.Trod enc Tryz.prog W 0 (fun _ => true) true 28 v d p) (hb : Rows.uptoBulk d ≤ 1048576) :
    ∃ G, FL W v G ∧ Few G ∧ G.length ≤ 1048576 ∧ Nice v G.length := by
  obtain ⟨a0, len, cap, rfl⟩ := okWide_slice Tryz.underlying28 hv
  obtain ⟨fuel, hf⟩ := h
  exact fields_core (by simpa [Value.cells] using hf) hb
/-- the same where each string and each slice takes what memory holds: the first form -/
theorem fields_arg_wide {H : Type} {enc : TypeId × Value → H} {W : World} {base : Nat} {v : Value} {d : DataW H} {p : List MemPlace} (hv : Value.okWide Tryz.prog W .any base 28 v)
    (h : DataW.Trod enc Tryz.prog W 0 (fun _ => true) true 28 v d p) (hb : (d.weights Tryz.prog 28).all (· ≤ reachBytes) = true) :
    ∃ G, FL W v G ∧ (∀ (j : Nat) (h : j < G.length), G[j].1.length ≤ 9223372036854775807 ∧ G[j].2.length ≤ 9223372036854775807) ∧ G.length ≤ 4398046510976 ∧ Nice v G.length := by
  obtain ⟨a0, len, cap, rfl⟩ := okWide_slice Tryz.underlying28 hv
  obtain ⟨fuel, hf⟩ := h
  have he : Tryz.prog.underlying 41 = some (.struct #[(Tryz.prog.fieldsOf 41)[0]!, (Tryz.prog.fieldsOf 41)[1]!]) := by kernel_rfl
  rcases open_slice_pairs Tryz.underlying28 he (by kernel_rfl) (by kernel_rfl) (by kernel_rfl) (by kernel_rfl) (by kernel_rfl) hf with ⟨hc, hx⟩ | ⟨a, len', cap', m, n, V0, V1, D0, D1, P0, P1, hc, _, hlc, hcm, hm, hx, hi⟩
  · have hc' : Value.slice a0 len cap = .slice none 0 0 := by simpa [Value.cells] using hc
    injection hc' with e1 e2 e3
    subst e1 e2 e3
    exact ⟨[], ⟨none, 0, rfl, Nat.zero_le _, fun h => absurd h (by simp)⟩, fun j hj => absurd hj (by simp), Nat.zero_le _, .inl rfl⟩
  · have hc' : Value.slice a0 len cap = .slice (some a) len' cap' := by simpa [Value.cells] using hc
    injection hc' with e1 e2 e3
    subst e1 e2 e3
    injection hx with hd hp
    have hlm : len ≤ m := by rw [hm, if_pos rfl]; exact hlc
    have hS : ∀ i, i < m → ∃ f : HField, V0 i = .string (ofL f.1) ∧ V1 i = .string (ofL f.2) ∧ f.1.length ≤ 9223372036854775807 ∧ f.2.length ≤ 9223372036854775807 := fun i him => by
      obtain ⟨_, _, t0, t1⟩ := hi i him
      have u0 : Tryz.prog.underlying (Tryz.prog.fieldsOf 41)[0]!.type = some .string := by kernel_rfl
      have u1 : Tryz.prog.underlying (Tryz.prog.fieldsOf 41)[1]!.type = some .string := by kernel_rfl
      obtain ⟨s, hs, _, ls⟩ := DataW.trod_string u0 t0
      obtain ⟨t, ht, _, lt⟩ := DataW.trod_string u1 t1
      unfold maxLen at ls lt
      exact ⟨(toL s, toL t), by rw [ofL_toL]; simpa using hs, by rw [ofL_toL]; simpa using ht, by rw [toL_length]; exact ls, by rw [toL_length]; exact lt⟩
    have hlen : len * 32 ≤ 140737488351232 := by
      rw [hd] at hb
      simp only [DataW.weights, Tryz.underlying28, List.all_cons, Bool.and_eq_true] at hb
      have h1 := of_decide_eq_true hb.1
      rw [show Tryz.prog.bytesOf 41 = 32 by kernel_rfl, List.length_map, List.length_range] at h1
      unfold reachBytes at h1
      omega
    let f : Nat → HField := fun i => if h : i < m then (hS i h).choose else ([], [])
    have hfs : ∀ i (h : i < m), V0 i = .string (ofL (f i).1) ∧ V1 i = .string (ofL (f i).2) ∧ (f i).1.length ≤ 9223372036854775807 ∧ (f i).2.length ≤ 9223372036854775807 := fun i h => by
      have := (hS i h).choose_spec
      simp only [f, dif_pos h]
      exact this
    refine ⟨(List.range len).map f, ⟨some a, cap, by simp, by simp; omega, fun h0 => ?_⟩, fun j hj => ?_, by simp; omega, .inr ⟨a, cap, by simp⟩⟩
    · rw [List.length_map, List.length_range] at h0
      obtain ⟨c0, _⟩ := hi 0 (by omega)
      have ha := plain_cell c0
      have hae : a = ⟨a.block, a.off, none⟩ := by
        obtain ⟨b, o, e⟩ := a
        cases e with
        | none => rfl
        | some e => simp [Addr.add] at ha
      have hblk := World.block_lt_of_cell? _ _ c0
      obtain ⟨b, o, e⟩ := a
      injection hae with _ _ e3
      subst e3
      refine ⟨b, o, rfl, by simpa [Addr.add] using hblk, fun j hj => ?_⟩
      rw [List.length_map, List.length_range] at hj
      obtain ⟨c1, c2, _⟩ := hi j (by omega)
      obtain ⟨v0, v1, _, _⟩ := hfs j (by omega)
      rw [v0] at c1
      rw [v1] at c2
      simp only [List.getElem_map, List.getElem_range]
      rw [add_plain] at c1 c2
      exact ⟨c1, by rw [Nat.add_assoc]; exact c2⟩
    · rw [List.length_map, List.length_range] at hj
      simp only [List.getElem_map, List.getElem_range]
      exact (hfs j (by omega)).2.2
theorem weightsAll_mem {H : Type} {P : Program} {e : TypeId} (q : Nat → Bool) : ∀ l : List (DataW H), (DataW.weightsAll P e l).all q = true → ∀ d ∈ l, (d.weights P e).all q = true
  | [], _, d, hd => by cases hd
  | x :: l, h, d, hd => by
    simp only [DataW.weightsAll, List.all_append, Bool.and_eq_true] at h
    rcases List.mem_cons.1 hd with rfl | hd
    · exact h.1
    · exact weightsAll_mem q l h.2 d hd
theorem fields_core_reach {H : Type} {enc : TypeId × Value → H} {W : World} {v : Value} {d : DataW H} {p : List MemPlace} {fuel : Nat}
    (hf : DataW.trod enc Tryz.prog W 0 (fun _ => true) true fuel 28 [v] = some (d, p)) (hb : (d.weights Tryz.prog 28).all (· ≤ reachBytes) = true) :
    ∃ G, FL W v G ∧ Far G ∧ G.length ≤ 4398046510976 ∧ Nice v G.length := by
  have he : Tryz.prog.underlying 41 = some (.struct #[(Tryz.prog.fieldsOf 41)[0]!, (Tryz.prog.fieldsOf 41)[1]!]) := by kernel_rfl
  rcases open_slice_pairs Tryz.underlying28 he (by kernel_rfl) (by kernel_rfl) (by kernel_rfl) (by kernel_rfl) (by kernel_rfl) hf with ⟨hc, hx⟩ | ⟨a, len, cap, m, n, V0, V1, D0, D1, P0, P1, hc, _, hlc, hcm, hm, hx, hi⟩
  · obtain rfl : v = .slice none 0 0 := by simpa using hc
    exact ⟨[], ⟨none, 0, rfl, Nat.zero_le _, fun h => absurd h (by simp)⟩, fun j hj => absurd hj (by simp), Nat.zero_le _, .inl rfl⟩
  · obtain rfl : v = .slice (some a) len cap := by simpa using hc
    injection hx with hd hp
    have hlm : len ≤ m := by rw [hm, if_pos rfl]; exact hlc
    have hall : ∀ i, i < len → ((DataW.agg [D0 i, D1 i]).weights Tryz.prog 41).all (· ≤ reachBytes) = true := fun i hil => by
      rw [hd] at hb
      simp only [DataW.weights, Tryz.underlying28, List.all_cons, Bool.and_eq_true, List.all_append] at hb
      exact weightsAll_mem _ _ hb.2.1 _ (List.mem_map.2 ⟨i, List.mem_range.2 hil, rfl⟩)
    have hS : ∀ i, i < m → ∃ f : HField, V0 i = .string (ofL f.1) ∧ V1 i = .string (ofL f.2) ∧ (i < len → f.1.length ≤ 140737488351232 ∧ f.2.length ≤ 140737488351232) := fun i him => by
      obtain ⟨_, _, t0, t1⟩ := hi i him
      have u0 : Tryz.prog.underlying (Tryz.prog.fieldsOf 41)[0]!.type = some .string := by kernel_rfl
      have u1 : Tryz.prog.underlying (Tryz.prog.fieldsOf 41)[1]!.type = some .string := by kernel_rfl
      obtain ⟨s, hs, hs2, _⟩ := DataW.trod_string u0 t0
      obtain ⟨t, ht, ht2, _⟩ := DataW.trod_string u1 t1
      have e0 : D0 i = .lit (.string s.data.toList) := by simpa using congrArg Prod.fst hs2
      have e1 : D1 i = .lit (.string t.data.toList) := by simpa using congrArg Prod.fst ht2
      refine ⟨(toL s, toL t), by rw [ofL_toL]; simpa using hs, by rw [ofL_toL]; simpa using ht, fun hil => ?_⟩
      have h := hall i hil
      rw [e0, e1] at h
      simp only [DataW.weights, he, List.map_cons, List.map_nil, DataW.weightsEach, List.all_append, List.all_cons, List.all_nil, Bool.and_true, Bool.and_eq_true] at h
      have h1 := of_decide_eq_true h.1
      have h2 := of_decide_eq_true h.2
      unfold reachBytes at h1 h2
      exact ⟨h1, h2⟩
    have hlen : len * 32 ≤ 140737488351232 := by
      rw [hd] at hb
      simp only [DataW.weights, Tryz.underlying28, List.all_cons, Bool.and_eq_true] at hb
      have h1 := of_decide_eq_true hb.1
      rw [show Tryz.prog.bytesOf 41 = 32 by kernel_rfl, List.length_map, List.length_range] at h1
      unfold reachBytes at h1
      omega
    let f : Nat → HField := fun i => if h : i < m then (hS i h).choose else ([], [])
    have hfs : ∀ i (h : i < m), V0 i = .string (ofL (f i).1) ∧ V1 i = .string (ofL (f i).2) ∧ (i < len → (f i).1.length ≤ 140737488351232 ∧ (f i).2.length ≤ 140737488351232) := fun i h => by
      have := (hS i h).choose_spec
      simp only [f, dif_pos h]
      exact this
    refine ⟨(List.range len).map f, ⟨some a, cap, by simp, by simp; omega, fun h0 => ?_⟩, fun j hj => ?_, by simp; omega, .inr ⟨a, cap, by simp⟩⟩
    · rw [List.length_map, List.length_range] at h0
      obtain ⟨c0, _⟩ := hi 0 (by omega)
      have ha := plain_cell c0
      have hae : a = ⟨a.block, a.off, none⟩ := by
        obtain ⟨b, o, e⟩ := a
        cases e with
        | none => rfl
        | some e => simp [Addr.add] at ha
      have hblk := World.block_lt_of_cell? _ _ c0
      obtain ⟨b, o, e⟩ := a
      injection hae with _ _ e3
      subst e3
      refine ⟨b, o, rfl, by simpa [Addr.add] using hblk, fun j hj => ?_⟩
      rw [List.length_map, List.length_range] at hj
      obtain ⟨c1, c2, _⟩ := hi j (by omega)
      obtain ⟨v0, v1, _⟩ := hfs j (by omega)
      rw [v0] at c1
      rw [v1] at c2
      simp only [List.getElem_map, List.getElem_range]
      rw [add_plain] at c1 c2
      exact ⟨c1, by rw [Nat.add_assoc]; exact c2⟩
    · rw [List.length_map, List.length_range] at hj
      simp only [List.getElem_map, List.getElem_range]
      exact (hfs j (by omega)).2.2 (by omega)
theorem fields_arg_reach {H : Type} {enc : TypeId × Value → H} {W : World} {base : Nat} {v : Value} {d : DataW H} {p : List MemPlace} (hv : Value.okWide Tryz.prog W .any base 28 v)
    (h : DataW.Trod enc Tryz.prog W 0 (fun _ => true) true 28 v d p) (hb : (d.weights Tryz.prog 28).all (· ≤ reachBytes) = true) :
    ∃ G, FL W v G ∧ Far G ∧ G.length ≤ 4398046510976 ∧ Nice v G.length := by
  obtain ⟨a0, len, cap, rfl⟩ := okWide_slice Tryz.underlying28 hv
  obtain ⟨fuel, hf⟩ := h
  exact fields_core_reach (by simpa [Value.cells] using hf) hb
end Go.Proofs.YtlgohmghjffiaaaGreatDoor.FArg

/- InflowMemory's words: rows of fields that are marked. -/
namespace Go.Proofs.YtlgohmghjffiaaaGreatDoor.InflowMemD
open Go.ChangeShapes Go.WideShapes Go.ChangeAt Go.RowKit LexPure Bytes Ret FieldsPure Flds HeadPure HeadLines InflowPure InflowWrit InflowHost InflowMem QCell InObj InflowObj KeptRow PUnder POpen11 Mem Step
set_option maxRecDepth 100000
set_option linter.unusedVariables false
abbrev own (w : World) (base : Nat) (v : Value) (n : Nat) (xs : List Value) : Prop := w.ownsRow base 41 2 v n xs
def Z (v : Value) : Nat → Prop := fun j => v.ownBlock = some j
theorem row_open {w : World} {v : Value} {n base : Nat} {xs : List Value} (hr : own w base v n xs) (hn : 0 < n) :
    ∃ g cap, v = .slice (some ⟨g, 0, none⟩) n cap ∧ n ≤ cap ∧ cap ≤ 9223372036854775807 ∧ g < w.heap.size := by
  rcases hr.2 with ⟨_, h0⟩ | ⟨g, cap, cur, hv, _, hg, h1, h2, h3, _⟩
  · omega
  · exact ⟨g, cap, hv, h1, h2, (Array.getElem?_eq_some_iff.1 hg).1⟩
theorem fill_open {w : World} {g cap n base k : Nat} {xs : List Value} (hr : own w base (.slice (some ⟨g, 0, none⟩) n cap) n xs) (hk : k < n) :
    ∃ u0 u1, w.cell? ⟨g, k * 2, none⟩ = some u0 ∧ w.frozen? ⟨g, k * 2, none⟩ = false ∧ w.cell? ⟨g, k * 2 + 1, none⟩ = some u1 ∧ w.frozen? ⟨g, k * 2 + 1, none⟩ = false := by
  rcases hr.2 with ⟨h0, _⟩ | ⟨g', cap', cur, hv, _, hg, h1, _, h2, _⟩
  · cases h0
  · injection hv with e _ e3
    injection e with e
    injection e with e _ _
    subst e
    have hh : Has w g 41 cur := ⟨hg⟩
    have a0 : k * 2 < cur.size := by omega
    have a1 : k * 2 + 1 < cur.size := by omega
    exact ⟨cur[k * 2], cur[k * 2 + 1], by rw [hh.cell, Array.getElem?_eq_getElem a0], hh.free _, by rw [hh.cell, Array.getElem?_eq_getElem a1], hh.free _⟩
/-- the first k of them are marked -/
def Marked (x : Value) (xs : List Value) (k : Nat) : Prop := ∀ j, j < k → xs[j * 2]? = some x
theorem fill_set {w : World} {n base g cap k : Nat} {xs : List Value} {x y : Value} (hr : own w base (.slice (some ⟨g, 0, none⟩) n cap) n xs) (hk : k < n) (hm : Marked x xs k) :
    (∃ xs', own ((w.setCell ⟨g, k * 2, none⟩ x).setCell ⟨g, k * 2 + 1, none⟩ y) base (.slice (some ⟨g, 0, none⟩) n cap) n xs' ∧ Marked x xs' (k + 1)) ∧ Step w ((w.setCell ⟨g, k * 2, none⟩ x).setCell ⟨g, k * 2 + 1, none⟩ y) (Z (.slice (some ⟨g, 0, none⟩) n cap)) (Z (.slice (some ⟨g, 0, none⟩) n cap)) := by
  have hz : Z (.slice (some ⟨g, 0, none⟩) n cap) g := rfl
  refine ⟨?_, (Step.set_ w hz _ x).trans (Step.set_ _ hz _ y)⟩
  rcases hr.2 with ⟨h0, _⟩ | ⟨g', cap', cur, hv, hb, hg, h1, h2, h3, h4⟩
  · cases h0
  · injection hv with e _ e3
    injection e with e
    injection e with e _ _
    subst e
    have hh : Has w g 41 cur := ⟨hg⟩
    have hh2 := (hh.set_ (k * 2) x).set_ (k * 2 + 1) y
    refine ⟨(((cur.setIfInBounds (k * 2) x).setIfInBounds (k * 2 + 1) y).toList.take (n * 2)), ⟨?_, .inr ⟨g, cap', _, by rw [e3], hb, hh2.at_, h1, h2, by simp [h3], rfl⟩⟩, ?_⟩
    · rw [List.length_take, Array.length_toList]
      simp [h3]
      omega
    · intro j hj
      rw [List.getElem?_take_of_lt (by omega), Array.getElem?_toList]
      by_cases e : j = k
      · subst e
        rw [Array.getElem?_setIfInBounds_ne (by omega), Array.getElem?_setIfInBounds_self_of_lt (by omega)]
      · rw [Array.getElem?_setIfInBounds_ne (by omega), Array.getElem?_setIfInBounds_ne (by omega)]
        have := hm j (by omega)
        rw [← h4, List.getElem?_take_of_lt (by omega), Array.getElem?_toList] at this
        exact this
theorem step_below {W w w' : World} {B : Nat} {F F' : Nat → Prop} (h : Below B W w) (s : Step w w' F F') (hF : ∀ k, F k → B ≤ k) (hB : B ≤ w.heap.size) : Below B W w' :=
  h.trans ⟨s.os, s.tape, s.output, s.size, fun k hk => s.block k (Nat.lt_of_lt_of_le hk hB) (fun hf => by have := hF k hf; omega)⟩
theorem fl_one {W : World} {g : Nat} (A B : ByteArray) (hg : g = W.heap.size) : FL (W.alloc (.cells #[.string A, .string B] 41)) (.slice (some ⟨g, 0, none⟩) 1 1) [(toL A, toL B)] := by
  subst hg
  refine ⟨some ⟨W.heap.size, 0, none⟩, 1, rfl, by simp, fun _ => ⟨_, 0, rfl, by simp, fun j hj => ?_⟩⟩
  have h := Has.new W 41 #[.string A, .string B]
  match j, hj with
  | 0, _ =>
    refine ⟨(h.cell 0).trans ?_, (h.cell 1).trans ?_⟩
    · simp [ofL_toL]
    · simp [ofL_toL]
theorem fl_cells {w : World} {v : Value} {G : List HField} (h : FL w v G) : ∃ p cap, v = .slice p G.length cap ∧ (0 < G.length → ∃ g o, p = some ⟨g, o, none⟩ ∧ g < w.heap.size ∧ ∀ j (hj : j < G.length), w.cell? ⟨g, o + j * 2, none⟩ = some (.string (ofL G[j].1)) ∧ w.cell? ⟨g, o + j * 2 + 1, none⟩ = some (.string (ofL G[j].2))) := by
  obtain ⟨p, cap, h1, _, h2⟩ := h
  exact ⟨p, cap, h1, h2⟩
def BASE : ByteArray := ⟨#[71, 69, 84, 32, 47, 32, 72, 84, 84, 80, 47, 49, 46, 49, 13, 10, 72, 111, 115, 116, 58, 32, 104, 13, 10]⟩
def XB : ByteArray := ⟨#[88, 45]⟩
def CB : ByteArray := ⟨#[58, 32]⟩
def RB : ByteArray := ⟨#[13, 10]⟩
def MARK : ByteArray := ⟨#[109, 97, 114, 107]⟩
theorem base_say : toL BASE = startL GETM [47] ++ [13, 10] ++ HOST_ ++ [13, 10] := by decide
theorem line_say (l : List HField) (f : HField) : lines11 (l ++ [f]) = lines11 l ++ (toL XB ++ f.1 ++ toL CB ++ f.2 ++ toL RB) := by
  rw [show toL XB = [88, 45] from rfl, show toL CB = [58, 32] from rfl, show toL RB = [13, 10] from rfl]
  simp [lines11, xL]
theorem x_name (a : List UInt8) : ofL (88 :: 45 :: a) = XB ++ ofL a := by
  refine toL_inj ?_
  rw [toL_append, toL_ofL, toL_ofL]
  rfl
theorem mem_at (G : List HField) (i : Nat) (hi : i < G.length) : (encFs (memG G))[(i + 1) * 2]? = some (.string (XB ++ ofL G[i].1)) ∧ (encFs (memG G))[(i + 1) * 2 + 1]? = some (.string (ofL G[i].2)) := by
  obtain ⟨h1, h2⟩ := encFs_at (memG G) (i + 1) (xF G[i]) (by simp [memG, hi])
  refine ⟨h1.trans ?_, h2⟩
  rw [← x_name]
  rfl
theorem host_at (G : List HField) : (encFs (memG G))[1]? = some (.string ⟨#[104]⟩) := rfl
theorem memG_len (G : List HField) : (memG G).length = G.length + 1 := by simp [memG]
end Go.Proofs.YtlgohmghjffiaaaGreatDoor.InflowMemD

/- Layer 4, the document's own Marks. -/
namespace Go.Proofs.YtlgohmghjffiaaaGreatDoor.RMarks
open Go.ChangeShapes Go.WideShapes Go.ChangeAt Go.RowKit LexPure Bytes Ret
set_option maxRecDepth 20000
theorem rmarks_any (c : UInt8) (w : World) :
    Calls Tryz.prog 45 #[.int .u8 (c.toNat : Int)] w fun e w' => e = .returned (.bool (markB c)) ∧ w = w' := by
  unfold markB
  generalize (c.toNat : Int) = c
  go_enter Tryz.func45, Tryz.ntmps45
  go_wp2_with fail
  all_goals
    go_ret
    refine ⟨ret_bool ?_, rfl⟩
    try simp only [beq_eq_false_iff_ne, beq_iff_eq, ne_eq] at *
    first
      | exact Eq.symm (decide_eq_true (p := MarkP _) (by unfold MarkP; omega))
      | exact Eq.symm (decide_eq_false (p := MarkP _) (by unfold MarkP; omega))
end Go.Proofs.YtlgohmghjffiaaaGreatDoor.RMarks

/- Layer 4, the document's own Token. -/
namespace Go.Proofs.YtlgohmghjffiaaaGreatDoor.RToken
open Go.ChangeShapes Go.WideShapes Go.ChangeAt Go.RowKit LexPure Bytes Ret RMarks
set_option maxRecDepth 20000
theorem rtoken_any (s : ByteArray) (hs : s.size ≤ maxLen) (w : World) :
    Calls Tryz.prog 30 #[.string s] w fun e w' => e = .returned (.bool (token (toL s))) ∧ w = w' := by
  unfold maxLen at hs
  go_enter Tryz.func30, Tryz.ntmps30
  go_wp2_with fail
  go_loop [3] (fun i => ∃ k : Nat, k ≤ s.size ∧ i = .int .i64 k ∧ Hid (((toL s).take k).all markB = true)) (fun i => s.size - (intOf i).toNat)
  case atStart => exact ⟨0, Nat.zero_le _, rfl, Lib.hid rfl⟩
  case round =>
    obtain ⟨k, hk, rfl, ha⟩ := hrel
    by_cases hlt : k < s.size
    · have hki : (k : Int) < (s.size : Int) := by omega
      have HT := Lib.hid (toL_take_succ s k hlt)
      have HG := Lib.hid (toL_get s k hlt)
      by_cases hm : markB s[k] = true
      · have HA : Hid (((toL s).take (k + 1)).all markB = true) := Lib.hid (by rw [HT.out, List.all_append, ha.out]; simp [hm])
        have HM := Lib.hid hm
        clear hm
        go_wp2_with fail
        refine (rmarks_any _ _).mono ?_
        rintro e w' ⟨rfl, rfl⟩
        rw [HM.out]
        go_wp2_with fail
        go_round
        case rel => exact ⟨k + 1, by omega, by go_num, HA⟩
        case measure => simp [intOf]; omega
      · have hm : markB s[k] = false := by simpa using hm
        have HV : Hid (token (toL s) = false) := Lib.hid (by
          unfold token
          rw [Bool.and_eq_false_iff]
          left
          rw [List.all_eq_false]
          exact ⟨s[k], List.mem_of_getElem? HG.out, by simp [hm]⟩)
        have HM := Lib.hid hm
        clear hm
        go_wp2_with fail
        refine (rmarks_any _ _).mono ?_
        rintro e w' ⟨rfl, rfl⟩
        rw [HM.out]
        go_wp2_with fail
        go_ret
        exact ⟨ret_bool HV.out.symm, rfl⟩
    · have ha' : (toL s).all markB = true := by
        have := ha.out
        rwa [toL_take_all s (by omega)] at this
      have HV : Hid (token (toL s) = decide (0 < s.size)) := Lib.hid (by
        unfold token
        rw [ha']
        have := toL_length s
        cases h : toL s with
        | nil => rw [h] at this; simp at this; simp [← this]
        | cons c r => rw [h] at this; simp at this; simp; omega)
      clear ha'
      go_wp2_with fail
      go_ret
      exact ⟨ret_bool HV.out.symm, rfl⟩
end Go.Proofs.YtlgohmghjffiaaaGreatDoor.RToken

/- Layer 7, the document's own Check. -/
namespace Go.Proofs.YtlgohmghjffiaaaGreatDoor.R7Check
open Go.ChangeShapes Go.WideShapes Go.ChangeAt Go.RowKit LexPure Bytes Ret Rows1 FieldsPure Flds RToken RValue Mem
set_option maxRecDepth 20000
theorem ret_i {a b : Int} (h : a = b) : Ending.returned (.int .i64 a) = .returned (.int .i64 b) := by rw [h]
set_option maxHeartbeats 1600000 in
theorem r7check_far (v : Value) (G : List HField) (hG : Far G) (w : World) (hF : FL w v G) :
    Calls Tryz.prog 14 #[v] w fun e w' => e = .returned (.int .i64 (check G)) ∧ Below w.heap.size w w' := by
  obtain ⟨p, cap, rfl, hle, hc⟩ := hF
  replace hc := Lib.hid hc
  replace hG := Lib.hid hG
  go_enter Tryz.func14, Tryz.ntmps14
  go_wp2_with fail
  go_loopw [3] (fun i wr => ∃ k : Nat, k ≤ G.length ∧ i = .int .i64 k ∧ Hid ((G.take k).all right = true) ∧ Hid (Below w.heap.size w wr)) (fun i _ => G.length - (intOf i).toNat)
  case atStart => exact ⟨0, Nat.zero_le _, rfl, Lib.hid rfl, Lib.hid (Below.refl _ _)⟩
  case round =>
    obtain ⟨k, hk, rfl, ha, HB⟩ := hrel
    by_cases hlt : k < G.length
    · obtain ⟨g, o, rfl, hgl, hcell⟩ := hc.out (by omega)
      obtain ⟨c1, c2⟩ := hcell k hlt
      replace c1 := (HB.out.cell (p := ⟨g, o + k * 2, none⟩) hgl).trans c1
      replace c2 := (HB.out.cell (p := ⟨g, o + k * 2 + 1, none⟩) hgl).trans c2
      have hki : (k : Int) < (G.length : Int) := by omega
      obtain ⟨s1, s2⟩ := hG.out k hlt
      clear hcell
      have HTk := Lib.hid (fun w => (rtoken_any (ofL G[k].1) (by rw [ofL_size]; unfold maxLen; omega) w).mono (fun e w' h => (⟨h.1, h.2.symm⟩ : e = .returned (.bool (token (toL (ofL G[k].1)))) ∧ w' = w)))
      have HVl := Lib.hid (fun w => (rvalue_any (ofL G[k].2) (by rw [ofL_size]; unfold maxLen; omega) w).mono (fun e w' h => (⟨h.1, h.2.symm⟩ : e = .returned (.bool (value (toL (ofL G[k].2)))) ∧ w' = w)))
      rw [toL_ofL] at HTk HVl
      have hA := ofL_size G[k].1
      have hB := ofL_size G[k].2
      have HT : Hid ((G.take (k + 1)).all right = ((G.take k).all right && right G[k])) := Lib.hid (by
        rw [List.take_add_one, List.getElem?_eq_getElem hlt, List.all_append]
        simp)
      have HF : right G[k] = false → Hid (check G = 70) := fun h => Lib.hid (by
        unfold check
        rw [if_neg]
        intro h2
        have := List.all_eq_true.1 h2 _ (List.getElem_mem hlt)
        rw [h] at this
        cases this)
      have hr : right G[k] = (token G[k].1 && value G[k].2 && decide (G[k].1.length + G[k].2.length ≤ 512)) := rfl
      have hsum : IntKind.i64.wrap (((ofL G[k].1).size : Int) + ((ofL G[k].2).size : Int)) = ((ofL G[k].1).size : Int) + ((ofL G[k].2).size : Int) := IntWalk.i64_in _ (by omega)
      have hcases : (token G[k].1 = false) ∨ (token G[k].1 = true ∧ value G[k].2 = false) ∨ (token G[k].1 = true ∧ value G[k].2 = true ∧ decide ((512 : Int) < ((ofL G[k].1).size : Int) + ((ofL G[k].2).size : Int)) = true ∧ right G[k] = false) ∨ (token G[k].1 = true ∧ value G[k].2 = true ∧ decide ((512 : Int) < ((ofL G[k].1).size : Int) + ((ofL G[k].2).size : Int)) = false ∧ right G[k] = true) := by
        rw [hr, hA, hB]
        cases token G[k].1
        · exact .inl rfl
        · cases value G[k].2
          · exact .inr (.inl ⟨rfl, rfl⟩)
          · by_cases h : G[k].1.length + G[k].2.length ≤ 512
            · exact .inr (.inr (.inr ⟨rfl, rfl, decide_eq_false (by omega), by rw [decide_eq_true h]; rfl⟩))
            · exact .inr (.inr (.inl ⟨rfl, rfl, decide_eq_true (by omega), by rw [decide_eq_false h]; rfl⟩))
      clear hA hB
      rcases hcases with h1 | ⟨h1, h2⟩ | ⟨h1, h2, h3, h4⟩ | ⟨h1, h2, h3, h4⟩
      · have HV := HF (by rw [hr, h1]; rfl)
        rw [h1] at HTk
        clear hr h1 HF HT ha hsum
        generalize ofL G[k].1 = A at *
        generalize ofL G[k].2 = B at *
        have HBH := Lib.hid HB.out
        go_wp2_with fail
        go_quiet (first | (go_at_call 30; exact Calls.quiet_of_same (HTk.out _)) | (go_at_call 25; exact Calls.quiet_of_same (HVl.out _)))
        go_wp2_with fail
        go_ret
        exact ⟨ret_i HV.out.symm, HBH.out.trans ⟨rfl, rfl, rfl, Nat.le_refl _, fun _ _ => rfl⟩⟩
      · have HV := HF (by rw [hr, h1, h2]; rfl)
        rw [h1] at HTk
        rw [h2] at HVl
        clear hr h1 h2 HF HT ha hsum
        generalize ofL G[k].1 = A at *
        generalize ofL G[k].2 = B at *
        have HBH := Lib.hid HB.out
        go_wp2_with fail
        go_quiet (first | (go_at_call 30; exact Calls.quiet_of_same (HTk.out _)) | (go_at_call 25; exact Calls.quiet_of_same (HVl.out _)))
        go_wp2_with fail
        go_ret
        exact ⟨ret_i HV.out.symm, HBH.out.trans ⟨rfl, rfl, rfl, Nat.le_refl _, fun _ _ => rfl⟩⟩
      · have HV := HF h4
        rw [h1] at HTk
        rw [h2] at HVl
        clear hr h1 h2 h4 HF HT ha
        generalize ofL G[k].1 = A at *
        generalize ofL G[k].2 = B at *
        have HBH := Lib.hid HB.out
        go_wp2_with fail
        go_quiet (first | (go_at_call 30; exact Calls.quiet_of_same (HTk.out _)) | (go_at_call 25; exact Calls.quiet_of_same (HVl.out _)))
        go_wp2_with fail
        go_ret
        exact ⟨ret_i HV.out.symm, HBH.out.trans ⟨rfl, rfl, rfl, Nat.le_refl _, fun _ _ => rfl⟩⟩
      · have HA2 : Hid ((G.take (k + 1)).all right = true) := Lib.hid (by rw [HT.out, ha.out, h4]; rfl)
        rw [h1] at HTk
        rw [h2] at HVl
        clear hr h1 h2 h4 HF HT ha
        generalize ofL G[k].1 = A at *
        generalize ofL G[k].2 = B at *
        have HBH := Lib.hid HB.out
        go_wp2_with fail
        go_quiet (first | (go_at_call 30; exact Calls.quiet_of_same (HTk.out _)) | (go_at_call 25; exact Calls.quiet_of_same (HVl.out _)))
        go_wp2_with fail
        have HB3 : Hid (Below w.heap.size w (wr.drewN nq)) := Lib.hid (HBH.out.trans ⟨rfl, rfl, rfl, Nat.le_refl _, fun _ _ => rfl⟩)
        go_roundw
        case rel => exact ⟨k + 1, by omega, by go_num, HA2, HB3⟩
        case measure => simp [intOf]; omega
    · have hall : G.take k = G := List.take_of_length_le (by omega)
      have hc2 := ha.out
      rw [hall] at hc2
      have HBH := Lib.hid HB.out
      by_cases h32 : G.length ≤ 32
      · have HV : Hid (check G = 0) := Lib.hid (by unfold check; rw [if_pos hc2, if_pos h32])
        have hi : ¬ (32 : Int) < (G.length : Int) := by omega
        clear hall hc2 ha
        go_wp2_with fail
        go_ret
        exact ⟨ret_i HV.out.symm, HBH.out⟩
      · have HV : Hid (check G = 71) := Lib.hid (by unfold check; rw [if_pos hc2, if_neg h32])
        have hi : (32 : Int) < (G.length : Int) := by omega
        clear hall hc2 ha
        go_wp2_with fail
        go_ret
        exact ⟨ret_i HV.out.symm, HBH.out⟩
theorem r7check_any (v : Value) (G : List HField) (hG : Few G) (w : World) (hF : FL w v G) :
    Calls Tryz.prog 14 #[v] w fun e w' => e = .returned (.int .i64 (check G)) ∧ Below w.heap.size w w' := r7check_far v G hG.far w hF
end Go.Proofs.YtlgohmghjffiaaaGreatDoor.R7Check

/- Layer 7, the document's own One. -/
namespace Go.Proofs.YtlgohmghjffiaaaGreatDoor.R7One
open Go.ChangeShapes Go.WideShapes Go.ChangeAt Go.RowKit LexPure Bytes Ret Rows1 Texts FieldsPure Flds RAlike7 R7Get R7Has Mem
set_option maxRecDepth 20000
theorem fixed_short (k : Nat) (h : k < fixed.length) : fixed[k].length ≤ 1048576 := by
  have : fixed.all (fun f => decide (f.length ≤ 1048576)) = true := by decide
  have := List.all_eq_true.1 this _ (List.getElem_mem h)
  exact of_decide_eq_true this
set_option maxHeartbeats 1600000 in
theorem r7one_any (v : Value) (G : List HField) (n : ByteArray) (hn : n.size ≤ 1048576) (hG : Few G) (hle2 : G.length ≤ 1048576) (w : World) (hF : FL w v G) :
    Calls Tryz.prog 15 #[v, .string n] w fun e w' => e = .returned (.bool (one G (toL n))) ∧ Below w.heap.size w w' := by
  have hcells : ∀ j (hj : j < 7), (w.alloc (.cells #[.string ⟨#[99, 111, 110, 110, 101, 99, 116, 105, 111, 110]⟩, .string ⟨#[107, 101, 101, 112, 45, 97, 108, 105, 118, 101]⟩, .string ⟨#[112, 114, 111, 120, 121, 45, 99, 111, 110, 110, 101, 99, 116, 105, 111, 110]⟩, .string ⟨#[116, 101]⟩, .string ⟨#[116, 114, 97, 105, 108, 101, 114]⟩, .string ⟨#[116, 114, 97, 110, 115, 102, 101, 114, 45, 101, 110, 99, 111, 100, 105, 110, 103]⟩, .string ⟨#[117, 112, 103, 114, 97, 100, 101]⟩] 64)).cell? ⟨w.heap.size, j, none⟩ = some (.string (ofL (fixed[j]'hj))) := fun j hj => by
    have h := (Has.new w 64 #[.string ⟨#[99, 111, 110, 110, 101, 99, 116, 105, 111, 110]⟩, .string ⟨#[107, 101, 101, 112, 45, 97, 108, 105, 118, 101]⟩, .string ⟨#[112, 114, 111, 120, 121, 45, 99, 111, 110, 110, 101, 99, 116, 105, 111, 110]⟩, .string ⟨#[116, 101]⟩, .string ⟨#[116, 114, 97, 105, 108, 101, 114]⟩, .string ⟨#[116, 114, 97, 110, 115, 102, 101, 114, 45, 101, 110, 99, 111, 100, 105, 110, 103]⟩, .string ⟨#[117, 112, 103, 114, 97, 100, 101]⟩]).cell j
    rw [h]
    match j, hj with
    | 0, _ => rfl
    | 1, _ => rfl
    | 2, _ => rfl
    | 3, _ => rfl
    | 4, _ => rfl
    | 5, _ => rfl
    | 6, _ => rfl
  have hbl := (Below.refl w.heap.size w).alloc (Nat.le_refl _) (.cells #[.string ⟨#[99, 111, 110, 110, 101, 99, 116, 105, 111, 110]⟩, .string ⟨#[107, 101, 101, 112, 45, 97, 108, 105, 118, 101]⟩, .string ⟨#[112, 114, 111, 120, 121, 45, 99, 111, 110, 110, 101, 99, 116, 105, 111, 110]⟩, .string ⟨#[116, 101]⟩, .string ⟨#[116, 114, 97, 105, 108, 101, 114]⟩, .string ⟨#[116, 114, 97, 110, 115, 102, 101, 114, 45, 101, 110, 99, 111, 100, 105, 110, 103]⟩, .string ⟨#[117, 112, 103, 114, 97, 100, 101]⟩] 64)
  have hsz : w.heap.size < (w.alloc (.cells #[.string ⟨#[99, 111, 110, 110, 101, 99, 116, 105, 111, 110]⟩, .string ⟨#[107, 101, 101, 112, 45, 97, 108, 105, 118, 101]⟩, .string ⟨#[112, 114, 111, 120, 121, 45, 99, 111, 110, 110, 101, 99, 116, 105, 111, 110]⟩, .string ⟨#[116, 101]⟩, .string ⟨#[116, 114, 97, 105, 108, 101, 114]⟩, .string ⟨#[116, 114, 97, 110, 115, 102, 101, 114, 45, 101, 110, 99, 111, 100, 105, 110, 103]⟩, .string ⟨#[117, 112, 103, 114, 97, 100, 101]⟩] 64)).heap.size := by simp
  have HF := Lib.hid (hF.below hbl)
  replace hcells := Lib.hid hcells
  replace hbl := Lib.hid hbl
  replace hsz := Lib.hid hsz
  have HV : Hid (one G (toL n) = (fixed.any (fun x => alike x (toL n)) || hasE G CONNECTION (toL n))) := Lib.hid rfl
  have HH := Lib.hid (fun w hF => r7has_any v G ⟨#[99, 111, 110, 110, 101, 99, 116, 105, 111, 110]⟩ n (by decide) hn hG hle2 w hF)
  rw [show toL ⟨#[99, 111, 110, 110, 101, 99, 116, 105, 111, 110]⟩ = CONNECTION from rfl] at HH
  obtain ⟨b, hb⟩ : ∃ b, b = one G (toL n) := ⟨_, rfl⟩
  rw [← hb] at HV ⊢
  clear hb hF hG
  generalize hasE G CONNECTION (toL n) = c at *
  go_enter Tryz.func15, Tryz.ntmps15
  go_wp2_with fail
  generalize w.alloc (.cells #[.string ⟨#[99, 111, 110, 110, 101, 99, 116, 105, 111, 110]⟩, .string ⟨#[107, 101, 101, 112, 45, 97, 108, 105, 118, 101]⟩, .string ⟨#[112, 114, 111, 120, 121, 45, 99, 111, 110, 110, 101, 99, 116, 105, 111, 110]⟩, .string ⟨#[116, 101]⟩, .string ⟨#[116, 114, 97, 105, 108, 101, 114]⟩, .string ⟨#[116, 114, 97, 110, 115, 102, 101, 114, 45, 101, 110, 99, 111, 100, 105, 110, 103]⟩, .string ⟨#[117, 112, 103, 114, 97, 100, 101]⟩] 64) = W at HF hcells hbl hsz ⊢
  generalize w.heap.size = g at hcells hsz ⊢
  go_loopw [6] (fun i wr => ∃ k : Nat, k ≤ 7 ∧ i = .int .i64 k ∧ Hid ((fixed.take k).any (fun x => alike x (toL n)) = false) ∧ Hid (Below W.heap.size W wr)) (fun i _ => 7 - (intOf i).toNat)
  case atStart => exact ⟨0, by omega, rfl, Lib.hid rfl, Lib.hid (Below.refl _ _)⟩
  case round =>
    obtain ⟨k, hk, rfl, ha, HB⟩ := hrel
    by_cases hlt : k < 7
    · have hki : (k : Int) < 7 := by omega
      have hlf : k < fixed.length := hlt
      have c1 := (HB.out.cell (p := ⟨g, k, none⟩) hsz.out).trans (hcells.out k hlt)
      have hfl : (fixed[k]'hlf).length ≤ 1048576 := fixed_short k hlf
      have HA := Lib.hid (fun w => ralike7_any (ofL (fixed[k]'hlf)) n (by rw [ofL_size]; omega) (by omega) w)
      rw [toL_ofL] at HA
      cases hh : alike (fixed[k]'hlf) (toL n)
      · have HN : Hid ((fixed.take (k + 1)).any (fun x => alike x (toL n)) = false) := Lib.hid (by
          rw [List.take_add_one, List.getElem?_eq_getElem hlf, List.any_append, ha.out]
          simp [hh])
        rw [hh] at HA
        clear hh ha
        generalize ofL (fixed[k]'hlf) = F at *
        go_wp2_with fail
        refine (HA.out _).mono ?_
        rintro e w3 ⟨rfl, hb3⟩
        have HB3 := Lib.hid (below_chain HB.out hb3)
        clear hb3 c1
        go_wp2_with fail
        go_roundw
        case rel => exact ⟨k + 1, by omega, by go_num, HN, HB3⟩
        case measure => simp [intOf]; omega
      · have HV2 : Hid (b = true) := Lib.hid (by
          rw [HV.out, Bool.or_eq_true]
          left
          rw [List.any_eq_true]
          exact ⟨_, List.getElem_mem hlf, hh⟩)
        rw [hh] at HA
        clear hh ha
        generalize ofL (fixed[k]'hlf) = F at *
        go_wp2_with fail
        refine (HA.out _).mono ?_
        rintro e w3 ⟨rfl, hb3⟩
        have HB3 := Lib.hid (hbl.out.trans ((below_chain HB.out hb3).mono hbl.out.size))
        clear hb3 c1
        go_wp2_with fail
        go_ret
        exact ⟨ret_bool HV2.out.symm, HB3.out⟩
    · have HV2 : Hid (b = c) := Lib.hid (by
        have h := ha.out
        rw [List.take_of_length_le (by exact Nat.not_lt.1 hlt)] at h
        rw [HV.out, h, Bool.false_or])
      have HFL := Lib.hid (HF.out.below HB.out)
      clear ha
      go_wp2_with fail
      refine (HH.out _ HFL.out).mono ?_
      rintro e w3 ⟨rfl, hb3⟩
      have HB3 := Lib.hid (hbl.out.trans ((below_chain HB.out hb3).mono hbl.out.size))
      clear hb3
      go_wp2_with fail
      go_ret
      exact ⟨ret_bool HV2.out.symm, HB3.out⟩
end Go.Proofs.YtlgohmghjffiaaaGreatDoor.R7One

/- A request's fields are memory of their own: InflowMemory returns true, for what comes in of bulk at most 1048576. -/
namespace Go.Proofs.YtlgohmghjffiaaaGreatDoor.InflowMemoryW
open Go.ChangeShapes Go.WideShapes Go.ChangeAt Go.RowKit Bytes LexPure Ret Rows1 FieldsPure Flds HeadPure HeadLines InflowPure InflowMem InflowMemD QCell InObj InflowObj KeptRow L11Anchor PUnder POpen11 R7Check R7One Mem Step
set_option maxRecDepth 100000
set_option linter.unusedVariables false
set_option linter.unusedSimpArgs false
/-- the text so far -/
structure Txt (R : ByteArray) (G : List HField) (k : Nat) : Prop where
  text : toL R = toL BASE ++ lines11 (G.take k)
  fit : ∀ f ∈ G.take k, Fit f
  size : R.size ≤ 5410
  few : 0 < k → G.length ≤ 30
theorem Txt.start (G : List HField) : Txt BASE G 0 := ⟨by simp [lines11], fun f hf => by simp at hf, by decide, fun h => by omega⟩
theorem Txt.next {R : ByteArray} {G : List HField} {k : Nat} (t : Txt R G k) (hk : k < G.length) (hr : right G[k] = true) (h4 : (ofL G[k].1).size + (ofL G[k].2).size ≤ 400) (h5 : R.size ≤ 5000) (h3 : G.length ≤ 30) : Txt (R ++ (XB ++ ofL G[k].1 ++ CB ++ ofL G[k].2 ++ RB)) G (k + 1) := by
  have ht : G.take (k + 1) = G.take k ++ [G[k]] := by rw [List.take_add_one, List.getElem?_eq_getElem hk]; rfl
  rw [ofL_size, ofL_size] at h4
  unfold right at hr
  simp only [Bool.and_eq_true] at hr
  refine ⟨?_, ?_, ?_, fun _ => h3⟩
  · rw [ht, line_say, toL_append, t.text]
    simp only [toL_append, toL_ofL, List.append_assoc]
  · intro f hf
    rw [ht] at hf
    rcases List.mem_append.1 hf with h | h
    · exact t.fit f h
    · rw [List.mem_singleton] at h
      subst h
      exact ⟨hr.1.1, hr.1.2, h4⟩
  · have e1 : XB.size = 2 := rfl
    have e2 : CB.size = 2 := rfl
    have e3 : RB.size = 2 := rfl
    simp only [ByteArray.size_append, ofL_size]
    omega
theorem Txt.whole {R : ByteArray} {G : List HField} (t : Txt R G G.length) : toL (R ++ RB) = memT G ∧ (∀ f ∈ G, Fit f) ∧ G.length ≤ 30 ∧ (R ++ RB).size ≤ 5412 := by
  have hg : G.take G.length = G := List.take_length
  have h1 := t.text
  have h2 := t.fit
  rw [hg] at h1 h2
  refine ⟨?_, h2, ?_, ?_⟩
  · rw [toL_append, h1, base_say]
    rfl
  · by_cases h : 0 < G.length
    · exact t.few h
    · omega
  · have := t.size
    have e3 : RB.size = 2 := rfl
    simp only [ByteArray.size_append]
    omega
theorem case_of (f : HField) (A B : ByteArray) (o : Bool) (R n : Nat) : (right f = false ∧ check [f] = 70) ∨ (right f = true ∧ check [f] = 0 ∧ o = true) ∨ (right f = true ∧ check [f] = 0 ∧ o = false ∧ ((400 : Int) < (A.size : Int) + (B.size : Int))) ∨ (right f = true ∧ check [f] = 0 ∧ o = false ∧ ¬ (400 : Int) < (A.size : Int) + (B.size : Int) ∧ (5000 : Int) < (R : Int)) ∨ (right f = true ∧ check [f] = 0 ∧ o = false ∧ ¬ (400 : Int) < (A.size : Int) + (B.size : Int) ∧ ¬ (5000 : Int) < (R : Int) ∧ (30 : Int) < (n : Int)) ∨ (right f = true ∧ check [f] = 0 ∧ o = false ∧ ¬ (400 : Int) < (A.size : Int) + (B.size : Int) ∧ ¬ (5000 : Int) < (R : Int) ∧ ¬ (30 : Int) < (n : Int)) := by
  rw [check_one]
  cases hr : right f with
  | false => exact .inl ⟨rfl, rfl⟩
  | true =>
    cases o with
    | true => exact .inr (.inl ⟨rfl, rfl, rfl⟩)
    | false =>
      by_cases h1 : (400 : Int) < (A.size : Int) + (B.size : Int)
      · exact .inr (.inr (.inl ⟨rfl, rfl, rfl, h1⟩))
      · by_cases h2 : (5000 : Int) < (R : Int)
        · exact .inr (.inr (.inr (.inl ⟨rfl, rfl, rfl, h1, h2⟩)))
        · by_cases h3 : (30 : Int) < (n : Int)
          · exact .inr (.inr (.inr (.inr (.inl ⟨rfl, rfl, rfl, h1, h2, h3⟩))))
          · exact .inr (.inr (.inr (.inr (.inr ⟨rfl, rfl, rfl, h1, h2, h3⟩))))
set_option maxHeartbeats 12000000 in
theorem walkIn (v : Value) (G : List HField) (hG : Few G) (hle : G.length ≤ 1048576) (W : World) (hF : FL W v G) (hm : MaxInt W) :
    Calls Tryz.prog 5 #[v] W fun e w' => e = .returned (.bool true) ∧ Below W.heap.size W w' := by
  obtain ⟨i0, hi, hz0, hz1, hz2⟩ := info_parts infoF
  have HA := Lib.hid (anchor_any W hm)
  replace hm := Lib.hid hm
  have HF := Lib.hid hF
  have HG := Lib.hid hG
  obtain ⟨p, cap, rfl, hcl⟩ := fl_cells hF
  replace hcl := Lib.hid hcl
  have HT0 := Lib.hid (Txt.start G)
  clear hF hG
  go_enter Tryz.func5, Tryz.ntmps5
  go_wp2_with fail
  refine HA.out.mono ?_
  rintro e w1 ⟨rfl, hb1⟩
  have HB := Lib.hid hb1
  clear HA hb1
  unfold BASE at HT0
  go_wp2_with fail
  go_loopw [3, 24] (fun r i wr => ∃ (k : Nat) (R : ByteArray), k ≤ G.length ∧ i = .int .i64 k ∧ r = .string R ∧ Hid (Txt R G k) ∧ Hid (Below W.heap.size W wr)) (fun _ i _ => G.length - (intOf i).toNat)
  case atStart => exact ⟨0, _, Nat.zero_le _, rfl, rfl, HT0, HB⟩
  case round =>
    obtain ⟨k, R, hk, rfl, rfl, HT, HI⟩ := hrel
    clear HT0 HB
    by_cases hlt : k < G.length
    · have hki : (k : Int) < (G.length : Int) := by omega
      obtain ⟨gp, o, rfl, hgl, hcell⟩ := hcl.out (by omega)
      obtain ⟨c0, c1⟩ := hcell k hlt
      have d0 := (HI.out.cell (p := ⟨gp, o + k * 2, none⟩) hgl).trans c0
      have d1 := (HI.out.cell (p := ⟨gp, o + k * 2 + 1, none⟩) hgl).trans c1
      obtain ⟨z0, z1⟩ := HG.out k hlt
      obtain ⟨A, hA⟩ : ∃ A, A = ofL G[k].1 := ⟨_, rfl⟩
      obtain ⟨B, hB⟩ : ∃ B, B = ofL G[k].2 := ⟨_, rfl⟩
      have zA : A.size ≤ 1048576 := by rw [hA, ofL_size]; exact z0
      have zB : B.size ≤ 1048576 := by rw [hB, ofL_size]; exact z1
      have zAB : A.size + B.size ≤ 9223372036854775807 := by omega
      have sR : R.size ≤ 5410 := HT.out.size
      have s1 : 2 + A.size ≤ 9223372036854775807 := by omega
      have s2 : 2 + A.size + 2 ≤ 9223372036854775807 := by omega
      have s3 : 2 + A.size + 2 + B.size ≤ 9223372036854775807 := by omega
      have s4 : 2 + A.size + 2 + B.size + 2 ≤ 9223372036854775807 := by omega
      have s5 : R.size + (2 + A.size + 2 + B.size + 2) ≤ 9223372036854775807 := by omega
      have hf : (toL A, toL B) = G[k] := by rw [hA, hB, toL_ofL, toL_ofL]
      have HCk : Hid (∀ (W2 : World) (g2 : Nat), g2 = W2.heap.size → Calls Tryz.prog 14 #[.slice (some ⟨g2, 0, none⟩) 1 1] (W2.alloc (.cells #[.string A, .string B] 41)).drew fun e w' => e = .returned (.int .i64 (check [G[k]])) ∧ Below (W2.alloc (.cells #[.string A, .string B] 41)).drew.heap.size (W2.alloc (.cells #[.string A, .string B] 41)).drew w') := Lib.hid (fun W2 g2 hg2 => by
        have := r7check_any (.slice (some ⟨g2, 0, none⟩) 1 1) [(toL A, toL B)] (fun j hj => by
          have : j = 0 := by simp at hj; omega
          subst this
          exact ⟨by show (toL A).length ≤ _; rw [toL_length]; exact zA, by show (toL B).length ≤ _; rw [toL_length]; exact zB⟩) (W2.alloc (.cells #[.string A, .string B] 41)).drew (fl_one A B hg2)
        rw [hf] at this
        exact this)
      have HOn : Hid (∀ W2, Below W.heap.size W W2 → Calls Tryz.prog 15 #[.slice (some ⟨gp, o, none⟩) G.length cap, .string A] W2 fun e w' => e = .returned (.bool (one G (toL A))) ∧ Below W2.heap.size W2 w') := Lib.hid (fun W2 h2 => r7one_any _ G A zA HG.out hle W2 (HF.out.below h2))
      have HN : Hid (right G[k] = true → A.size + B.size ≤ 400 → R.size ≤ 5000 → G.length ≤ 30 → Txt (R ++ (XB ++ A ++ CB ++ B ++ RB)) G (k + 1)) := Lib.hid (fun a b c d => by
        rw [hA, hB] at b ⊢
        exact HT.out.next hlt a b c d)
      rw [← hA] at d0
      rw [← hB] at d1
      have hcs := case_of G[k] A B (one G (toL A)) R.size G.length
      generalize one G (toL A) = ob at *
      generalize check [G[k]] = cb at *
      generalize right G[k] = rb at *
      clear c0 c1 hcell z0 z1 hA hB hf HT hcl
      unfold XB CB RB at HN
      go_wp2_with fail
      have e0 := (Has.new wr 41 #[.string A, .string B]).cell 0
      have e1 := (Has.new wr 41 #[.string A, .string B]).cell 1
      rw [show (#[Value.string A, Value.string B] : Array Value)[0]? = some (.string A) from rfl] at e0
      rw [show (#[Value.string A, Value.string B] : Array Value)[1]? = some (.string B) from rfl] at e1
      have HI2 := Lib.hid (HI.out.alloc HI.out.size (.cells #[.string A, .string B] 41))
      generalize wr.alloc (.cells #[.string A, .string B] 41) = W1 at *
      generalize wr.heap.size = T5 at *
      clear d0 d1 HI
      go_region_held3 (fun w' => w'.cell? ⟨T5, 0, none⟩ = some (.string A) ∧ w'.cell? ⟨T5, 1, none⟩ = some (.string B)) (exact ⟨e0, e1⟩) (fail)
      rcases hcs with ⟨r1, rfl⟩ | ⟨r1, rfl, rfl⟩ | ⟨r1, rfl, rfl, r2⟩ | ⟨r1, rfl, rfl, r2, r3⟩ | ⟨r1, rfl, rfl, r2, r3, r4⟩ | ⟨r1, rfl, rfl, r2, r3, r4⟩
      · go_wp2_with fail
        refine (HCk.out _ _ rfl).mono ?_
        rintro e w3 ⟨rfl, hb3⟩
        replace HI2 := Lib.hid (below_chain (HI2.out.alloc HI2.out.size (.cells #[.string A, .string B] 41)).drew hb3)
        clear hb3
        go_wp2_with fail
        go_ret
        exact ⟨rfl, HI2.out⟩
      · go_wp2_with fail
        refine (HCk.out _ _ rfl).mono ?_
        rintro e w3 ⟨rfl, hb3⟩
        replace HI2 := Lib.hid (below_chain (HI2.out.alloc HI2.out.size (.cells #[.string A, .string B] 41)).drew hb3)
        clear hb3
        go_wp2_with fail
        refine (HOn.out _ HI2.out).mono ?_
        rintro e w4 ⟨rfl, hb4⟩
        replace HI2 := Lib.hid (below_chain HI2.out hb4)
        clear hb4
        go_wp2_with fail
        go_ret
        exact ⟨rfl, HI2.out⟩
      · go_wp2_with fail
        refine (HCk.out _ _ rfl).mono ?_
        rintro e w3 ⟨rfl, hb3⟩
        replace HI2 := Lib.hid (below_chain (HI2.out.alloc HI2.out.size (.cells #[.string A, .string B] 41)).drew hb3)
        clear hb3
        go_wp2_with fail
        refine (HOn.out _ HI2.out).mono ?_
        rintro e w4 ⟨rfl, hb4⟩
        replace HI2 := Lib.hid (below_chain HI2.out hb4)
        clear hb4
        go_wp2_with fail
        go_ret
        exact ⟨rfl, HI2.out⟩
      · go_wp2_with fail
        refine (HCk.out _ _ rfl).mono ?_
        rintro e w3 ⟨rfl, hb3⟩
        replace HI2 := Lib.hid (below_chain (HI2.out.alloc HI2.out.size (.cells #[.string A, .string B] 41)).drew hb3)
        clear hb3
        go_wp2_with fail
        refine (HOn.out _ HI2.out).mono ?_
        rintro e w4 ⟨rfl, hb4⟩
        replace HI2 := Lib.hid (below_chain HI2.out hb4)
        clear hb4
        go_wp2_with fail
        go_ret
        exact ⟨rfl, HI2.out⟩
      · go_wp2_with fail
        refine (HCk.out _ _ rfl).mono ?_
        rintro e w3 ⟨rfl, hb3⟩
        replace HI2 := Lib.hid (below_chain (HI2.out.alloc HI2.out.size (.cells #[.string A, .string B] 41)).drew hb3)
        clear hb3
        go_wp2_with fail
        refine (HOn.out _ HI2.out).mono ?_
        rintro e w4 ⟨rfl, hb4⟩
        replace HI2 := Lib.hid (below_chain HI2.out hb4)
        clear hb4
        go_wp2_with fail
        go_ret
        exact ⟨rfl, HI2.out⟩
      · go_wp2_with fail
        refine (HCk.out _ _ rfl).mono ?_
        rintro e w3 ⟨rfl, hb3⟩
        replace HI2 := Lib.hid (below_chain (HI2.out.alloc HI2.out.size (.cells #[.string A, .string B] 41)).drew hb3)
        clear hb3
        go_wp2_with fail
        refine (HOn.out _ HI2.out).mono ?_
        rintro e w4 ⟨rfl, hb4⟩
        replace HI2 := Lib.hid (below_chain HI2.out hb4)
        clear hb4
        replace HN := Lib.hid (HN.out r1 (by omega) (by omega) (by omega))
        go_wp2_with fail
        go_roundw
        case rel => exact ⟨k + 1, _, by omega, by go_num, rfl, HN, HI2⟩
        case measure => simp [intOf]; omega
    · have hki : ¬ (k : Int) < (G.length : Int) := by omega
      obtain rfl : k = G.length := by omega
      obtain ⟨tT, hfit, h30, zT⟩ := HT.out.whole
      have sR : R.size + 2 ≤ 9223372036854775807 := by have := HT.out.size; omega
      obtain ⟨T, hT⟩ : ∃ T, R ++ RB = T := ⟨_, rfl⟩
      rw [hT] at tT zT
      unfold RB at hT
      have HNw := Lib.hid (pnew11 9 wr)
      clear HT hlt
      go_wp2_with fail
      refine HNw.out.mono ?_
      rintro e w2 ⟨⟨g, F, rfl, hD, hlo⟩, hb2⟩
      have HB2 := Lib.hid (below_chain HI.out hb2)
      have hlo2 : Hid (∀ k, F k → W.heap.size ≤ k) := Lib.hid (fun k hk => Nat.le_trans HI.out.size (hlo k hk))
      have HFd := Lib.hid (pfeed11 F g 9 [] 0 (T ++ T) (by simp only [List.length_nil, ByteArray.size_append]; omega) w2 hD)
      rw [show ([] : List UInt8) ++ toL (T ++ T) = memT G ++ memT G by rw [List.nil_append, toL_append, tT]] at HFd
      have sTT : T.size + T.size ≤ 9223372036854775807 := by omega
      have hlT : (memT G).length ≤ 5412 := by rw [← tT, toL_length]; exact zT
      have hm1 := Lib.hid (mem_say G hfit h30 (memT G))
      have hm2 := mem_say G hfit h30 []
      rw [List.append_nil] at hm2
      replace hm2 := Lib.hid hm2
      clear HNw hb2 hD hlo hfit hT tT HI
      go_wp2_with fail
      refine HFd.out.mono ?_
      rintro e w3 ⟨rfl, F3, hR3, hS3⟩
      have HB3 : Below W.heap.size W w3 := step_below HB2.out hS3 hlo2.out HB2.out.size
      have hlo3 : ∀ k, F3 k → W.heap.size ≤ k := fun k hk => by
        rcases hS3.grow k hk with h | h
        · exact hlo2.out k h
        · exact Nat.le_trans HB2.out.size h.1
      obtain ⟨mx1, mx2⟩ := max_below hm.out HB3 hlo3
      have HX := Lib.hid (pnext11 F3 g 9 (memT G ++ memT G) 0 (by rw [List.length_append]; omega) (by unfold ChObj.InR; decide) w3 hR3 mx1 mx2)
      rw [show nx 9 (memT G ++ memT G) 0 = read11 9 (memT G ++ memT G) from rfl, hm1.out] at HX
      replace HB3 := Lib.hid HB3
      replace hlo3 := Lib.hid hlo3
      clear HFd hS3 hR3 mx1 mx2 hm1 HB2 hlo2 sTT zT sR
      go_wp2_with fail
      refine HX.out.mono ?_
      rintro e w4 ⟨l1, F4, rfl, hrow, hlf, hR4, hS4⟩
      rw [show outR (.whole (rqM G) (memT G).length) = (rqM G, true, 0) from rfl] at hrow ⊢
      dsimp only at hrow ⊢
      rw [show leftR (memT G ++ memT G) (.whole (rqM G) (memT G).length) = (memT G ++ memT G).drop (memT G).length from rfl, List.drop_left] at hR4
      replace hR4 : Rdr w4 F4 g 9 (memT G) 0 := hR4
      obtain ⟨n, hn⟩ : ∃ n, n = G.length + 1 := ⟨_, rfl⟩
      have h1 : own w4 0 l1 n (encFs (memG G)) := by
        have := hrow.1
        rw [show (rqM G).head.fields = memG G from rfl, memG_len, ← hn] at this
        exact this
      obtain ⟨g1, cap1, rfl, hc1, hc2, hg1⟩ := row_open h1 (by omega)
      have hB4 : Below W.heap.size W w4 := step_below HB3.out hS4 hlo3.out HB3.out.size
      have hlo4 : ∀ k, F4 k → W.heap.size ≤ k := fun k hk => by
        rcases hS4.grow k hk with h | h
        · exact hlo3.out k h
        · exact Nat.le_trans HB3.out.size h.1
      have hg1lo : W.heap.size ≤ g1 := by
        rcases (hlf g1 rfl).1 with h | h
        · exact hlo3.out g1 h
        · exact Nat.le_trans HB3.out.size h
      have hg1F : ¬ F4 g1 := (hlf g1 rfl).2
      have hF4lt : ∀ k, F4 k → k < w4.heap.size := hR4.lt
      obtain ⟨Q, hQ⟩ : ∃ Q, Q = rqM G := ⟨_, rfl⟩
      rw [← hQ]
      have c5 : (w4.alloc (.cells (qcl Q (.slice (some ⟨g1, 0, none⟩) n cap1)) RQT)).cell? ⟨w4.heap.size, 5, none⟩ = some (.slice (some ⟨g1, 0, none⟩) n cap1) := ((Has.new w4 RQT (qcl Q (.slice (some ⟨g1, 0, none⟩) n cap1))).cell 5).trans rfl
      have h1a : Hid (own (w4.alloc (.cells (qcl Q (.slice (some ⟨g1, 0, none⟩) n cap1)) RQT)) 0 (.slice (some ⟨g1, 0, none⟩) n cap1) n (encFs (memG G))) := Lib.hid (row_below h1 ((Below.refl w4.heap.size w4).alloc (Nat.le_refl _) _))
      have hA0 : w4.heap.size < (w4.alloc (.cells (qcl Q (.slice (some ⟨g1, 0, none⟩) n cap1)) RQT)).heap.size := by simp
      have S0 : Hid (Step w4 (w4.alloc (.cells (qcl Q (.slice (some ⟨g1, 0, none⟩) n cap1)) RQT)) (Z (.slice (some ⟨g1, 0, none⟩) n cap1)) (Z (.slice (some ⟨g1, 0, none⟩) n cap1))) := Lib.hid (Step.alloc w4 _ _)
      have hA1 : ¬ Z (.slice (some ⟨g1, 0, none⟩) n cap1) w4.heap.size := fun e => by
        have e2 : g1 = w4.heap.size := by injection e
        omega
      replace hQ := Lib.hid hQ
      have n0 : 0 < n := by omega
      have n31 : n ≤ 31 := by omega
      replace hn := Lib.hid hn
      replace hR4 := Lib.hid hR4
      replace hF4lt := Lib.hid hF4lt
      replace hB4 := Lib.hid hB4
      replace hlo4 := Lib.hid hlo4
      replace hg1F := Lib.hid hg1F
      replace hA1 := Lib.hid hA1
      clear HX hrow hlf hS4 h1 HB3 hlo3
      go_wp2_with (first
        | (refine wpList_putq rfl (.tmp 9) (.tmp 81) rfl _ rfl Q (.slice (some ⟨g1, 0, none⟩) n cap1) rfl rfl rfl ?_))
      generalize w4.alloc (.cells (qcl Q (.slice (some ⟨g1, 0, none⟩) n cap1)) RQT) = W4 at *
      generalize hA0e : w4.heap.size = A0 at *
      have H0 : Hid ((∃ xs, own W4 0 (.slice (some ⟨g1, 0, none⟩) n cap1) n xs ∧ Marked (.string MARK) xs 0) ∧ Step W4 W4 (Z (.slice (some ⟨g1, 0, none⟩) n cap1)) (Z (.slice (some ⟨g1, 0, none⟩) n cap1))) := Lib.hid ⟨⟨_, h1a.out, fun j hj => by omega⟩, Step.refl _ _⟩
      clear h1a
      go_loopw [94] (fun i wr => ∃ k : Nat, k ≤ n ∧ i = .int .i64 k ∧ Hid ((∃ xs, own wr 0 (.slice (some ⟨g1, 0, none⟩) n cap1) n xs ∧ Marked (.string MARK) xs k) ∧ Step W4 wr (Z (.slice (some ⟨g1, 0, none⟩) n cap1)) (Z (.slice (some ⟨g1, 0, none⟩) n cap1)))) (fun i _ => n - (intOf i).toNat)
      case atStart => exact ⟨0, Nat.zero_le _, rfl, H0⟩
      case round =>
        obtain ⟨k, hk, rfl, HJ⟩ := hrel
        clear H0
        obtain ⟨⟨xs, hrx, hmk⟩, hst⟩ := HJ.out
        have c5r : wr.cell? ⟨A0, 5, none⟩ = some (.slice (some ⟨g1, 0, none⟩) n cap1) := (hst.cell hA0 hA1.out).trans c5
        by_cases hlt : k < n
        · have hki : (k : Int) < (n : Int) := by omega
          obtain ⟨u0, u1, c0, f0, c1, f1⟩ := fill_open hrx hlt
          obtain ⟨hj1, hj2⟩ := fill_set (y := .string ⟨#[]⟩) hrx hlt hmk
          unfold MARK at hj1 hj2
          have HJ2 := Lib.hid hj1
          have HSt := Lib.hid (hst.trans hj2)
          clear hrx hst HJ hj1 hj2 hmk c5
          go_wp2_with fail
          go_roundw
          case rel => exact ⟨k + 1, by omega, by go_num, Lib.hid ⟨HJ2.out, HSt.out⟩⟩
          case measure => simp [intOf]; omega
        · have hki : ¬ (k : Int) < (n : Int) := by omega
          obtain rfl : n = k := by omega
          clear c5 HJ hki hlt hk
          have hra := row_below hrx ((Below.refl wr.heap.size wr).alloc (Nat.le_refl _) (.cells #[.string ⟨#[109, 111, 114, 101]⟩, .string ⟨#[]⟩, .string ⟨#[109, 111, 114, 101]⟩, .string ⟨#[]⟩] 41))
          have hna := World.news_of_block (heap_alloc_new wr (.cells #[.string ⟨#[109, 111, 114, 101]⟩, .string ⟨#[]⟩, .string ⟨#[109, 111, 114, 101]⟩, .string ⟨#[]⟩] 41))
          have hst1 := Lib.hid ((S0.out.trans hst).trans (Step.alloc wr (.cells #[.string ⟨#[109, 111, 114, 101]⟩, .string ⟨#[]⟩, .string ⟨#[109, 111, 114, 101]⟩, .string ⟨#[]⟩] 41) (Z (.slice (some ⟨g1, 0, none⟩) n cap1))))
          have hsz1 := Lib.hid (Nat.le_of_lt hA0)
          replace hst := Lib.hid hst
          clear hrx S0
          go_wp2_with (first
            | (at_builtin; refine wpList_append_own_at _ rfl _ _ 28 rfl 0 41 i0 _ 2 32 Tryz.underlying28 hi hz0 hz1 hz2 rfl (by omega) (.slice (some ⟨g1, 0, none⟩) n cap1) _ _ rfl hra ⟨wr.heap.size, 0, none⟩ 2 2 [.string ⟨#[109, 111, 114, 101]⟩, .string ⟨#[]⟩, .string ⟨#[109, 111, 114, 101]⟩, .string ⟨#[]⟩] rfl rfl hna (by simp [Value.oneCell']) (by simp only [maxLen]; omega) (by omega) (Nat.zero_le _) ?_; intro vn wD hown hg _ hat; obtain ⟨gn, cn, rfl, hcn1, hcn2, hgn⟩ := row_open hown (by omega); replace hg := Lib.hid hg; replace hown := Lib.hid hown; replace hat := Lib.hid hat))
          have hst2 : Step w4 wD (Z (.slice (some ⟨g1, 0, none⟩) n cap1)) (Z (.slice (some ⟨g1, 0, none⟩) n cap1)) := hst1.out.trans (Step.of_grown (F := Z (.slice (some ⟨g1, 0, none⟩) n cap1)) hg.out (fun k e => e))
          have hBD : Below W.heap.size W wD := step_below hB4.out hst2 (fun k e => by
            have e2 : g1 = k := by injection e
            omega) hB4.out.size
          have hRD : Rdr wD F4 g 9 (memT G) 0 := hR4.out.step hst2 (fun k hk e => hg1F.out (by
            have e2 : g1 = k := by injection e
            rw [e2]; exact hk))
          obtain ⟨mx1, mx2⟩ := max_below hm.out hBD hlo4.out
          have HX := Lib.hid (pnext11 F4 g 9 (memT G) 0 (by omega) (by unfold ChObj.InR; decide) wD hRD mx1 mx2)
          rw [show nx 9 (memT G) 0 = read11 9 (memT G) from rfl, hm2.out] at HX
          have hgnF : ¬ F4 gn := by
            rcases hat.out with e | e
            · have e2 : gn = g1 := by injection e
              rw [e2]; exact hg1F.out
            · have e2 : gn = (wr.alloc (.cells #[.string ⟨#[109, 111, 114, 101]⟩, .string ⟨#[]⟩, .string ⟨#[109, 111, 114, 101]⟩, .string ⟨#[]⟩] 41)).heap.size := by injection e
              intro hf
              have h1 := hF4lt.out _ hf
              have h2 := hst.out.size
              have h3 := hsz1.out
              simp at e2
              omega
          have hMk : Marked (.string MARK) (xs ++ [.string ⟨#[109, 111, 114, 101]⟩, .string ⟨#[]⟩, .string ⟨#[109, 111, 114, 101]⟩, .string ⟨#[]⟩]) n := fun j hj => by
            have := hmk j hj
            rw [List.getElem?_append_left (by have := (List.getElem?_eq_some_iff.1 this).1; exact this)]
            exact this
          replace hBD := Lib.hid hBD
          replace hMk := Lib.hid hMk
          replace hgnF := Lib.hid hgnF
          clear hst1 hst2 hg hat mx1 mx2 hRD hmk hm2 hra hna c5r hF4lt hR4 hB4 hA0 hA1 hst hsz1 hg1F
          refine HX.out.mono ?_
          rintro e wE ⟨l2, F5, rfl, hrow, hlf, hR5, hS5⟩
          rw [show outR (.whole (rqM G) (memT G).length) = (rqM G, true, 0) from rfl] at hrow ⊢
          dsimp only at hrow ⊢
          have h2 : own wE 0 l2 n (encFs (memG G)) := by
            have := hrow.1
            rw [show (rqM G).head.fields = memG G from rfl, memG_len, ← hn.out] at this
            exact this
          obtain ⟨g2, cap2, rfl, hd1, hd2, hg2⟩ := row_open h2 n0
          have hBE : Below W.heap.size W wE := step_below hBD.out hS5 hlo4.out hBD.out.size
          have hownE : own wE 0 (.slice (some ⟨gn, 0, none⟩) (n + 2) cn) (n + 2) (xs ++ [.string ⟨#[109, 111, 114, 101]⟩, .string ⟨#[]⟩, .string ⟨#[109, 111, 114, 101]⟩, .string ⟨#[]⟩]) := hS5.row hown.out (fun b e => by
            have e2 : gn = b := by injection e
            rw [← e2]; exact hgnF.out)
          rw [← hQ.out]
          have hal := (Below.refl wE.heap.size wE).alloc (Nat.le_refl _) (.cells (qcl Q (.slice (some ⟨g2, 0, none⟩) n cap2)) RQT)
          have c5 : (wE.alloc (.cells (qcl Q (.slice (some ⟨g2, 0, none⟩) n cap2)) RQT)).cell? ⟨wE.heap.size, 5, none⟩ = some (.slice (some ⟨g2, 0, none⟩) n cap2) := ((Has.new wE RQT (qcl Q (.slice (some ⟨g2, 0, none⟩) n cap2))).cell 5).trans rfl
          have r2 := row_below h2 hal
          have r1 := row_below hownE hal
          have hBF := hBE.alloc hBE.size (.cells (qcl Q (.slice (some ⟨g2, 0, none⟩) n cap2)) RQT)
          have hA5 : wE.heap.size < (wE.alloc (.cells (qcl Q (.slice (some ⟨g2, 0, none⟩) n cap2)) RQT)).heap.size := by simp
          have hg25 : g2 < (wE.alloc (.cells (qcl Q (.slice (some ⟨g2, 0, none⟩) n cap2)) RQT)).heap.size := by simp; omega
          have hgn5 : gn < (wE.alloc (.cells (qcl Q (.slice (some ⟨g2, 0, none⟩) n cap2)) RQT)).heap.size := by
            have := (row_lt hownE (b := gn) rfl)
            simp; omega
          have cells2 := r2.cells (g := g2) rfl
          have cells1 := r1.cells (g := gn) rfl
          have k1 := cells2 1 _ (host_at G)
          rw [FArg.add_plain, Nat.zero_add] at k1
          have hni : (n : Int) = (G.length : Int) + 1 := by have := hn.out; omega
          replace hBF := Lib.hid hBF
          replace cells2 := Lib.hid cells2
          replace cells1 := Lib.hid cells1
          clear HX hrow hlf hR5 hS5 h2 hownE hal r1 r2 hBE hBD hown hgnF hlo4
          go_wp2_with (first
            | (refine wpList_putq rfl (.tmp 15) (.tmp 114) rfl _ rfl Q (.slice (some ⟨g2, 0, none⟩) n cap2) rfl rfl rfl ?_))
          generalize wE.alloc (.cells (qcl Q (.slice (some ⟨g2, 0, none⟩) n cap2)) RQT) = W5 at *
          generalize wE.heap.size = A5 at *
          have H0 : Hid (Below W5.heap.size W5 W5) := Lib.hid (Below.refl _ _)
          have n0i : (0 : Int) < (G.length : Int) + 1 := by omega
          have n1i : G.length + 1 ≤ 9223372036854775807 := by omega
          go_wp2_with fail
          go_loopw [145] (fun i wr => ∃ k : Nat, k ≤ G.length ∧ i = .int .i64 k ∧ Hid (Below W5.heap.size W5 wr)) (fun i _ => G.length - (intOf i).toNat)
          case atStart => exact ⟨0, Nat.zero_le _, rfl, H0⟩
          case round =>
            obtain ⟨k, hk, rfl, HJ⟩ := hrel
            clear H0 k1
            by_cases hlt : k < G.length
            · have hki : (k : Int) < (G.length : Int) := by omega
              obtain ⟨gp, o, rfl, hgl, hcell⟩ := hcl.out (by omega)
              obtain ⟨c0, c1⟩ := hcell k hlt
              have hBr := below_chain hBF.out HJ.out
              have d0 := (hBr.cell (p := ⟨gp, o + k * 2, none⟩) hgl).trans c0
              have d1 := (hBr.cell (p := ⟨gp, o + k * 2 + 1, none⟩) hgl).trans c1
              obtain ⟨m0, m1⟩ := mem_at G k hlt
              have x0 := cells2.out _ _ m0
              have x1 := cells2.out _ _ m1
              have x2 := cells1.out _ _ (hMk.out k (by omega))
              rw [FArg.add_plain, Nat.zero_add] at x0 x1 x2
              have y0 := (HJ.out.cell (p := ⟨g2, (k + 1) * 2, none⟩) hg25).trans x0
              have y1 := (HJ.out.cell (p := ⟨g2, (k + 1) * 2 + 1, none⟩) hg25).trans x1
              have y2 := (HJ.out.cell (p := ⟨gn, k * 2, none⟩) hgn5).trans x2
              have c5r := (HJ.out.cell (p := ⟨A5, 5, none⟩) hA5).trans c5
              obtain ⟨zz0, zz1⟩ := HG.out k hlt
              have zA : (ofL G[k].1).size ≤ 1048576 := by rw [ofL_size]; exact zz0
              generalize ofL G[k].1 = A at *
              generalize ofL G[k].2 = B at *
              unfold XB at y0
              unfold MARK at y2
              have s1 : 2 + A.size ≤ 9223372036854775807 := by omega
              obtain ⟨kk, hkk⟩ : ∃ kk, kk = k + 1 := ⟨_, rfl⟩
              rw [← hkk] at y0 y1
              have kw : IntKind.i64.wrap ((k : Int) + 1) = (kk : Int) := by rw [IntWalk.i64_in _ (by omega)]; omega
              have sv1 : ¬ (9223372036854775807 < 2 + A.size) := by omega
              have sv2 : ¬ (2 + A.size > 9223372036854775807) := by omega
              have sv3 : ¬ (9223372036854775807 < (⟨#[88, 45]⟩ : ByteArray).size + A.size) := by show ¬ (9223372036854775807 < 2 + A.size); omega
              have sv4 : ¬ ((⟨#[88, 45]⟩ : ByteArray).size + A.size > 9223372036854775807) := by show ¬ (9223372036854775807 < 2 + A.size); omega
              have kz : (0 : Int) ≤ (kk : Int) := by omega
              have kkn : (kk : Int) < (n : Int) := by omega
              have kkg : kk ≤ G.length := by omega
              have kkl : k < kk := by omega
              have k2i : (k : Int) < (n : Int) + 2 := by omega
              replace hkk := Lib.hid hkk
              replace hni := Lib.hid hni
              clear c0 c1 hcell m0 m1 x0 x1 x2 zz0 zz1 hBr c5
              go_wp2_with fail
              have e0 := (Has.new wr 41 #[.string A, .string B]).cell 0
              have e1 := (Has.new wr 41 #[.string A, .string B]).cell 1
              rw [show (#[Value.string A, Value.string B] : Array Value)[0]? = some (.string A) from rfl] at e0
              rw [show (#[Value.string A, Value.string B] : Array Value)[1]? = some (.string B) from rfl] at e1
              have hal := (Below.refl wr.heap.size wr).alloc (Nat.le_refl _) (.cells #[.string A, .string B] 41)
              have hws := HJ.out.size
              replace y0 := (hal.cell (p := ⟨g2, kk * 2, none⟩) (Nat.lt_of_lt_of_le hg25 hws)).trans y0
              replace y1 := (hal.cell (p := ⟨g2, kk * 2 + 1, none⟩) (Nat.lt_of_lt_of_le hg25 hws)).trans y1
              replace y2 := (hal.cell (p := ⟨gn, k * 2, none⟩) (Nat.lt_of_lt_of_le hgn5 hws)).trans y2
              replace c5r := (hal.cell (p := ⟨A5, 5, none⟩) (Nat.lt_of_lt_of_le hA5 hws)).trans c5r
              have HJ2 := Lib.hid ((HJ.out.alloc HJ.out.size (.cells #[.string A, .string B] 41)).drew)
              generalize wr.alloc (.cells #[.string A, .string B] 41) = W6 at *
              generalize wr.heap.size = T19 at *
              clear d0 d1 HJ hal hws hcl
              go_region_held3 (fun w' => w'.cell? ⟨A5, 5, none⟩ = some (.slice (some ⟨g2, 0, none⟩) n cap2) ∧ w'.cell? ⟨g2, kk * 2, none⟩ = some (.string (⟨#[88, 45]⟩ ++ A)) ∧ w'.cell? ⟨g2, kk * 2 + 1, none⟩ = some (.string B) ∧ w'.cell? ⟨gn, k * 2, none⟩ = some (.string ⟨#[109, 97, 114, 107]⟩) ∧ w'.cell? ⟨T19, 0, none⟩ = some (.string A) ∧ w'.cell? ⟨T19, 1, none⟩ = some (.string B)) (exact ⟨c5r, y0, y1, y2, e0, e1⟩) (fail)
              go_wp2_with fail
              go_roundw
              case rel => exact ⟨kk, kkg, rfl, HJ2⟩
              case measure => simp [intOf]; omega
            · have hki : ¬ (k : Int) < (G.length : Int) := by omega
              have HBz := Lib.hid (below_chain hBF.out HJ.out)
              clear HJ c5
              go_wp2_with fail
              go_ret
              exact ⟨rfl, HBz.out⟩
theorem walk {H : Type} {enc : TypeId × Value → H} (W : World) (v : Value) (d : DataW H) (p : List MemPlace) (hv : Value.okWide Tryz.prog W .any W.heap.size 28 v)
    (hd : DataW.Trod enc Tryz.prog W 0 (fun _ => true) true 28 v d p) (_hl : ∀ x ∈ p, x.block < W.heap.size) (hb : Rows.uptoBulk d ≤ 1048576) (hsh : W.ShapedOpen Tryz.prog) :
    Calls Tryz.prog 5 #[v] W fun e w' => e = .returned (.bool true) ∧ Below W.heap.size W w' := by
  obtain ⟨G, hF, hG, hle, _⟩ := FArg.fields_arg hv hd hb
  exact walkIn v G hG hle W hF (MaxInt.of_shape hsh)
end Go.Proofs.YtlgohmghjffiaaaGreatDoor.InflowMemoryW
