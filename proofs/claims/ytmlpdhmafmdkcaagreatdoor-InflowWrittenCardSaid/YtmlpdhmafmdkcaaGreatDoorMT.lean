/- Texts of this seat, one behind another: BulkOf, SArg, InflowMany, InflowWrittenW. -/
import Derived.Test.YtmlpdhmafmdkcaaGreatDoorRows
import Derived.Deep.Slices
import Derived.Test.YtmlpdhmafmdkcaaGreatDoorA1
import Derived.Test.YtmlpdhmafmdkcaaGreatDoorA3
import Derived.Test.YtmlpdhmafmdkcaaGreatDoorB
import Derived.Test.YtmlpdhmafmdkcaaGreatDoorMR
import Derived.Test.YtmlpdhmafmdkcaaGreatDoorMW2
/- The bulk and the weights of a list of readings. -/
namespace Go.Proofs.YtmlpdhmafmdkcaaGreatDoor.BulkOf
open Go.ChangeShapes Go.WideShapes Go.RowKit Go.Deep
theorem plain_cell {w : World} {a : Addr} {v : Value} (h : w.cell? a = some v) : a = ⟨a.block, a.off, none⟩ := by
  obtain ⟨b, o, e⟩ := a
  cases e with
  | none => rfl
  | some e =>
    have := World.cell?_spot h
    cases this
theorem add_plain (b o i : Nat) : (⟨b, o, none⟩ : Addr).add i = ⟨b, o + i, none⟩ := by unfold Addr.add; split <;> simp_all
theorem bulk_pos {H : Type} (d : DataW H) : 1 ≤ Rows.uptoBulk d := by
  cases d with
  | lit l => cases l <;> simp [Rows.uptoBulk]
  | _ => simp [Rows.uptoBulk]
theorem bulkAll_len {H : Type} : ∀ l : List (DataW H), l.length ≤ Rows.uptoBulkAll l
  | [] => by simp [Rows.uptoBulkAll]
  | d :: r => by
    have h1 := bulk_pos d
    have h2 := bulkAll_len r
    rw [Rows.uptoBulkAll, List.length_cons]
    omega
theorem bulkAll_mem {H : Type} : ∀ (l : List (DataW H)) (d : DataW H), d ∈ l → Rows.uptoBulk d ≤ Rows.uptoBulkAll l
  | [], _, h => by cases h
  | x :: r, d, h => by
    rw [Rows.uptoBulkAll]
    rcases List.mem_cons.1 h with rfl | h
    · omega
    · have := bulkAll_mem r d h
      omega
theorem weightsAll_mem {H : Type} {P : Program} {e : TypeId} (q : Nat → Bool) : ∀ l : List (DataW H), (DataW.weightsAll P e l).all q = true → ∀ d ∈ l, (d.weights P e).all q = true
  | [], _, d, hd => by cases hd
  | x :: l, h, d, hd => by
    simp only [DataW.weightsAll, List.all_append, Bool.and_eq_true] at h
    rcases List.mem_cons.1 hd with rfl | hd
    · exact h.1
    · exact weightsAll_mem q l h.2 d hd
end Go.Proofs.YtmlpdhmafmdkcaaGreatDoor.BulkOf

/- An argument that is a list of texts. -/
namespace Go.Proofs.YtmlpdhmafmdkcaaGreatDoor.SArg
open Go.ChangeShapes Go.WideShapes Go.ChangeAt Go.RowKit Go.Deep LexPure Bytes Ret Rows1 Texts BulkOf
set_option maxRecDepth 20000
/-- what both forms have in common: the texts, each with its reading -/
theorem texts_core {H : Type} {enc : TypeId × Value → H} {W : World} {v : Value} {d : DataW H} {p : List MemPlace} {fuel : Nat}
    (hf : DataW.trod enc Tryz.prog W 0 (fun _ => true) true fuel 22 [v] = some (d, p)) :
    ∃ G, Texts W v G ∧ (d = .nil ∧ G = [] ∨ ∃ sp, d = .slice (G.map fun t => .lit (.string t)) sp) := by
  rcases open_slice1 Tryz.underlying22 (by kernel_rfl) hf with ⟨hc, hx⟩ | ⟨a, len, cap, m, n, V, D, Pl, hc, _, hlc, hcm, hm, hx, hi⟩
  · obtain rfl : v = .slice none 0 0 := by simpa using hc
    injection hx with hd _
    exact ⟨[], ⟨none, 0, rfl, Nat.zero_le _, fun h => absurd h (by simp)⟩, .inl ⟨hd, rfl⟩⟩
  · obtain rfl : v = .slice (some a) len cap := by simpa using hc
    injection hx with hd hp
    have hlm : len ≤ m := by rw [hm, if_pos rfl]; exact hlc
    unfold maxLen at hcm
    have hS : ∀ i, i < len → ∃ s : List UInt8, V i = .string (ofL s) ∧ D i = .lit (.string s) := fun i hil => by
      obtain ⟨_, t0⟩ := hi i (by omega)
      obtain ⟨s, hs, hs2, _⟩ := DataW.trod_string Tryz.underlying9 t0
      exact ⟨toL s, by rw [ofL_toL]; simpa using hs, by simpa using congrArg Prod.fst hs2⟩
    let f : Nat → List UInt8 := fun i => if h : i < len then (hS i h).choose else []
    have hfs : ∀ i (h : i < len), V i = .string (ofL (f i)) ∧ D i = .lit (.string (f i)) := fun i h => by
      have := (hS i h).choose_spec
      simp only [f, dif_pos h]
      exact this
    refine ⟨(List.range len).map f, ⟨some a, cap, by simp, by simp; omega, fun h0 => ?_⟩, .inr ⟨(List.range (m - len)).map fun j => D (len + j), ?_⟩⟩
    · rw [List.length_map, List.length_range] at h0
      obtain ⟨c0, _⟩ := hi 0 (by omega)
      have ha := plain_cell c0
      have hae : a = ⟨a.block, a.off, none⟩ := by
        obtain ⟨b, o, e⟩ := a
        cases e with
        | none => rfl
        | some e => simp [Addr.add] at ha
      have hblk := World.block_lt_of_cell? _ _ c0
      obtain ⟨b, o, e⟩ := a
      injection hae with _ _ e3
      subst e3
      refine ⟨b, o, rfl, by simpa [Addr.add] using hblk, fun j hj => ?_⟩
      rw [List.length_map, List.length_range] at hj
      obtain ⟨c1, _⟩ := hi j (by omega)
      rw [(hfs j hj).1] at c1
      simp only [List.getElem_map, List.getElem_range]
      rw [BulkOf.add_plain] at c1
      exact c1
    · rw [hd]
      congr 1
      rw [List.map_map]
      exact List.map_congr_left (fun i hi => (hfs i (List.mem_range.1 hi)).2)
theorem texts_upto {H : Type} {enc : TypeId × Value → H} {W : World} {base : Nat} {v : Value} {d : DataW H} {p : List MemPlace} (hv : Value.okWide Tryz.prog W .any base 22 v)
    (h : DataW.Trod enc Tryz.prog W 0 (fun _ => true) true 22 v d p) (hb : Rows.uptoBulk d ≤ 1048576) :
    ∃ G, Texts W v G ∧ (∀ t ∈ G, t.length ≤ 1048576) ∧ G.length ≤ 1048576 := by
  obtain ⟨a0, len, cap, rfl⟩ := okWide_slice Tryz.underlying22 hv
  obtain ⟨fuel, hf⟩ := h
  obtain ⟨G, hT, hd⟩ := texts_core (v := .slice a0 len cap) (by simpa [Value.cells] using hf)
  refine ⟨G, hT, ?_⟩
  rcases hd with ⟨_, rfl⟩ | ⟨sp, rfl⟩
  · exact ⟨fun t ht => (by cases ht), Nat.zero_le _⟩
  · rw [Rows.uptoBulk] at hb
    have hl := bulkAll_len (G.map fun t => (DataW.lit (.string t) : DataW H))
    rw [List.length_map] at hl
    refine ⟨fun t ht => ?_, by omega⟩
    have := bulkAll_mem (G.map fun t => (DataW.lit (.string t) : DataW H)) (.lit (.string t)) (List.mem_map.2 ⟨t, ht, rfl⟩)
    simp only [Rows.uptoBulk] at this
    omega
theorem texts_reach {H : Type} {enc : TypeId × Value → H} {W : World} {base : Nat} {v : Value} {d : DataW H} {p : List MemPlace} (hv : Value.okWide Tryz.prog W .any base 22 v)
    (h : DataW.Trod enc Tryz.prog W 0 (fun _ => true) true 22 v d p) (hb : (d.weights Tryz.prog 22).all (· ≤ reachBytes) = true) :
    ∃ G, Texts W v G ∧ (∀ t ∈ G, t.length ≤ 140737488351232) ∧ G.length ≤ 8796093022208 := by
  obtain ⟨a0, len, cap, rfl⟩ := okWide_slice Tryz.underlying22 hv
  obtain ⟨fuel, hf⟩ := h
  obtain ⟨G, hT, hd⟩ := texts_core (v := .slice a0 len cap) (by simpa [Value.cells] using hf)
  refine ⟨G, hT, ?_⟩
  rcases hd with ⟨_, rfl⟩ | ⟨sp, rfl⟩
  · exact ⟨fun t ht => (by cases ht), Nat.zero_le _⟩
  · simp only [DataW.weights, Tryz.underlying22, List.all_cons, Bool.and_eq_true, List.all_append] at hb
    refine ⟨fun t ht => ?_, ?_⟩
    · have := weightsAll_mem _ _ hb.2.1 (.lit (.string t)) (List.mem_map.2 ⟨t, ht, rfl⟩)
      simp only [DataW.weights, List.all_cons, List.all_nil, Bool.and_true] at this
      have h1 := of_decide_eq_true this
      unfold reachBytes at h1
      exact h1
    · have h1 := of_decide_eq_true hb.1
      rw [show Tryz.prog.bytesOf 9 = 16 by kernel_rfl, List.length_map] at h1
      unfold reachBytes at h1
      omega
end Go.Proofs.YtmlpdhmafmdkcaaGreatDoor.SArg

/- Layer 11: requests written one behind the other come out in their order, each with its own body. No program is named. -/
namespace Go.Proofs.YtmlpdhmafmdkcaaGreatDoor.InflowMany
open Bytes LexPure HeadPure HeadLines ChunkHex TargetPure InflowPure InflowWrit
def POSTL : List UInt8 := [80, 79, 83, 84]
def pathL (i : Nat) : List UInt8 := 47 :: 112 :: decN i
def sizeAt (size : Int) (i : Nat) : Int := if i % 2 = 1 then 0 else size
def itemL (size : Int) (i : Nat) (b : List UInt8) : List UInt8 := wr11 POSTL (pathL i) b (sizeAt size i)
def itemQ (size : Int) (i : Nat) (b : List UInt8) : Rq := rq11 POSTL (pathL i) b (sizeAt size i)
def many (size : Int) : Nat → List (List UInt8) → List UInt8
  | _, [] => []
  | i, b :: r => itemL size i b ++ many size (i + 1) r
def manyQ (size : Int) : Nat → List (List UInt8) → List Rq
  | _, [] => []
  | i, b :: r => itemQ size i b :: manyQ size (i + 1) r
theorem many_snoc (size : Int) : ∀ (T : List (List UInt8)) (i : Nat) (b : List UInt8), many size i (T ++ [b]) = many size i T ++ itemL size (i + T.length) b
  | [], i, b => by simp [many]
  | c :: T, i, b => by
    rw [List.cons_append, many, many, many_snoc size T (i + 1) b, List.append_assoc, List.length_cons, show i + 1 + T.length = i + (T.length + 1) by omega]
theorem manyQ_len (size : Int) : ∀ (T : List (List UInt8)) (i : Nat), (manyQ size i T).length = T.length
  | [], _ => rfl
  | _ :: T, i => by rw [manyQ, List.length_cons, manyQ_len size T (i + 1), List.length_cons]
theorem manyQ_at (size : Int) : ∀ (T : List (List UInt8)) (i k : Nat) (h : k < T.length), (manyQ size i T)[k]? = some (itemQ size (i + k) T[k])
  | b :: T, i, 0, _ => rfl
  | b :: T, i, k + 1, h => by
    show (manyQ size (i + 1) T)[k]? = _
    rw [manyQ_at size T (i + 1) k (by simpa using h), show i + 1 + k = i + (k + 1) by omega]
    rfl
theorem dec_plain (n : Nat) : ∀ c ∈ decN n, plain47 c = true := fun c hc => by
  have h := (decN_all n c hc).2
  unfold plain47
  simp only [Bool.or_eq_true, Bool.and_eq_true, decide_eq_true_eq]
  exact .inl h
theorem path_all (i : Nat) : ∀ c ∈ 112 :: decN i, plain47 c = true := fun c hc => by
  rcases List.mem_cons.1 hc with rfl | hc
  · decide
  · exact dec_plain i c hc
theorem fit {i : Nat} (hi : i < 1000) {b : List UInt8} (hb : b.length ≤ 1000) : Wr POSTL (pathL i) b := by
  have hl : (decN i).length ≤ 3 := decN_len 2 i (by omega)
  refine ⟨by decide, by decide, by decide, ?_, by simp [pathL], by simp [pathL]; omega, parse_plain (by decide) (by simp) (path_all i), by omega⟩
  refine List.all_eq_true.2 (fun c hc => ?_)
  rcases List.mem_cons.1 hc with rfl | hc
  · decide
  · exact (plain47_say c (path_all i c hc)).2.2.2.2.2
theorem many_all (size : Int) : ∀ (T : List (List UInt8)) (i : Nat), i + T.length ≤ 1000 → (∀ b ∈ T, b.length ≤ 1000) → allOf 1000 (many size i T) = (manyQ size i T, 0, [])
  | [], i, _, _ => by
    unfold many manyQ
    rw [allOf_step, read11_nil]
  | b :: T, i, hi, hb => by
    rw [List.length_cons] at hi
    have hbl := hb b (List.mem_cons_self ..)
    have h := read_wr (fit (i := i) (by omega) hbl) (sizeAt size i) 1000 (by decide) (many size (i + 1) T)
    rw [if_pos (by omega)] at h
    unfold many manyQ itemL itemQ
    rw [allOf_step, h]
    dsimp only
    rw [List.drop_left, many_all size T (i + 1) (by omega) (fun c hc => hb c (List.mem_cons_of_mem _ hc))]
theorem itemQ_say (size : Int) (i : Nat) (b : List UInt8) : (itemQ size i b).body = b ∧ (itemQ size i b).sized = true ∧ (itemQ size i b).target.path = pathL i ∧ (itemQ size i b).head.method = POSTL := by
  unfold itemQ rq11
  split <;> exact ⟨rfl, rfl, rfl, rfl⟩
/-- what is told of a beginning is no more than what is told of the whole -/
theorem count_le (most : Int) (D x : List UInt8) : (allOf most D).1.length ≤ (allOf most (D ++ x)).1.length := by
  rw [all_append most x D.length D (Nat.le_refl _)]
  split
  · exact Nat.le_refl _
  · rw [List.length_append]
    omega
end Go.Proofs.YtmlpdhmafmdkcaaGreatDoor.InflowMany

/- Requests written one behind the other come out in their order: InflowWritten returns true. -/
namespace Go.Proofs.YtmlpdhmafmdkcaaGreatDoor.InflowWrittenW
open Go.ChangeShapes Go.WideShapes Go.ChangeAt Go.RowKit Bytes LexPure Ret Rows1 Texts HeadPure HeadLines ChunkHex InflowPure InflowWrit InflowMany QCell InObj InflowObj PUnder KeptRow L11Read L11Anchor L11Writ L11Dig SArg InflowWholeW Mem Step
set_option maxRecDepth 100000
theorem item_len (size : Int) {i : Nat} (hi : i < 1000) {b : List UInt8} (hb : b.length ≤ 500) : (itemL size i b).length ≤ 14000 := by
  have hl : (decN i).length ≤ 3 := decN_len 2 i (by omega)
  exact InflowRestW.wr_len _ (by decide) (by simp [pathL]; omega) (by omega)
theorem own_far {W : World} {base n size : Nat} {e : TypeId} {v : Value} {xs : List Value} (h : W.ownsRow base e size v n xs) {i : Nat} (hi : i < base) : some i ≠ v.ownBlock := by
  rcases h.2 with ⟨hv, _⟩ | ⟨g, cap, cur, hv, hb, _⟩
  · rw [hv]; intro q; cases q
  · rw [hv]
    intro q
    have q2 : some i = some g := q
    injection q2
    omega
/-- a text put behind the pieces -/
theorem piece_put {w wr w4 : World} {v v4 : Value} {PL : List (List UInt8)} {X : ByteArray} (j1 : wr.ownsRow w.heap.size 9 1 v PL.length (strs PL)) (j3 : Below w.heap.size w wr)
    (hown : w4.ownsRow w.heap.size 9 1 v4 (PL.length + 1) (strs PL ++ [.string X])) (hg : (wr.alloc (.cells #[.string X] 9)).grownBy w4 v.ownBlock) :
    w4.ownsRow w.heap.size 9 1 v4 (PL ++ [toL X]).length (strs (PL ++ [toL X])) ∧ Below w.heap.size w w4 := by
  refine ⟨?_, (j3.alloc j3.size _).trans ⟨hg.os, hg.tape, hg.output, hg.size, fun i hi => hg.block i (by have := j3.size; simp; omega) (own_far j1 hi)⟩⟩
  rw [strs_append, show strs [toL X] = [.string X] by unfold Texts.strs; simp [ofL_toL]]
  simpa using hown
def PB (i : Nat) : ByteArray := ⟨#[47, 112]⟩ ++ ofL (decN i)
theorem pb_text (i : Nat) : toL (PB i) = pathL i := by unfold PB; rw [toL_append, toL_ofL]; rfl
theorem written_item (size : Int) (hs : -9223372036854775808 ≤ size ∧ size ≤ 9223372036854775807) (i : Nat) (hi : i < 1000) (b : List UInt8) (hb : b.length ≤ 500) (z : Int) (hz : z = sizeAt size i) (W : World) :
    Calls Tryz.prog 6 #[.string ⟨#[80, 79, 83, 84]⟩, .string (⟨#[47, 112]⟩ ++ ofL (decN i)), .string (ofL b), .int .i64 z] W fun e w' => e = .returned (.string (ofL (itemL size i b))) ∧ Below W.heap.size W w' := by
  have hl : (decN i).length ≤ 3 := decN_len 2 i (by omega)
  have hp : (⟨#[47, 112]⟩ ++ ofL (decN i) : ByteArray).size ≤ 2000 := by rw [ByteArray.size_append, ofL_size]; have : (⟨#[47, 112]⟩ : ByteArray).size = 2 := rfl; omega
  subst hz
  have hz2 : -9223372036854775808 ≤ sizeAt size i ∧ sizeAt size i ≤ 9223372036854775807 := by unfold sizeAt; split <;> omega
  have h4 : (⟨#[80, 79, 83, 84]⟩ : ByteArray).size ≤ 100 := by decide
  have := written_any ⟨#[80, 79, 83, 84]⟩ (⟨#[47, 112]⟩ ++ ofL (decN i)) (ofL b) (sizeAt size i) hz2 h4 hp (by rw [ofL_size]; omega) W
  have ht : toL (⟨#[47, 112]⟩ ++ ofL (decN i)) = pathL i := pb_text i
  have he : itemL size i b = wr11 (toL ⟨#[80, 79, 83, 84]⟩) (pathL i) b (sizeAt size i) := rfl
  rw [ht, toL_ofL, ← he] at this
  exact this
set_option maxHeartbeats 6400000 in
theorem walkIn (v : Value) (T : List (List UInt8)) (size cut : Int) (hs : -9223372036854775808 ≤ size ∧ size ≤ 9223372036854775807) (hc : -9223372036854775808 ≤ cut ∧ cut ≤ 9223372036854775807) (w : World) (hm : MaxInt w) (hV : Texts w v T) :
    Calls Tryz.prog 3 #[v, .int .i64 size, .int .i64 cut] w fun e w' => e = .returned (.bool true) ∧ Below w.heap.size w w' := by
  have HA := Lib.hid (anchor_any w hm)
  replace hm := Lib.hid hm
  obtain ⟨p, cap, rfl, hle, hcl⟩ := hV
  replace hcl := Lib.hid hcl
  by_cases h1 : cut < 1
  · go_enter Tryz.func3, Tryz.ntmps3
    go_wp2_with fail
    refine HA.out.mono ?_
    rintro e w1 ⟨rfl, hb1⟩
    go_wp2_with fail
    go_ret
    exact ⟨rfl, hb1⟩
  by_cases h2 : 40 < T.length
  · have h2i : (40 : Int) < (T.length : Int) := by omega
    go_enter Tryz.func3, Tryz.ntmps3
    go_wp2_with fail
    refine HA.out.mono ?_
    rintro e w1 ⟨rfl, hb1⟩
    go_wp2_with fail
    go_ret
    exact ⟨rfl, hb1⟩
  have h2i : ¬ (40 : Int) < (T.length : Int) := by omega
  go_enter Tryz.func3, Tryz.ntmps3
  go_wp2_with fail
  refine HA.out.mono ?_
  rintro e w1 ⟨rfl, hb1⟩
  have HB := Lib.hid hb1
  clear HA hb1
  go_wp2_with fail
  have HI0 : Hid (toL (⟨#[]⟩ : ByteArray) = many size 0 (T.take 0) ∧ (⟨#[]⟩ : ByteArray).size ≤ 0 * 14000 ∧ (∀ j (h : j < T.length), j < 0 → T[j].length ≤ 500) ∧ Below w.heap.size w w1) := Lib.hid ⟨rfl, Nat.le_refl _, fun _ _ h => absurd h (Nat.not_lt_zero _), HB.out⟩
  clear HB
  go_loopw [7, 30] (fun s i wr => ∃ (k : Nat) (S : ByteArray), k ≤ T.length ∧ i = .int .i64 k ∧ s = .string S ∧ Hid (toL S = many size 0 (T.take k) ∧ S.size ≤ k * 14000 ∧ (∀ j (h : j < T.length), j < k → T[j].length ≤ 500) ∧ Below w.heap.size w wr)) (fun _ i _ => T.length - (intOf i).toNat)
  case atStart => exact ⟨0, _, Nat.zero_le _, rfl, rfl, HI0⟩
  case round =>
    obtain ⟨k, S, hk, rfl, rfl, HI⟩ := hrel
    clear HI0
    by_cases hlt : k < T.length
    · have hki : (k : Int) < (T.length : Int) := by omega
      obtain ⟨gp, o, rfl, hgl, hcell⟩ := hcl.out (by omega)
      obtain ⟨i1, i2, i3, i4⟩ := HI.out
      have d1 := (i4.cell (p := ⟨gp, o + k, none⟩) hgl).trans (hcell k hlt)
      have hbs : (ofL T[k]).size = T[k].length := ofL_size _
      by_cases hb5 : 500 < (ofL T[k]).size
      · have hbi : (500 : Int) < ((ofL T[k]).size : Int) := by omega
        have HB := Lib.hid i4
        generalize ofL T[k] = B at *
        clear HI i1 i2 i3 i4 hcell hbs
        go_wp2_with fail
        go_ret
        exact ⟨rfl, HB.out⟩
      · have hbi : ¬ (500 : Int) < ((ofL T[k]).size : Int) := by omega
        have HD := Lib.hid (digits_any k (by omega))
        have HW := Lib.hid (fun z hz => written_item size hs k (by omega) T[k] (by omega) z hz)
        have hil := item_len size (i := k) (by omega) (b := T[k]) (by omega)
        have hdl : (ofL (decN k)).size ≤ 3 := by rw [ofL_size]; exact decN_len 2 k (by omega)
        have hta : T.take (k + 1) = T.take k ++ [T[k]] := by rw [List.take_add_one, List.getElem?_eq_getElem hlt]; rfl
        have HN : Hid (∀ wz, Below wr.heap.size wr wz → Hid (toL (S ++ ofL (itemL size k T[k])) = many size 0 (T.take (k + 1)) ∧ (S ++ ofL (itemL size k T[k])).size ≤ (k + 1) * 14000 ∧ (∀ j (h : j < T.length), j < k + 1 → T[j].length ≤ 500) ∧ Below w.heap.size w wz)) := Lib.hid (fun wz hz => Lib.hid ⟨by
          rw [toL_append, toL_ofL, i1, hta, many_snoc, List.length_take, show 0 + min k T.length = k by omega], by rw [ByteArray.size_append, ofL_size]; omega, fun j h hj => by
          by_cases e : j = k
          · subst e; omega
          · exact i3 j h (by omega), below_chain i4 hz⟩)
        have hsl : (ofL (itemL size k T[k])).size ≤ 14000 := by rw [ofL_size]; exact hil
        generalize ofL (itemL size k T[k]) = IT at *
        generalize ofL T[k] = B at *
        have q1 : 2 + (ofL (decN k)).size ≤ 9223372036854775807 := by omega
        have q2 : S.size + IT.size ≤ 9223372036854775807 := by omega
        rcases Nat.mod_two_eq_zero_or_one k with h | h
        · have hm : Int.tmod (k : Int) 2 = 0 := (show Int.tmod (k : Int) 2 = ((k % 2 : Nat) : Int) from rfl).trans (by rw [h]; rfl)
          have HW2 := Lib.hid (HW.out size (by unfold sizeAt; rw [if_neg (by omega)]))
          clear HI i1 i2 i3 i4 hcell hbs HW hta hil hsl
          go_wp2_with fail
          refine (HD.out wr).mono ?_
          rintro e w2 ⟨rfl, hb2⟩
          clear HD
          go_wp2_with fail
          refine (HW2.out w2).mono ?_
          rintro e w3 ⟨rfl, hb3⟩
          have HN3 := HN.out w3 (below_chain hb2 hb3)
          clear HW2 HN hb2 hb3
          go_wp2_with fail
          refine ⟨⟨k + 1, _, by omega, by go_num, rfl, HN3⟩, ?_⟩
          simp [intOf]; omega
        · have hm : Int.tmod (k : Int) 2 = 1 := (show Int.tmod (k : Int) 2 = ((k % 2 : Nat) : Int) from rfl).trans (by rw [h]; rfl)
          have HW2 := Lib.hid (HW.out 0 (by unfold sizeAt; rw [if_pos (by omega)]))
          clear HI i1 i2 i3 i4 hcell hbs HW hta hil hsl
          go_wp2_with fail
          refine (HD.out wr).mono ?_
          rintro e w2 ⟨rfl, hb2⟩
          clear HD
          go_wp2_with fail
          refine (HW2.out w2).mono ?_
          rintro e w3 ⟨rfl, hb3⟩
          have HN3 := HN.out w3 (below_chain hb2 hb3)
          clear HW2 HN hb2 hb3
          go_wp2_with fail
          refine ⟨⟨k + 1, _, by omega, by go_num, rfl, HN3⟩, ?_⟩
          simp [intOf]; omega
    · have hki : ¬ (k : Int) < (T.length : Int) := by omega
      have hkT : T.take k = T := List.take_of_length_le (by omega)
      obtain ⟨i1, i2, i3, i4⟩ := HI.out
      rw [hkT] at i1
      have HA1 : Hid (allOf 1000 (toL S) = (manyQ size 0 T, 0, [])) := Lib.hid (by
        rw [i1]
        refine many_all size T 0 (by omega) (fun b hb => ?_)
        obtain ⟨j, hj, rfl⟩ := List.mem_iff_getElem.1 hb
        have := i3 j hj (by omega)
        omega)
      have hSz : S.size ≤ 560000 := by omega
      have HB := Lib.hid i4
      clear HI i1 i2 i3 i4 hkT
      obtain ⟨c, rfl⟩ : ∃ c : Nat, cut = (c : Int) := ⟨cut.toNat, by omega⟩
      obtain ⟨i0, hi, hz0, hz1, hz2⟩ := info_parts infoS
      go_wp2_with fail
      · go_ret
        exact ⟨rfl, HB.out⟩
      have HJ0 : Hid (wr.ownsRow w.heap.size 9 1 (.slice none 0 0) 0 (strs []) ∧ ([] : List (List UInt8)).flatten ++ toL S = toL S ∧ Below w.heap.size w wr) := Lib.hid ⟨⟨rfl, .inl ⟨rfl, rfl⟩⟩, rfl, HB.out⟩
      clear HB
      go_loopw [11, 12] (fun v r wr => ∃ (R : ByteArray) (PL : List (List UInt8)) (v0 : Value), v = v0 ∧ r = .string R ∧ R.size + PL.length ≤ S.size ∧ Hid (wr.ownsRow w.heap.size 9 1 v0 PL.length (strs PL) ∧ PL.flatten ++ toL R = toL S ∧ Below w.heap.size w wr)) (fun _ r _ => sizeV r)
      case atStart => exact ⟨S, [], _, rfl, rfl, by simp, HJ0⟩
      case round =>
        obtain ⟨R, PL, v0, rfl, rfl, hRS, HI⟩ := hrel
        clear HJ0
        by_cases h0 : R.size = 0
        · have hR : R = ⟨#[]⟩ := toL_inj (by
            have : (toL R).length = 0 := by rw [toL_length]; exact h0
            rw [List.length_eq_zero_iff.1 this])
          subst hR
          obtain ⟨j1, j2, j3⟩ := HI.out
          rw [show toL (⟨#[]⟩ : ByteArray) = [] from rfl, List.append_nil] at j2
          have hA2 : allOf 1000 PL.flatten = (manyQ size 0 T, 0, []) := by rw [j2]; exact HA1.out
          have HG := Lib.hid (read_any 1000 _ PL (by unfold ChObj.InR; decide) wr (hm.out.below j3) (texts_of j1) (by rw [j2, toL_length]; omega) (fun k => by
            have h := count_le 1000 (PL.take k).flatten (PL.drop k).flatten
            rw [← List.flatten_append, List.take_append_drop, hA2] at h
            have h2 := manyQ_len size T 0
            dsimp only at h
            omega))
          rw [hA2] at HG
          have HB := Lib.hid j3
          clear HI j1 j2 j3 hA2 h0 hi hz0 hz1 hz2 hRS HA1
          go_wp2_with fail
          refine HG.out.mono ?_
          rintro e w5 ⟨v5, P, rfl, hG, hP⟩
          have HB5 := Lib.hid (below_chain HB.out hG.below)
          have hPl : P.length = T.length := by have := congrArg List.length hP; rw [List.length_map] at this; rw [this]; exact manyQ_len size T 0
          obtain ⟨p5, c5, rfl, _⟩ := row_form2 hG.row
          have hpl : ((P.length : Nat) : Int) = (T.length : Int) := by omega
          have HQ : Hid (∀ (k : Nat) (h : k < P.length) (h2 : k < T.length), P[k].1 = itemQ size k T[k]) := Lib.hid (fun k h h2 => by
            have h3 := manyQ_at size T 0 k h2
            rw [← show P.map (·.1) = manyQ size 0 T from hP, List.getElem?_map, List.getElem?_eq_getElem h, Nat.zero_add] at h3
            exact Option.some.inj h3)
          replace hG := Lib.hid hG
          clear HG HB hP
          dsimp only
          go_wp2_with fail
          rw [← hPl]
          have hp40 : P.length ≤ 40 := by omega
          clear hpl
          replace hPl := Lib.hid hPl
          go_loopw [93] (fun i wr => ∃ k : Nat, k ≤ P.length ∧ i = .int .i64 k ∧ Hid (Below w5.heap.size w5 wr)) (fun i _ => P.length - (intOf i).toNat)
          case atStart => exact ⟨0, Nat.zero_le _, rfl, Lib.hid (Below.refl _ _)⟩
          case round =>
            obtain ⟨k3, hk3, rfl, HI⟩ := hrel
            by_cases hlt3 : k3 < P.length
            · have hki3 : (k3 : Int) < (P.length : Int) := by omega
              have hk3T : k3 < T.length := by have := hPl.out; omega
              obtain ⟨gv, capv, hv, hgv, hml, hld⟩ := row_load (row_below hG.out.row HI.out) (by omega)
              injection hv with e1 e2 e3
              subst e1
              subst e3
              have hload := Lib.hid (hld k3 hlt3)
              have hli := hG.out.lists P[k3] (List.getElem_mem hlt3)
              have hqq := HQ.out k3 hlt3 (by omega)
              obtain ⟨q, hq⟩ : ∃ q, q = P[k3].1 := ⟨_, rfl⟩
              obtain ⟨l, hl⟩ : ∃ l, l = P[k3].2 := ⟨_, rfl⟩
              rw [← hl] at hli
              rw [← hq] at hqq
              rw [← hq, ← hl] at hload
              have hl1 := row_one hli.1
              obtain ⟨f1, f2, f3, f4⟩ := itemQ_say size k3 T[k3]
              rw [← hqq] at f1 f2 f3 f4
              obtain ⟨gp, o, rfl, hgl, hcell⟩ := hcl.out (by omega)
              have d1 := (((HB5.out.trans (Below.mono HI.out HB5.out.size)).alloc (by have := HB5.out.size; have := HI.out.size; omega) (.cells (qcl q l) RQT)).cell (p := ⟨gp, o + k3, none⟩) hgl).trans (hcell k3 (by omega))
              have hHas := Has.new wr RQT (qcl q l)
              have c0 : (wr.alloc (.cells (qcl q l) RQT)).cell? ⟨wr.heap.size, 0, none⟩ = some (.string ⟨#[80, 79, 83, 84]⟩) := (hHas.cell 0).trans (by show some (Value.string (ofL q.head.method)) = _; rw [f4]; rfl)
              have c9 : (wr.alloc (.cells (qcl q l) RQT)).cell? ⟨wr.heap.size, 9, none⟩ = some (.string (⟨#[47, 112]⟩ ++ ofL (decN k3))) := (hHas.cell 9).trans (by show some (Value.string (ofL q.target.path)) = _; rw [f3, ← pb_text, ofL_toL]; rfl)
              have c14 : (wr.alloc (.cells (qcl q l) RQT)).cell? ⟨wr.heap.size, 14, none⟩ = some (.string (ofL T[k3])) := (hHas.cell 14).trans (by show some (Value.string (ofL q.body)) = _; rw [f1])
              have c15 : (wr.alloc (.cells (qcl q l) RQT)).cell? ⟨wr.heap.size, 15, none⟩ = some (.bool true) := (hHas.cell 15).trans (by show some (Value.bool q.sized) = _; rw [f2])
              have HD := Lib.hid (digits_any k3 (by omega))
              have hdl : (ofL (decN k3)).size ≤ 3 := by rw [ofL_size]; exact decN_len 2 k3 (by omega)
              have q1 : 2 + (ofL (decN k3)).size ≤ 9223372036854775807 := by omega
              have hPm : P.length ≤ 9223372036854775807 := by omega
              have HB6 := Lib.hid (HI.out.alloc HI.out.size (.cells (qcl q l) RQT))
              generalize ofL T[k3] = BT at *
              generalize ofL (decN k3) = DK at *
              clear hld hq hl e2 hml f1 f2 f3 f4 hqq hHas hli hcell HI
              go_wp2_with (first
                | (refine wpList_loadq rfl (.tmp 96) rfl ⟨gv, k3 * 18, none⟩ rfl q l hload.out ?_)
                | (refine wpList_putq rfl (.tmp 18) (.tmp 97) rfl _ rfl q l hl1 rfl rfl ?_))
              have hB0 : wr.heap.size < (wr.alloc (.cells (qcl q l) RQT)).heap.size := by simp
              have hG0 : gp < (wr.alloc (.cells (qcl q l) RQT)).heap.size := by have := HB5.out.size; have := HB6.out.size; omega
              have HB7 := Lib.hid HB6.out.drew
              generalize wr.alloc (.cells (qcl q l) RQT) = W1 at *
              generalize wr.heap.size = B0 at *
              have C1 : W1.cell? ⟨B0, 0, none⟩ = some (.string ⟨#[80, 79, 83, 84]⟩) ∧ W1.cell? ⟨B0, 9, none⟩ = some (.string (⟨#[47, 112]⟩ ++ DK)) ∧ W1.cell? ⟨B0, 14, none⟩ = some (.string BT) ∧ W1.cell? ⟨B0, 15, none⟩ = some (.bool true) ∧ W1.cell? ⟨gp, o + k3, none⟩ = some (.string BT) := ⟨c0, c9, c14, c15, d1⟩
              have sv1 : ¬ (9223372036854775807 < 2 + DK.size) := by omega
              have sv2 : ¬ (2 + DK.size > 9223372036854775807) := by omega
              have sv3 : ¬ (9223372036854775807 < (⟨#[47, 112]⟩ : ByteArray).size + DK.size) := by show ¬ (9223372036854775807 < 2 + DK.size); omega
              have sv4 : ¬ ((⟨#[47, 112]⟩ : ByteArray).size + DK.size > 9223372036854775807) := by show ¬ (9223372036854775807 < 2 + DK.size); omega
              clear hload HB6 hl1 hki3 HQ
              go_wp2_with fail
              go_region_held3 (fun w' => w'.cell? ⟨B0, 0, none⟩ = some (.string ⟨#[80, 79, 83, 84]⟩) ∧ w'.cell? ⟨B0, 9, none⟩ = some (.string (⟨#[47, 112]⟩ ++ DK)) ∧ w'.cell? ⟨B0, 14, none⟩ = some (.string BT) ∧ w'.cell? ⟨B0, 15, none⟩ = some (.bool true) ∧ w'.cell? ⟨gp, o + k3, none⟩ = some (.string BT)) (first | go_keep | exact C2 | exact C1)
                (first
                  | (go_at_call 7; refine (HD.out _).mono ?_; rintro e w7 ⟨rfl, hb7⟩
                     have C2 : w7.cell? ⟨B0, 0, none⟩ = some (.string ⟨#[80, 79, 83, 84]⟩) ∧ w7.cell? ⟨B0, 9, none⟩ = some (.string (⟨#[47, 112]⟩ ++ DK)) ∧ w7.cell? ⟨B0, 14, none⟩ = some (.string BT) ∧ w7.cell? ⟨B0, 15, none⟩ = some (.bool true) ∧ w7.cell? ⟨gp, o + k3, none⟩ = some (.string BT) := ⟨(hb7.cell (p := ⟨B0, 0, none⟩) hB0).trans C1.1, (hb7.cell (p := ⟨B0, 9, none⟩) hB0).trans C1.2.1, (hb7.cell (p := ⟨B0, 14, none⟩) hB0).trans C1.2.2.1, (hb7.cell (p := ⟨B0, 15, none⟩) hB0).trans C1.2.2.2.1, (hb7.cell (p := ⟨gp, o + k3, none⟩) hG0).trans C1.2.2.2.2⟩
                     have e0 := C2.1
                     have e9 := C2.2.1
                     have e14 := C2.2.2.1
                     have e15 := C2.2.2.2.1
                     have ed := C2.2.2.2.2
                     have HB8 := Lib.hid (below_chain HB7.out hb7)
                     clear hb7 HD))
              go_wp2_with fail
              first
                | exact ⟨⟨k3 + 1, by omega, by go_num, HB8⟩, by simp [intOf]; omega⟩
                | (go_roundw; case rel => exact ⟨k3 + 1, by omega, by go_num, HB8⟩; case measure => simp [intOf]; omega)
            · have hki3 : ¬ (k3 : Int) < (P.length : Int) := by omega
              have HE := Lib.hid (below_chain HB5.out HI.out)
              clear HI
              go_wp2_with fail
              go_ret
              exact ⟨rfl, HE.out⟩
        · obtain ⟨n, hn⟩ : ∃ n, n = min c R.size := ⟨_, rfl⟩
          have n1 : 1 ≤ n := by omega
          have n2 : n ≤ R.size := by omega
          have e1 : ¬ R.toList = [] := fun h => by
            rw [ByteArray.toList_eq] at h
            have h2 := toL_length R
            rw [show toL R = [] from h] at h2
            simp at h2
            omega
          have e2 : R.toList.isEmpty = false := by
            cases h : R.toList with
            | nil => exact absurd h e1
            | cons => rfl
          obtain ⟨P, hP⟩ : ∃ P, P = R.extract 0 n := ⟨_, rfl⟩
          obtain ⟨Q, hQ⟩ : ∃ Q, Q = R.extract n R.size := ⟨_, rfl⟩
          have tP : toL P = (toL R).take n := by rw [hP, toL_extract, List.drop_zero]
          have tQ : toL Q = (toL R).drop n := by rw [hQ, toL_extract, List.take_of_length_le (by rw [toL_length]; exact Nat.le_refl _)]
          have sQ : Q.size = R.size - n := by rw [hQ, ByteArray.size_extract]; omega
          obtain ⟨j1, j2, j3⟩ := HI.out
          obtain ⟨pv, cv, rfl, _⟩ := row_form2 j1
          have HN : Hid ((PL ++ [toL P]).flatten ++ toL Q = toL S) := Lib.hid (by
            rw [← j2, List.flatten_append, List.append_assoc]
            congr 1
            rw [tP, tQ]
            simp)
          have hl1 : (PL ++ [toL P]).length = PL.length + 1 := by simp
          have n1i : (0 : Int) ≤ (n : Int) := by omega
          have n2i : (n : Int) ≤ (R.size : Int) := by omega
          have hQR : Q.size < R.size := by omega
          have hQS : Q.size + (PL ++ [toL P]).length ≤ S.size := by omega
          have hb3 := j3.size
          by_cases hkr : (R.size : Int) < (c : Int)
          · have hnR : n = R.size := by omega
            have hPn : P = R := toL_inj (by rw [tP, hnR, List.take_of_length_le (by rw [toL_length]; exact Nat.le_refl _)])
            have hQn : Q = ⟨#[]⟩ := toL_inj (by rw [tQ, hnR, List.drop_of_length_le (by rw [toL_length]; exact Nat.le_refl _)])
            rw [hPn] at HN hQS
            rw [hQn] at HN hQR hQS
            have hmin : min (c : Int) (R.size : Int) = (R.size : Int) := by omega
            clear j2 HI h0 hn tP tQ sQ hP hQ hPn hQn hnR n1 n2 n1i n2i hl1
            go_wp2_with (at_builtin; refine wpList_append_own_at _ rfl (.tmp 63) (.tmp 67) 22 rfl w.heap.size 9 i0 (.string ByteArray.empty) 1 16 Tryz.underlying22 hi hz0 hz1 hz2 rfl (by decide) _ _ _ rfl (j1.alloc _) ⟨wr.heap.size, 0, none⟩ 1 1 [.string R] rfl rfl (cell_one_new _ _ _) (fun x hx => by simp at hx; subst hx; rfl) (by unfold maxLen; omega) (by omega) (by simp; omega) ?_; intro v4 w4 hown4 hg4 _ _; obtain ⟨z1, z2⟩ := piece_put j1 j3 hown4 hg4; have HZ := Lib.hid (And.intro z1 (And.intro HN.out z2)); clear z1 z2 hown4 hg4 j1 j3 HN)
            all_goals
              go_roundw
              case rel => exact ⟨⟨#[]⟩, PL ++ [toL R], _, rfl, rfl, hQS, HZ⟩
              case measure => exact hQR
          · have hkn : c = n := by omega
            subst hkn
            replace hP := hP.symm
            replace hQ := hQ.symm
            have hmin : min (c : Int) (R.size : Int) = (c : Int) := by omega
            clear j2 HI h0 hn tP tQ sQ hl1
            go_wp2_with (at_builtin; refine wpList_append_own_at _ rfl (.tmp 63) (.tmp 67) 22 rfl w.heap.size 9 i0 (.string ByteArray.empty) 1 16 Tryz.underlying22 hi hz0 hz1 hz2 rfl (by decide) _ _ _ rfl (j1.alloc _) ⟨wr.heap.size, 0, none⟩ 1 1 [.string P] rfl rfl (cell_one_new _ _ _) (fun x hx => by simp at hx; subst hx; rfl) (by unfold maxLen; omega) (by omega) (by simp; omega) ?_; intro v4 w4 hown4 hg4 _ _; obtain ⟨z1, z2⟩ := piece_put j1 j3 hown4 hg4; have HZ := Lib.hid (And.intro z1 (And.intro HN.out z2)); clear z1 z2 hown4 hg4 j1 j3 HN)
            all_goals
              go_roundw
              case rel => exact ⟨Q, PL ++ [toL P], _, rfl, rfl, hQS, HZ⟩
              case measure => exact hQR
theorem walk {H : Type} {enc : TypeId × Value → H} (W : World) (v : Value) (d : DataW H) (p : List MemPlace) (hv : Value.okWide Tryz.prog W .any W.heap.size 22 v)
    (hd : DataW.Trod enc Tryz.prog W 0 (fun _ => true) true 22 v d p) (_hl : ∀ x ∈ p, x.block < W.heap.size) (hb : (d.weights Tryz.prog 22).all (· ≤ reachBytes) = true) (size : Int) (hs : (Lit.int .i64 size).wf = true) (cut : Int) (hc : (Lit.int .i64 cut).wf = true) (hsh : W.ShapedOpen Tryz.prog) :
    Calls Tryz.prog 3 #[v, .int .i64 size, .int .i64 cut] W fun e w' => e = .returned (.bool true) ∧ Below W.heap.size W w' := by
  have h1 : (decide (IntKind.i64.min ≤ size) && decide (size ≤ IntKind.i64.max)) = true := hs
  have h2 : (decide (IntKind.i64.min ≤ cut) && decide (cut ≤ IntKind.i64.max)) = true := hc
  simp only [Bool.and_eq_true, decide_eq_true_eq] at h1 h2
  obtain ⟨T, hV, _, _⟩ := texts_reach hv hd hb
  exact walkIn v T size cut h1 h2 W (MaxInt.of_shape hsh) hV
end Go.Proofs.YtmlpdhmafmdkcaaGreatDoor.InflowWrittenW
