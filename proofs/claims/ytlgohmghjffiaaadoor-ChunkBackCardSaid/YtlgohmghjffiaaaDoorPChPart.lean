/- Layer 10 of the program: a chunk's bytes, and the builder beside the decoder. -/
import Derived.Test.YtlgohmghjffiaaaDoorPChLine
import Derived.Test.YtlgohmghjffiaaaDoorPBuildT
namespace Go.Proofs.YtlgohmghjffiaaaDoor.PChPart
open Go.ChangeShapes Go.WideShapes Go.ChangeAt Go.RowKit Bytes LexPure LexNum HeadPure ChunkPure ChunkText ChObj Mem Step Ret Rows1 PChLine PBuildT
set_option maxRecDepth 20000
theorem run_part : ∀ (l : List UInt8) (m : M) (k : Nat), m.ph = .data k → l.length < k → run m l = (⟨m.most, m.size + l.length, .data (k - l.length), m.line, m.cr⟩, l, l.length)
  | [], m, k, hp, _ => by
    show (m, [], 0) = ((⟨m.most, m.size, .data k, m.line, m.cr⟩ : M), [], 0)
    rw [← hp]
  | c :: l, m, k, hp, hl => by
    rw [List.length_cons] at hl
    have hs : stop m = false := by unfold stop; rw [hp]
    rw [run_cons hs]
    have h1 : bstep m c = (⟨m.most, m.size + 1, .data (k - 1), m.line, m.cr⟩, [c]) := by
      unfold bstep
      rw [hp]
      show ((⟨m.most, m.size + 1, if k ≤ 1 then Ph.after else Ph.data (k - 1), m.line, m.cr⟩ : M), [c]) = _
      rw [if_neg (by omega)]
    rw [h1]
    have ih := run_part l ⟨m.most, m.size + 1, .data (k - 1), m.line, m.cr⟩ (k - 1) rfl (by omega)
    rw [ih]
    simp only [List.length_cons]
    have e1 : m.size + 1 + l.length = m.size + (l.length + 1) := by omega
    have e2 : k - 1 - l.length = k - (l.length + 1) := by omega
    rw [e1, e2]
    rfl
/-- n bytes of a chunk more -/
def more (m : M) (k n : Nat) : M := ⟨m.most, m.size + n, if n = k then .after else .data (k - n), m.line, m.cr⟩
theorem run_more {m : M} {k : Nat} {l : List UInt8} (hp : m.ph = .data k) (hl : l.length ≤ k) (h0 : l ≠ []) : run m l = (more m k l.length, l, l.length) := by
  unfold more
  by_cases h : l.length = k
  · rw [if_pos h]
    exact run_data l m (by rw [h]; exact hp) h0
  · rw [if_neg h]
    exact run_part l m k hp (by omega)
set_option maxHeartbeats 1600000 in
/-- countBytes -/
theorem pcount_any {w : World} {F : Nat → Prop} {g : Nat} {r : Raw} {v : Value} {m : M} {k n : Nat} (h : Cod w F g m.most r v) (hr : Rel r m) (href : r.ref = 0) (hp : m.ph = .data k) (hn : n ≤ k) (hk : k < 4294967296) (hz : (m.size : Int) + n ≤ 9223372036854775807) :
    Calls Tryd.prog 16 #[.pointer (some ⟨g, 0, none⟩), .int .i64 n] w fun e w' => e = .returned (.tuple #[]) ∧ ∃ r', CS w F w' F g m.most r' v ∧ Out r' (more m k n) := by
  have d1 := h.c1
  have d3 := h.c3
  have d2 := h.c2
  have z1 := h.free 1
  have z2 := h.free 2
  have z3 := h.free 3
  rw [hr.size] at d1
  rw [hr.left k hp] at d3
  have ht : r.trail = 0 := hr.none (by rw [hr.next, hp]; show (1 : Int) ≤ 2; decide)
  have h1 := ((CS.start h).set 1 (.int .i64 ((m.size : Int) + n)) { r with size := (m.size : Int) + n } rfl rfl).set 3 (.int .i64 ((k : Int) - n)) { r with size := (m.size : Int) + n, left := (k : Int) - n } rfl rfl
  have b1 : (0 : Int) ≤ (m.size : Int) := by omega
  have b2 : (m.size : Int) + n ≤ 9223372036854775807 := by omega
  have b3 : (0 : Int) ≤ (n : Int) := by omega
  have b4 : (n : Int) ≤ (k : Int) := by omega
  have b5 : (k : Int) ≤ 4294967295 := by omega
  by_cases he : n = k
  · subst he
    rw [Int.sub_self] at h1
    have HP : Hid (∃ r', CS w F ((((w.setCell ⟨g, 1, none⟩ (.int .i64 ((m.size : Int) + n))).setCell ⟨g, 3, none⟩ (.int .i64 0)).setCell ⟨g, 2, none⟩ (.int .i64 2))) F g m.most r' v ∧ Out r' (more m n n)) := Lib.hid
      ⟨_, h1.set 2 (.int .i64 2) { r with size := (m.size : Int) + n, left := 0, next := 2 } rfl rfl, href, fun _ => by
        unfold more
        rw [if_pos rfl]
        exact ⟨by show (m.size : Int) + n = ((m.size + n : Nat) : Int); omega, rfl, fun n hn => (by cases hn), hr.line, hr.part, hr.cr, fun n hn => (by cases hn), fun _ => ht⟩⟩
    clear h hr h1
    go_enter Tryd.func16, Tryd.ntmps16
    go_wp2_with fail
    go_end0
    exact ⟨rfl, HP.out⟩
  · have hei : ((k : Int) - (n : Int) == 0) = false := beq_eq_false_iff_ne.2 (by omega)
    replace hk : k ≤ 4294967295 := by omega
    have HP : Hid (∃ r', CS w F (((w.setCell ⟨g, 1, none⟩ (.int .i64 ((m.size : Int) + n))).setCell ⟨g, 3, none⟩ (.int .i64 ((k : Int) - n)))) F g m.most r' v ∧ Out r' (more m k n)) := Lib.hid
      ⟨_, h1, href, fun _ => by
        unfold more
        rw [if_neg he]
        exact ⟨by show (m.size : Int) + n = ((m.size + n : Nat) : Int); omega, by show r.next = 1; rw [hr.next, hp]; rfl, fun j hj => (by cases hj; show (k : Int) - n = ((k - n : Nat) : Int); omega), hr.line, hr.part, hr.cr, fun n hn => (by cases hn), fun _ => ht⟩⟩
    clear h hr h1
    go_enter Tryd.func16, Tryd.ntmps16
    go_wp2_with fail
    go_end0
    exact ⟨rfl, HP.out⟩
/-! ### the builder beside it -/
/-- the builder in block b holds acc; none of its blocks is F's -/
structure Bl (B b : Nat) (acc : List UInt8) (F : Nat → Prop) (w : World) : Prop where
  is : ∃ p v, B ≤ b ∧ w.heap[b]? = some (.cells #[p, v] 42 (0, 0)) ∧ w.ownsRow B 5 1 v (Lib.byteCells acc).length (Lib.byteCells acc) ∧ v.ownBlock ≠ some b ∧ (p = .pointer none ∨ p = .pointer (some ⟨b, 0, none⟩)) ∧ ¬ F b ∧ ∀ j, v.ownBlock = some j → ¬ F j
  size : B ≤ w.heap.size
theorem Bl.builder {B b : Nat} {acc : List UInt8} {F : Nat → Prop} {w : World} (h : Bl B b acc F w) : Lib.IsBuilder 42 5 B b (Lib.byteCells acc) w := by
  obtain ⟨p, v, h1, h2, h3, h4, h5, _⟩ := h.is
  rcases h5 with rfl | rfl
  · exact .inl ⟨h1, v, h2, h3, h4⟩
  · exact .inr ⟨h1, v, h2, h3, h4⟩
theorem Bl.start (w : World) {F : Nat → Prop} (hF : ∀ k, F k → k < w.heap.size) : Bl w.heap.size w.heap.size [] F (w.alloc (.cells #[.pointer none, .slice none 0 0] 42)) :=
  ⟨⟨.pointer none, .slice none 0 0, Nat.le_refl _, heap_alloc_new w _, World.ownsRow_nil _ _ _ _, by simp [Value.ownBlock], .inl rfl, fun h => by have := hF _ h; omega, fun j hj => by simp [Value.ownBlock] at hj⟩, by simp⟩
theorem Bl.step {B b : Nat} {acc : List UInt8} {F F' : Nat → Prop} {w w' : World} (h : Bl B b acc F w) (hs : Step w w' F F') : Bl B b acc F' w' := by
  obtain ⟨p, v, h1, h2, h3, h4, h5, h6, h7⟩ := h.is
  have hlt : b < w.heap.size := (Array.getElem?_eq_some_iff.1 h2).1
  refine ⟨⟨p, v, h1, by rw [hs.block b hlt h6]; exact h2, hs.row h3 h7, h4, h5, fun h => ?_, fun j hj h => ?_⟩, Nat.le_trans h.size hs.size⟩
  · rcases hs.grow b h with q | q
    · exact h6 q
    · omega
  · rcases hs.grow j h with q | q
    · exact h7 j hj q
    · have := row_lt h3 hj
      omega
theorem Bl.less {B b : Nat} {acc : List UInt8} {F G : Nat → Prop} {w : World} (h : Bl B b acc F w) (hG : ∀ k, G k → F k) : Bl B b acc G w := by
  obtain ⟨p, v, h1, h2, h3, h4, h5, h6, h7⟩ := h.is
  exact ⟨⟨p, v, h1, h2, h3, h4, h5, fun q => h6 (hG b q), fun j hj q => h7 j hj (hG j q)⟩, h.size⟩
/-- a write: the decoder is one block below -/
theorem Bl.write {B b g : Nat} {acc : List UInt8} {F : Nat → Prop} {w : World} (h : Bl B b acc F w) (hg : g < B) (s : ByteArray) (hl : acc.length + s.size ≤ 140737488355328) :
    Calls Tryd.prog 15 #[.pointer (some ⟨b, 0, none⟩), .string s] w fun e w' => e = .returned (.tuple #[.int .i64 s.size, .nilIface]) ∧ Bl B b (acc ++ toL s) (fun k => k = g) w' ∧ Below B w w' := by
  refine (Any.Builder_WriteString Tryd.lays166 extra166 B b _ s w h.builder (by rw [Lib.byteCells_length]; exact hl) h.size).mono ?_
  rintro e w' ⟨rfl, h1, h2⟩
  refine ⟨rfl, ?_, h2⟩
  obtain ⟨q1, v, q2, q3, q4⟩ := h1
  refine ⟨⟨_, v, q1, q2, ?_, q4, .inr rfl, fun e => by omega, fun j hj e => ?_⟩, Nat.le_trans h.size h2.size⟩
  · rw [Lib.byteCells_append]
    exact q3
  · have := (q3.lt j hj).1
    omega
theorem Bl.out {B b : Nat} {acc : List UInt8} {F : Nat → Prop} {w : World} (h : Bl B b acc F w) :
    Calls Tryd.prog 18 #[.pointer (some ⟨b, 0, none⟩)] w fun e w' => e = .returned (.string (ofL acc)) ∧ Below B w w' :=
  Any.Builder_String_any Tryd.lays169 extra169 B b acc w h.builder h.size
/-- what lies from the call's first new block on may turn, while there is no line -/
theorem CS.write {w W W' : World} {F F' : Nat → Prop} {g : Nat} {most : Int} {r : Raw} {v : Value} (h : CS w F W F' g most r v) (hl : r.line = []) (hg : g < w.heap.size) (hb : Below w.heap.size W W') : CS w F W' (fun k => k = g) g most r v := by
  have hn := h.cod.nil hl
  subst hn
  refine ⟨h.cod.alone.far (G := fun k => w.heap.size ≤ k) (G' := fun k => w.heap.size ≤ k) ⟨hb.os, hb.tape, hb.output, hb.size, fun k hk hn => hb.block k (by omega), fun _ h => .inl h⟩ (fun k hk hn => by omega), ?_⟩
  exact (h.step.less (G := fun k => k = g) (fun k hk => by rw [hk]; exact h.cod.mine)).beyond (G := fun k => w.heap.size ≤ k) (G' := fun k => w.heap.size ≤ k) ⟨hb.os, hb.tape, hb.output, hb.size, fun k hk hn => hb.block k (by omega), fun _ h => .inl h⟩ (fun j hj => hj)
end Go.Proofs.YtlgohmghjffiaaaDoor.PChPart
