/- Texts of this seat, one behind another: L12Read, L12Told, L12Anchor, DecN, L12Dig, LawCard. -/
import Derived.Outline
import Derived.LoopTactic
import Derived.Handy
import Derived.Lib.Hide
import Derived.Below
import Derived.Deep.RegionWith
import Derived.Deep.RegionHeld3
import Derived.IntWalk
import Derived.Test.YtggmafmebocoaaaGreatDoorCards
import Derived.Test.YtggmafmebocoaaaGreatDoorTie
import Derived.Deep.DeepHandedRow
import Derived.Lay
import Derived.SevenTiedAt
import Derived.Test.YtggmafmebocoaaaGreatDoorA3
import Derived.Test.YtggmafmebocoaaaGreatDoorC1
import Derived.Test.YtggmafmebocoaaaGreatDoorA1
/- Layer 12's law: a reader that a law holds. -/
namespace Go.Proofs.YtggmafmebocoaaaGreatDoor.L12Read
open Go.ChangeShapes Go.WideShapes Go.ChangeAt Go.RowKit Bytes LexPure Ret FieldsPure HeadPure OutPure OutBox OutObj POutUse POutOpen OutflowObj PLib Mem Step Texts
set_option maxRecDepth 100000
set_option linter.unusedVariables false
set_option linter.unusedSimpArgs false
/-- behind w a reader has been made: it stands at s -/
structure OB (w W : World) (g : Nat) (meth : ByteArray) (s : St) (F : Nat → Prop) : Prop where
  below : Below w.heap.size w W
  rdr : Rdr W F g meth s
  lo : ∀ k, F k → w.heap.size ≤ k
def OF (w W : World) (g : Nat) (meth : ByteArray) (s : St) : Prop := ∃ F, OB w W g meth s F
section
variable {w W W' : World} {g : Nat} {meth : ByteArray} {s s' : St} {F F' : Nat → Prop}
theorem OB.turn (h : OB w W g meth s F) (hr : Rdr W' F' g meth s') (hs : Step W W' F F') : OB w W' g meth s' F' :=
  ⟨h.below.trans (hs.below h.below.size h.lo), hr, fun k hk => by
    rcases hs.grow k hk with y | y
    · exact h.lo k y
    · exact Nat.le_trans h.below.size y.1⟩
theorem OB.call (h : OB w W g meth s F) (hb : Below W.heap.size W W') : OB w W' g meth s F := h.turn (h.rdr.below hb) (Step.of_below hb F)
theorem OF.call (h : OF w W g meth s) (hb : Below W.heap.size W W') : OF w W' g meth s := by
  obtain ⟨F, h⟩ := h
  exact ⟨F, h.call hb⟩
theorem OF.below (h : OF w W g meth s) : Below w.heap.size w W := by
  obtain ⟨F, h⟩ := h
  exact h.below
theorem OF.alloc (h : OF w W g meth s) (o : Obj) : OF w (W.alloc o) g meth s := h.call ((Below.refl _ _).alloc (Nat.le_refl _) o)
theorem OF.drewN (h : OF w W g meth s) (n : Nat) : OF w (W.drewN n) g meth s := h.call ⟨rfl, rfl, rfl, Nat.le_refl _, fun _ _ => rfl⟩
theorem OF.low (h : OF w W g meth s) : w.heap.size ≤ g := by
  obtain ⟨F, h⟩ := h
  exact h.lo g h.rdr.mine
theorem OF.lt (h : OF w W g meth s) : g < W.heap.size := by
  obtain ⟨F, h⟩ := h
  exact h.rdr.lt g h.rdr.mine
theorem new_any (meth : ByteArray) (hb : Below w.heap.size w W) : Calls Tryz.prog 12 #[.string meth] W fun e W' => ∃ g, e = .returned (.pointer (some ⟨g, 0, none⟩)) ∧ OF w W' g meth st0 :=
  (pnew12 meth W).mono (fun e W' ⟨⟨g, F, x1, x2, x3⟩, x4⟩ => ⟨g, x1, F, hb.trans (x4.mono hb.size), x2, fun k hk => Nat.le_trans hb.size (x3 k hk)⟩)
theorem OF.feed (h : OF w W g meth s) (x : ByteArray) (hs : s.data.length + x.size ≤ 211106232532992) : Calls Tryz.prog 13 #[.pointer (some ⟨g, 0, none⟩), .string x] W fun e W' => e = .returned (.tuple #[]) ∧ OF w W' g meth (feedO s (toL x)) := by
  obtain ⟨F, h⟩ := h
  exact (pfeed12 F g meth s x hs W h.rdr).mono (fun e W' ⟨x1, F', x2, x3⟩ => ⟨x1, F', h.turn x2 x3⟩)
theorem OF.fin (h : OF w W g meth s) : Calls Tryz.prog 20 #[.pointer (some ⟨g, 0, none⟩)] W fun e W' => e = .returned (.tuple #[]) ∧ OF w W' g meth (endO s) := by
  obtain ⟨F, h⟩ := h
  exact (pend12 F g meth s W h.rdr).mono (fun e W' ⟨x1, x2, x3⟩ => ⟨x1, F, h.turn x2 x3⟩)
theorem OF.rest (h : OF w W g meth s) (hs : s.data.length ≤ 4611686018427387904) : Calls Tryz.prog 19 #[.pointer (some ⟨g, 0, none⟩)] W fun e W' => e = .returned (.string (ofL s.data)) ∧ OF w W' g meth { s with data := [] } := by
  obtain ⟨F, h⟩ := h
  exact (prest12 F g meth s hs W h.rdr).mono (fun e W' ⟨x1, x2, x3⟩ => ⟨x1, F, h.turn x2 x3⟩)
theorem OF.ended (h : OF w W g meth s) : Calls Tryz.prog 16 #[.pointer (some ⟨g, 0, none⟩)] W fun e W' => e = .returned (.bool (doneM s.md)) ∧ W' = W := by
  obtain ⟨F, h⟩ := h
  exact pended12 F g meth s W h.rdr
theorem OF.len (h : OF w W g meth s) (hs : s.data.length ≤ 4611686018427387904) : Calls Tryz.prog 18 #[.pointer (some ⟨g, 0, none⟩)] W fun e W' => e = .returned (.int .i64 (s.data.length : Nat)) ∧ OF w W' g meth s := by
  obtain ⟨F, h⟩ := h
  exact (plen12 F g meth s hs W h.rdr).mono (fun e W' ⟨x1, x2⟩ => ⟨x1, F, h.call x2⟩)
theorem OF.reuse (h : OF w W g meth s) (hs : s.data.length ≤ 4611686018427387904) : Calls Tryz.prog 15 #[.pointer (some ⟨g, 0, none⟩)] W fun e W' => e = .returned (.bool (reuseO s)) ∧ OF w W' g meth s := by
  obtain ⟨F, h⟩ := h
  exact (preuse12 F g meth s hs W h.rdr).mono (fun e W' ⟨x1, x2⟩ => ⟨x1, F, h.call x2⟩)
theorem OF.tunnel (h : OF w W g meth s) : Calls Tryz.prog 17 #[.pointer (some ⟨g, 0, none⟩)] W fun e W' => e = .returned (.bool (s.kind == 5)) ∧ W' = W := by
  obtain ⟨F, h⟩ := h
  exact ptunnel12 F g meth s W h.rdr
/-- what Next answers, by names of its own -/
def Nxt (meth : List UInt8) (s : St) (K : Int) (H : H8) (d : List UInt8) (er : Int) : Prop :=
  K = kindP (nextO meth s).1 ∧ H = headP (nextO meth s).1 ∧ d = dataP (nextO meth s).1 ∧ er = (nextO meth s).2.1
theorem OB.next (h : OB w W g meth s F) (hm : MaxInt w) (hs : s.data.length ≤ 211106232532992) : Calls Tryz.prog 14 #[.pointer (some ⟨g, 0, none⟩)] W fun e W' =>
    ∃ (K : Int) (H : H8) (d : List UInt8) (er : Int) (p0 : Option Addr) (cap : Nat) (F' : Nat → Prop), e = .returned (.tuple #[.agg #[.int .i64 K, .string (ofL H.method), .string (ofL H.target), .int .i64 H.status, .string (ofL H.reason), .int .i64 H.minor, .slice p0 H.fields.length cap, .string (ofL d)], .bool (K != 0), .int .i64 er]) ∧
      Hid (Nxt (toL meth) s K H d er) ∧ Hid (OB w W' g meth (nextO (toL meth) s).2.2 F') ∧ Hid (Step W W' F F') := by
  have hn : ¬ F MAXB := fun x => by
    obtain ⟨m, hc⟩ := hm
    have h1 := World.block_lt_of_cell? _ _ hc
    have h2 := h.lo _ x
    exact absurd h1 (Nat.not_lt.2 h2)
  refine (pnext12 F g meth s hs W h.rdr (hm.below h.below) hn).mono (fun e W' ⟨l, F', x1, x2, x3, x4, x5⟩ => ?_)
  obtain ⟨p0, cap, rfl, _, _⟩ := row_fl x2
  rw [← POutNext.kind_is] at x1
  exact ⟨_, _, _, _, p0, cap, F', x1, Lib.hid ⟨rfl, rfl, rfl, rfl⟩, Lib.hid (h.turn x4 x5), Lib.hid x5⟩
theorem OF.next (h : OF w W g meth s) (hm : MaxInt w) (hs : s.data.length ≤ 211106232532992) : Calls Tryz.prog 14 #[.pointer (some ⟨g, 0, none⟩)] W fun e W' =>
    ∃ (K : Int) (H : H8) (d : List UInt8) (er : Int) (p0 : Option Addr) (cap : Nat), e = .returned (.tuple #[.agg #[.int .i64 K, .string (ofL H.method), .string (ofL H.target), .int .i64 H.status, .string (ofL H.reason), .int .i64 H.minor, .slice p0 H.fields.length cap, .string (ofL d)], .bool (K != 0), .int .i64 er]) ∧
      Hid (Nxt (toL meth) s K H d er) ∧ Hid (OF w W' g meth (nextO (toL meth) s).2.2) := by
  obtain ⟨F, h⟩ := h
  exact (h.next hm hs).mono (fun e W' ⟨K, H, d, er, p0, cap, F', x1, x2, x3, _⟩ => ⟨K, H, d, er, p0, cap, x1, x2, Lib.hid ⟨F', x3.out⟩⟩)
end
end Go.Proofs.YtggmafmebocoaaaGreatDoor.L12Read

/- Layer 12's law: told. -/
namespace Go.Proofs.YtggmafmebocoaaaGreatDoor.L12Told
open Go.ChangeShapes Go.WideShapes Go.ChangeAt Go.RowKit Bytes LexPure Ret FieldsPure HeadPure OutPure OutBox OutObj POutUse L12Read PLib Texts Mem Step
set_option maxRecDepth 100000
set_option linter.unusedVariables false
set_option linter.unusedSimpArgs false
theorem results_tmp5 {fn : Func} {t u v x y : Tmp} (h : fn.results = #[.tmp t, .tmp u, .tmp v, .tmp x, .tmp y]) (tmps : Array Value) (P : Program) (w : World) :
    (results fn tmps).run P w = .ok (.tuple #[tmps.getD t undef, tmps.getD u undef, tmps.getD v undef, tmps.getD x undef, tmps.getD y undef]) w := by
  simp [results, h]
/-- behind k rounds -/
def Qk (meth : List UInt8) (P : List (List UInt8)) (fin : Bool) (k : Nat) : Sum := if k ≤ P.length then fed meth (P.take k) else told meth P fin
theorem qk_zero (meth : List UInt8) (P : List (List UInt8)) (fin : Bool) : Qk meth P fin 0 = (st0, 0, [], 0) := by
  unfold Qk
  rw [if_pos (Nat.zero_le _), List.take_zero]
  rfl
theorem qk_feed (meth : List UInt8) (P : List (List UInt8)) (fin : Bool) (k : Nat) (hk : k < P.length) : Qk meth P fin (k + 1) = turn meth (Qk meth P fin k) P[k] := by
  unfold Qk
  rw [if_pos (by omega), if_pos (by omega), List.take_add_one, List.getElem?_eq_getElem hk]
  unfold fed
  rw [List.foldl_append]
  rfl
theorem qk_last (meth : List UInt8) (P : List (List UInt8)) (fin : Bool) : Qk meth P fin (P.length + 1) = OutPure.drain meth (if fin = true then endO (Qk meth P fin P.length).1 else (Qk meth P fin P.length).1) (Qk meth P fin P.length).2.1 (Qk meth P fin P.length).2.2.1 := by
  unfold Qk
  rw [if_neg (by omega), if_pos (Nat.le_refl _), List.take_length]
  rfl
theorem qk_end (meth : List UInt8) (P : List (List UInt8)) (fin : Bool) (k : Nat) (hk : ¬ k ≤ P.length) : Qk meth P fin k = told meth P fin := by unfold Qk; rw [if_neg hk]
theorem drainO_succ (meth : List UInt8) (k : Nat) (s : St) (c : Int) (b : List UInt8) : drainO meth (k + 1) s c b = match nextO meth s with
    | (.none, e, s') => (s', c, b, e)
    | (.head h, _, s') => drainO meth k s' h.status b
    | (.data d, _, s') => drainO meth k s' c (b ++ d)
    | (.fin, _, s') => drainO meth k s' c b := rfl
/-- one answer more -/
theorem drain_none {meth : List UInt8} {k : Nat} {s : St} {c er : Int} {b d : List UInt8} {K : Int} {H : H8} (hn : Nxt meth s K H d er) (hK : (K != 0) = false) : drainO meth (k + 1) s c b = ((nextO meth s).2.2, c, b, er) := by
  obtain ⟨rfl, rfl, rfl, rfl⟩ := hn
  rw [POutNext.kind_is] at hK
  cases hx : nextO meth s with
  | mk p r =>
    obtain ⟨e, s'⟩ := r
    rw [hx] at hK
    cases p with
    | none => rw [drainO_succ, hx]
    | head h => cases hK
    | data d => cases hK
    | fin => cases hK
theorem drain_some {meth : List UInt8} {k : Nat} {s : St} {c er : Int} {b d : List UInt8} {K : Int} {H : H8} (hn : Nxt meth s K H d er) (hK : (K != 0) = true) :
    rank (nextO meth s).2.2 < rank s ∧ ((K = 1 ∧ drainO meth (k + 1) s c b = drainO meth k (nextO meth s).2.2 H.status b) ∨ (K = 2 ∧ d ≠ [] ∧ drainO meth (k + 1) s c b = drainO meth k (nextO meth s).2.2 c (b ++ d)) ∨ (K = 3 ∧ drainO meth (k + 1) s c b = drainO meth k (nextO meth s).2.2 c b)) := by
  obtain ⟨rfl, rfl, rfl, rfl⟩ := hn
  rw [POutNext.kind_is] at hK
  have hp : isN (nextO meth s).1 = false := by cases h : isN (nextO meth s).1; rfl; rw [h] at hK; cases hK
  refine ⟨rank_next hp, ?_⟩
  have hd := data_some hp
  cases hx : nextO meth s with
  | mk p r =>
    obtain ⟨e, s'⟩ := r
    rw [hx] at hd
    cases p with
    | none => rw [hx] at hK; cases hK
    | head h => exact .inl ⟨rfl, (by rw [drainO_succ, hx]; rfl)⟩
    | data d => exact .inr (.inl ⟨rfl, hd d rfl, (by rw [drainO_succ, hx]; rfl)⟩)
    | fin => exact .inr (.inr ⟨rfl, (by rw [drainO_succ, hx])⟩)
/-- in the inner loop -/
def Inn (w wr : World) (g : Nat) (meth : ByteArray) (R : Sum) (N : Nat) (j : Nat) (s : St) (c : Int) (b : List UInt8) : Prop :=
  OF w wr g meth s ∧ ∃ kk, j + kk = 4 ∧ rank s < kk ∧ drainO (toL meth) kk s c b = R ∧ b.length + s.data.length ≤ N
def Out (w wr : World) (g : Nat) (meth : ByteArray) (P : List (List UInt8)) (fin : Bool) (k : Nat) (s : St) (c : Int) (b : List UInt8) (er : Int) : Prop :=
  OF w wr g meth s ∧ Qk (toL meth) P fin k = (s, c, b, er) ∧ b.length + s.data.length ≤ (P.take k).flatten.length
theorem feed_len (s : St) (x : List UInt8) : (feedO s x).data.length ≤ s.data.length + x.length := by
  unfold feedO
  split
  · omega
  · rw [List.length_append]; exact Nat.le_refl _
set_option maxHeartbeats 6400000 in
theorem told_any (meth : ByteArray) (v : Value) (P : List (List UInt8)) (fin : Bool) (w : World) (hm : MaxInt w) (hV : Texts w v P) (hP : P.length ≤ 8796093022208) (hN : P.flatten.length ≤ 211106232532992) :
    Calls Tryz.prog 9 #[.string meth, v, .bool fin] w fun e w' => ∃ (c : Int) (b : List UInt8) (dn : Bool) (er : Int), e = .returned (.tuple #[.int .i64 c, .string (ofL b), .bool dn, .int .i64 er, .bool true]) ∧
      Hid (∃ st, told (toL meth) P fin = (st, c, b, er) ∧ dn = doneM st.md ∧ b.length ≤ P.flatten.length) ∧ Below w.heap.size w w' := by
  have HN := Lib.hid (new_any (w := w) meth (Below.refl w.heap.size w))
  have hlt : ∀ k, (P.take k).flatten.length ≤ P.flatten.length := fun k => by
    conv => rhs; rw [← List.take_append_drop k P, List.flatten_append, List.length_append]
    omega
  obtain ⟨p, cap, rfl, _, hcell⟩ := hV
  replace hcell := Lib.hid hcell
  replace hm := Lib.hid hm
  replace hlt := Lib.hid hlt
  replace hN := Lib.hid hN
  go_enter Tryz.func9, Tryz.ntmps9
  go_wp2_with fail
  refine HN.out.mono ?_
  rintro e w1 ⟨g, rfl, hO⟩
  have HO : Hid (Out w w1 g meth P fin 0 st0 0 [] 0) := Lib.hid ⟨hO, qk_zero _ _ _, Nat.zero_le _⟩
  clear HN hO
  go_wp2_with fail
  go_loopw [12, 13, 14, 15] (fun c b l i wr => ∃ (k : Nat) (s : St) (cc : Int) (bb : List UInt8) (er : Int), k ≤ P.length + 1 ∧ i = .int .i64 k ∧ c = .int .i64 cc ∧ b = .string (ofL bb) ∧ l = .int .i64 er ∧ Hid (Out w wr g meth P fin k s cc bb er)) (fun _ _ _ i _ => P.length + 1 - (intOf i).toNat)
  case atStart => exact ⟨0, st0, 0, [], 0, Nat.zero_le _, rfl, rfl, rfl, rfl, HO⟩
  case round =>
    obtain ⟨k, s, cc, bb, er, hk, rfl, rfl, rfl, rfl, HI⟩ := hrel
    clear HO
    rcases (show k < P.length ∨ (k = P.length ∧ fin = true) ∨ (k = P.length ∧ fin = false) ∨ k = P.length + 1 by cases fin <;> simp <;> omega) with hlk | ⟨hlk, rfl⟩ | ⟨hlk, rfl⟩ | hlk
    · obtain ⟨gp, o, rfl, hgl, hcl⟩ := hcell.out (by omega)
      have hki : (k : Int) < (P.length : Int) := by omega
      have hki2 : (k : Int) ≤ (P.length : Int) := by omega
      obtain ⟨h1, h2, h3⟩ := HI.out
      have d1 := (h1.below.cell (p := ⟨gp, o + k, none⟩) hgl).trans (hcl k hlk)
      have htk : (P.take (k + 1)).flatten.length = (P.take k).flatten.length + P[k].length := by
        rw [List.take_add_one, List.getElem?_eq_getElem hlk, List.flatten_append, List.length_append]
        simp
      have hN2 := hlt.out (k + 1)
      have hN3 := hN.out
      obtain ⟨x, hx⟩ : ∃ x, x = P[k] := ⟨_, rfl⟩
      have HF : Hid (Calls Tryz.prog 13 #[.pointer (some ⟨g, 0, none⟩), .string (ofL x)] wr fun e w' => e = .returned (.tuple #[]) ∧ Hid (Inn w w' g meth (Qk (toL meth) P fin (k + 1)) ((P.take (k + 1)).flatten.length) 0 (feedO s x) cc bb)) := Lib.hid ((h1.feed (ofL x) (by rw [ofL_size, hx]; omega)).mono (fun e w' ⟨x1, x2⟩ => ⟨x1, Lib.hid (by
        rw [toL_ofL] at x2
        have hfl := feed_len s x
        exact ⟨x2, 4, rfl, by have := rank_le (feedO s x); omega, by rw [qk_feed _ _ _ _ hlk, h2, hx]; rfl, by rw [hx] at hfl; rw [hx]; omega⟩)⟩))
      rw [← hx] at d1
      clear hx
      clear h1 h2 h3 htk hN2 hN3 HI hcl hgl
      go_wp2_with fail
      refine HF.out.mono ?_
      rintro e w2 ⟨rfl, HJ⟩
      clear HF d1
      go_wp2_with fail
      go_loopw [12, 13, 14, 16] (fun c b l n wr => ∃ (j : Nat) (s : St) (cc : Int) (bb : List UInt8) (er : Int), j ≤ 3 ∧ n = .int .i64 j ∧ c = .int .i64 cc ∧ b = .string (ofL bb) ∧ l = .int .i64 er ∧ Hid (Inn w wr g meth (Qk (toL meth) P fin (k + 1)) ((P.take (k + 1)).flatten.length) j s cc bb)) (fun _ _ _ n _ => 4 - (intOf n).toNat)
      case atStart => exact ⟨0, _, _, _, _, by omega, rfl, rfl, rfl, rfl, HJ⟩
      case round =>
        clear HJ
        obtain ⟨j, s2, c2, b2, er2, hj, rfl, rfl, rfl, rfl, HJ⟩ := hrel
        have hN2 := hlt.out (k + 1)
        have hN3 := hN.out
        have hX := Lib.hid (HJ.out.1.next hm.out (by obtain ⟨_, kk, _, _, _, hb⟩ := HJ.out; omega))
        replace hN2 := Lib.hid hN2
        replace hN3 := Lib.hid hN3
        go_wp2_with fail
        refine hX.out.mono ?_
        rintro e w3 ⟨K, H, d, er3, p0, cap0, rfl, hNx, hO⟩
        clear hX
        have HB : Hid ((w3.alloc (.cells #[.int .i64 K, .string (ofL H.method), .string (ofL H.target), .int .i64 H.status, .string (ofL H.reason), .int .i64 H.minor, .slice p0 H.fields.length cap0, .string (ofL d)] PT)).cell? ⟨w3.heap.size, 0, none⟩ = some (.int .i64 K) ∧ (w3.alloc (.cells #[.int .i64 K, .string (ofL H.method), .string (ofL H.target), .int .i64 H.status, .string (ofL H.reason), .int .i64 H.minor, .slice p0 H.fields.length cap0, .string (ofL d)] PT)).cell? ⟨w3.heap.size, 3, none⟩ = some (.int .i64 H.status) ∧ (w3.alloc (.cells #[.int .i64 K, .string (ofL H.method), .string (ofL H.target), .int .i64 H.status, .string (ofL H.reason), .int .i64 H.minor, .slice p0 H.fields.length cap0, .string (ofL d)] PT)).cell? ⟨w3.heap.size, 7, none⟩ = some (.string (ofL d))) := Lib.hid ⟨((Has.new w3 PT _).cell 0).trans rfl, ((Has.new w3 PT _).cell 3).trans rfl, ((Has.new w3 PT _).cell 7).trans rfl⟩
        have HO2 := Lib.hid (hO.out.alloc (.cells #[.int .i64 K, .string (ofL H.method), .string (ofL H.target), .int .i64 H.status, .string (ofL H.reason), .int .i64 H.minor, .slice p0 H.fields.length cap0, .string (ofL d)] PT))
        clear hO
        dsimp only
        iterate 18 go_step
        generalize w3.alloc (.cells #[.int .i64 K, .string (ofL H.method), .string (ofL H.target), .int .i64 H.status, .string (ofL H.reason), .int .i64 H.minor, .slice p0 H.fields.length cap0, .string (ofL d)] PT) = W3 at HB HO2 ⊢
        generalize w3.heap.size = b3 at HB ⊢
        obtain ⟨k0, k3, k7⟩ := HB.out
        clear HB
        cases hK : (K != 0) with
        | false =>
          have hR : Hid (Out w W3 g meth P fin (k + 1) (nextO (toL meth) s2).2.2 c2 b2 er3) := Lib.hid (by
            obtain ⟨_, kk, h1, h2, h3, h4⟩ := HJ.out
            obtain ⟨k', rfl⟩ : ∃ k', kk = k' + 1 := ⟨kk - 1, by omega⟩
            rw [drain_none hNx.out hK] at h3
            have := next_bulk (toL meth) s2
            exact ⟨HO2.out, h3.symm, by omega⟩)
          have hki : (k : Int) + 1 ≤ 8796093022210 := by omega
          clear HJ hNx HO2
          go_wp2_with fail
          exact ⟨⟨k + 1, _, c2, b2, er3, by omega, by simp, rfl, rfl, rfl, hR⟩, by simp [intOf]; omega⟩
        | true =>
          have hj3 : ¬ (30000 : Int) < (j : Int) := by omega
          have hR : Hid ((K = 1 ∧ j ≤ 2 ∧ Inn w W3 g meth (Qk (toL meth) P fin (k + 1)) ((P.take (k + 1)).flatten.length) (j + 1) (nextO (toL meth) s2).2.2 H.status b2) ∨ (K = 2 ∧ j ≤ 2 ∧ d ≠ [] ∧ b2.length + d.length ≤ (P.take (k + 1)).flatten.length ∧ Inn w W3 g meth (Qk (toL meth) P fin (k + 1)) ((P.take (k + 1)).flatten.length) (j + 1) (nextO (toL meth) s2).2.2 c2 (b2 ++ d)) ∨ (K = 3 ∧ j ≤ 2 ∧ Inn w W3 g meth (Qk (toL meth) P fin (k + 1)) ((P.take (k + 1)).flatten.length) (j + 1) (nextO (toL meth) s2).2.2 c2 b2)) := Lib.hid (by
            obtain ⟨_, kk, h1, h2, h3, h4⟩ := HJ.out
            obtain ⟨k', rfl⟩ : ∃ k', kk = k' + 1 := ⟨kk - 1, by omega⟩
            have hbk := next_bulk (toL meth) s2
            obtain ⟨hr, hw⟩ := drain_some (k := k') (c := c2) (b := b2) hNx.out hK
            have hj2 : j ≤ 2 := by omega
            rcases hw with ⟨e1, e2⟩ | ⟨e1, e0, e2⟩ | ⟨e1, e2⟩
            · exact .inl ⟨e1, hj2, HO2.out, k', by omega, by omega, by rw [← e2]; exact h3, by omega⟩
            · have hd : bulkP (nextO (toL meth) s2).1 = d.length := by
                obtain ⟨q1, _, q3, _⟩ := hNx.out
                rw [e1] at q1
                rw [q3]
                cases hp : (nextO (toL meth) s2).1 with
                | none => rw [hp] at q1; cases q1
                | head h => rw [hp] at q1; cases q1
                | fin => rw [hp] at q1; cases q1
                | data x => rfl
              exact .inr (.inl ⟨e1, hj2, e0, by omega, HO2.out, k', by omega, by omega, by rw [← e2]; exact h3, by rw [List.length_append]; omega⟩)
            · exact .inr (.inr ⟨e1, hj2, HO2.out, k', by omega, by omega, by rw [← e2]; exact h3, by omega⟩))
          clear HJ hNx HO2
          rcases hR.out with ⟨rfl, hj2, HI2⟩ | ⟨rfl, hj2, hd, hbd, HI2⟩ | ⟨rfl, hj2, HI2⟩
          · replace HI2 := Lib.hid HI2
            clear hR
            go_wp2_with fail
            exact ⟨⟨j + 1, _, H.status, b2, er3, by omega, by simp, rfl, rfl, rfl, HI2⟩, by simp [intOf]; omega⟩
          · replace HI2 := Lib.hid HI2
            have e1 : (ofL d).toList = d := by rw [ByteArray.toList_eq]; exact toL_ofL _
            have t2 : ¬ (ofL d).toList = [] := by rw [e1]; exact hd
            have t1 : (ofL d).toList.isEmpty = false := by
              rw [e1]
              cases hx : d with
              | nil => exact absurd hx hd
              | cons => rfl
            have hsz : (ofL b2).size + (ofL d).size ≤ 9223372036854775807 := by
              have := hN2.out
              have := hN3.out
              rw [ofL_size, ofL_size]
              omega
            have hap := Lib.hid (POutText.str_app b2 d)
            clear hR hbd e1 hd
            go_wp2_with fail
            exact ⟨⟨j + 1, _, c2, b2 ++ d, er3, by omega, by simp, rfl, by rw [hap.out], rfl, HI2⟩, by simp [intOf]; omega⟩
          · replace HI2 := Lib.hid HI2
            clear hR
            go_wp2_with fail
            exact ⟨⟨j + 1, _, c2, b2, er3, by omega, by simp, rfl, rfl, rfl, HI2⟩, by simp [intOf]; omega⟩
    · have hki : ¬ (k : Int) < (P.length : Int) := by omega
      have hki2 : (k : Int) ≤ (P.length : Int) := by omega
      obtain ⟨h1, h2, h3⟩ := HI.out
      have htk : (P.take (k + 1)).flatten.length = (P.take k).flatten.length := by
        rw [List.take_of_length_le (by omega), List.take_of_length_le (by omega)]
      have HF : Hid (Calls Tryz.prog 20 #[.pointer (some ⟨g, 0, none⟩)] wr fun e w' => e = .returned (.tuple #[]) ∧ Hid (Inn w w' g meth (Qk (toL meth) P true (k + 1)) ((P.take (k + 1)).flatten.length) 0 (endO s) cc bb)) := Lib.hid (h1.fin.mono (fun e w' ⟨x1, x2⟩ => ⟨x1, Lib.hid (by
        refine ⟨x2, 4, rfl, by have := rank_le (endO s); omega, ?_, by show bb.length + s.data.length ≤ _; omega⟩
        have := qk_last (toL meth) P true
        rw [← hlk, h2] at this
        rw [this]
        rfl)⟩))
      replace hlk := Lib.hid hlk
      clear h1 h2 h3 htk HI
      go_wp2_with fail
      refine HF.out.mono ?_
      rintro e w2 ⟨rfl, HJ⟩
      clear HF
      go_wp2_with fail
      go_loopw [12, 13, 14, 16] (fun c b l n wr => ∃ (j : Nat) (s : St) (cc : Int) (bb : List UInt8) (er : Int), j ≤ 3 ∧ n = .int .i64 j ∧ c = .int .i64 cc ∧ b = .string (ofL bb) ∧ l = .int .i64 er ∧ Hid (Inn w wr g meth (Qk (toL meth) P true (k + 1)) ((P.take (k + 1)).flatten.length) j s cc bb)) (fun _ _ _ n _ => 4 - (intOf n).toNat)
      case atStart => exact ⟨0, _, _, _, _, by omega, rfl, rfl, rfl, rfl, HJ⟩
      case round =>
        clear HJ
        obtain ⟨j, s2, c2, b2, er2, hj, rfl, rfl, rfl, rfl, HJ⟩ := hrel
        have hN2 := hlt.out (k + 1)
        have hN3 := hN.out
        have hX := Lib.hid (HJ.out.1.next hm.out (by obtain ⟨_, kk, _, _, _, hb⟩ := HJ.out; omega))
        replace hN2 := Lib.hid hN2
        replace hN3 := Lib.hid hN3
        go_wp2_with fail
        refine hX.out.mono ?_
        rintro e w3 ⟨K, H, d, er3, p0, cap0, rfl, hNx, hO⟩
        clear hX
        have HB : Hid ((w3.alloc (.cells #[.int .i64 K, .string (ofL H.method), .string (ofL H.target), .int .i64 H.status, .string (ofL H.reason), .int .i64 H.minor, .slice p0 H.fields.length cap0, .string (ofL d)] PT)).cell? ⟨w3.heap.size, 0, none⟩ = some (.int .i64 K) ∧ (w3.alloc (.cells #[.int .i64 K, .string (ofL H.method), .string (ofL H.target), .int .i64 H.status, .string (ofL H.reason), .int .i64 H.minor, .slice p0 H.fields.length cap0, .string (ofL d)] PT)).cell? ⟨w3.heap.size, 3, none⟩ = some (.int .i64 H.status) ∧ (w3.alloc (.cells #[.int .i64 K, .string (ofL H.method), .string (ofL H.target), .int .i64 H.status, .string (ofL H.reason), .int .i64 H.minor, .slice p0 H.fields.length cap0, .string (ofL d)] PT)).cell? ⟨w3.heap.size, 7, none⟩ = some (.string (ofL d))) := Lib.hid ⟨((Has.new w3 PT _).cell 0).trans rfl, ((Has.new w3 PT _).cell 3).trans rfl, ((Has.new w3 PT _).cell 7).trans rfl⟩
        have HO2 := Lib.hid (hO.out.alloc (.cells #[.int .i64 K, .string (ofL H.method), .string (ofL H.target), .int .i64 H.status, .string (ofL H.reason), .int .i64 H.minor, .slice p0 H.fields.length cap0, .string (ofL d)] PT))
        clear hO
        dsimp only
        iterate 18 go_step
        generalize w3.alloc (.cells #[.int .i64 K, .string (ofL H.method), .string (ofL H.target), .int .i64 H.status, .string (ofL H.reason), .int .i64 H.minor, .slice p0 H.fields.length cap0, .string (ofL d)] PT) = W3 at HB HO2 ⊢
        generalize w3.heap.size = b3 at HB ⊢
        obtain ⟨k0, k3, k7⟩ := HB.out
        clear HB
        cases hK : (K != 0) with
        | false =>
          have hR : Hid (Out w W3 g meth P true (k + 1) (nextO (toL meth) s2).2.2 c2 b2 er3) := Lib.hid (by
            obtain ⟨_, kk, h1, h2, h3, h4⟩ := HJ.out
            obtain ⟨k', rfl⟩ : ∃ k', kk = k' + 1 := ⟨kk - 1, by omega⟩
            rw [drain_none hNx.out hK] at h3
            have := next_bulk (toL meth) s2
            exact ⟨HO2.out, h3.symm, by omega⟩)
          have hki : (k : Int) + 1 ≤ 8796093022210 := by omega
          clear HJ hNx HO2
          go_wp2_with fail
          exact ⟨⟨k + 1, _, c2, b2, er3, by omega, by simp, rfl, rfl, rfl, hR⟩, by simp [intOf]; omega⟩
        | true =>
          have hj3 : ¬ (30000 : Int) < (j : Int) := by omega
          have hR : Hid ((K = 1 ∧ j ≤ 2 ∧ Inn w W3 g meth (Qk (toL meth) P true (k + 1)) ((P.take (k + 1)).flatten.length) (j + 1) (nextO (toL meth) s2).2.2 H.status b2) ∨ (K = 2 ∧ j ≤ 2 ∧ d ≠ [] ∧ b2.length + d.length ≤ (P.take (k + 1)).flatten.length ∧ Inn w W3 g meth (Qk (toL meth) P true (k + 1)) ((P.take (k + 1)).flatten.length) (j + 1) (nextO (toL meth) s2).2.2 c2 (b2 ++ d)) ∨ (K = 3 ∧ j ≤ 2 ∧ Inn w W3 g meth (Qk (toL meth) P true (k + 1)) ((P.take (k + 1)).flatten.length) (j + 1) (nextO (toL meth) s2).2.2 c2 b2)) := Lib.hid (by
            obtain ⟨_, kk, h1, h2, h3, h4⟩ := HJ.out
            obtain ⟨k', rfl⟩ : ∃ k', kk = k' + 1 := ⟨kk - 1, by omega⟩
            have hbk := next_bulk (toL meth) s2
            obtain ⟨hr, hw⟩ := drain_some (k := k') (c := c2) (b := b2) hNx.out hK
            have hj2 : j ≤ 2 := by omega
            rcases hw with ⟨e1, e2⟩ | ⟨e1, e0, e2⟩ | ⟨e1, e2⟩
            · exact .inl ⟨e1, hj2, HO2.out, k', by omega, by omega, by rw [← e2]; exact h3, by omega⟩
            · have hd : bulkP (nextO (toL meth) s2).1 = d.length := by
                obtain ⟨q1, _, q3, _⟩ := hNx.out
                rw [e1] at q1
                rw [q3]
                cases hp : (nextO (toL meth) s2).1 with
                | none => rw [hp] at q1; cases q1
                | head h => rw [hp] at q1; cases q1
                | fin => rw [hp] at q1; cases q1
                | data x => rfl
              exact .inr (.inl ⟨e1, hj2, e0, by omega, HO2.out, k', by omega, by omega, by rw [← e2]; exact h3, by rw [List.length_append]; omega⟩)
            · exact .inr (.inr ⟨e1, hj2, HO2.out, k', by omega, by omega, by rw [← e2]; exact h3, by omega⟩))
          clear HJ hNx HO2
          rcases hR.out with ⟨rfl, hj2, HI2⟩ | ⟨rfl, hj2, hd, hbd, HI2⟩ | ⟨rfl, hj2, HI2⟩
          · replace HI2 := Lib.hid HI2
            clear hR
            go_wp2_with fail
            exact ⟨⟨j + 1, _, H.status, b2, er3, by omega, by simp, rfl, rfl, rfl, HI2⟩, by simp [intOf]; omega⟩
          · replace HI2 := Lib.hid HI2
            have e1 : (ofL d).toList = d := by rw [ByteArray.toList_eq]; exact toL_ofL _
            have t2 : ¬ (ofL d).toList = [] := by rw [e1]; exact hd
            have t1 : (ofL d).toList.isEmpty = false := by
              rw [e1]
              cases hx : d with
              | nil => exact absurd hx hd
              | cons => rfl
            have hsz : (ofL b2).size + (ofL d).size ≤ 9223372036854775807 := by
              have := hN2.out
              have := hN3.out
              rw [ofL_size, ofL_size]
              omega
            have hap := Lib.hid (POutText.str_app b2 d)
            clear hR hbd e1 hd
            go_wp2_with fail
            exact ⟨⟨j + 1, _, c2, b2 ++ d, er3, by omega, by simp, rfl, by rw [hap.out], rfl, HI2⟩, by simp [intOf]; omega⟩
          · replace HI2 := Lib.hid HI2
            clear hR
            go_wp2_with fail
            exact ⟨⟨j + 1, _, c2, b2, er3, by omega, by simp, rfl, rfl, rfl, HI2⟩, by simp [intOf]; omega⟩
    · have hki : ¬ (k : Int) < (P.length : Int) := by omega
      have hki2 : (k : Int) ≤ (P.length : Int) := by omega
      obtain ⟨h1, h2, h3⟩ := HI.out
      have htk : (P.take (k + 1)).flatten.length = (P.take k).flatten.length := by
        rw [List.take_of_length_le (by omega), List.take_of_length_le (by omega)]
      have HJ : Hid (Inn w wr g meth (Qk (toL meth) P false (k + 1)) ((P.take (k + 1)).flatten.length) 0 s cc bb) := Lib.hid (by
        refine ⟨h1, 4, rfl, by have := rank_le s; omega, ?_, by omega⟩
        have := qk_last (toL meth) P false
        rw [← hlk, h2] at this
        rw [this]
        rfl)
      replace hlk := Lib.hid hlk
      clear h1 h2 h3 htk HI
      go_wp2_with fail
      go_loopw [12, 13, 14, 16] (fun c b l n wr => ∃ (j : Nat) (s : St) (cc : Int) (bb : List UInt8) (er : Int), j ≤ 3 ∧ n = .int .i64 j ∧ c = .int .i64 cc ∧ b = .string (ofL bb) ∧ l = .int .i64 er ∧ Hid (Inn w wr g meth (Qk (toL meth) P false (k + 1)) ((P.take (k + 1)).flatten.length) j s cc bb)) (fun _ _ _ n _ => 4 - (intOf n).toNat)
      case atStart => exact ⟨0, _, _, _, _, by omega, rfl, rfl, rfl, rfl, HJ⟩
      case round =>
        clear HJ
        obtain ⟨j, s2, c2, b2, er2, hj, rfl, rfl, rfl, rfl, HJ⟩ := hrel
        have hN2 := hlt.out (k + 1)
        have hN3 := hN.out
        have hX := Lib.hid (HJ.out.1.next hm.out (by obtain ⟨_, kk, _, _, _, hb⟩ := HJ.out; omega))
        replace hN2 := Lib.hid hN2
        replace hN3 := Lib.hid hN3
        go_wp2_with fail
        refine hX.out.mono ?_
        rintro e w3 ⟨K, H, d, er3, p0, cap0, rfl, hNx, hO⟩
        clear hX
        have HB : Hid ((w3.alloc (.cells #[.int .i64 K, .string (ofL H.method), .string (ofL H.target), .int .i64 H.status, .string (ofL H.reason), .int .i64 H.minor, .slice p0 H.fields.length cap0, .string (ofL d)] PT)).cell? ⟨w3.heap.size, 0, none⟩ = some (.int .i64 K) ∧ (w3.alloc (.cells #[.int .i64 K, .string (ofL H.method), .string (ofL H.target), .int .i64 H.status, .string (ofL H.reason), .int .i64 H.minor, .slice p0 H.fields.length cap0, .string (ofL d)] PT)).cell? ⟨w3.heap.size, 3, none⟩ = some (.int .i64 H.status) ∧ (w3.alloc (.cells #[.int .i64 K, .string (ofL H.method), .string (ofL H.target), .int .i64 H.status, .string (ofL H.reason), .int .i64 H.minor, .slice p0 H.fields.length cap0, .string (ofL d)] PT)).cell? ⟨w3.heap.size, 7, none⟩ = some (.string (ofL d))) := Lib.hid ⟨((Has.new w3 PT _).cell 0).trans rfl, ((Has.new w3 PT _).cell 3).trans rfl, ((Has.new w3 PT _).cell 7).trans rfl⟩
        have HO2 := Lib.hid (hO.out.alloc (.cells #[.int .i64 K, .string (ofL H.method), .string (ofL H.target), .int .i64 H.status, .string (ofL H.reason), .int .i64 H.minor, .slice p0 H.fields.length cap0, .string (ofL d)] PT))
        clear hO
        dsimp only
        iterate 18 go_step
        generalize w3.alloc (.cells #[.int .i64 K, .string (ofL H.method), .string (ofL H.target), .int .i64 H.status, .string (ofL H.reason), .int .i64 H.minor, .slice p0 H.fields.length cap0, .string (ofL d)] PT) = W3 at HB HO2 ⊢
        generalize w3.heap.size = b3 at HB ⊢
        obtain ⟨k0, k3, k7⟩ := HB.out
        clear HB
        cases hK : (K != 0) with
        | false =>
          have hR : Hid (Out w W3 g meth P false (k + 1) (nextO (toL meth) s2).2.2 c2 b2 er3) := Lib.hid (by
            obtain ⟨_, kk, h1, h2, h3, h4⟩ := HJ.out
            obtain ⟨k', rfl⟩ : ∃ k', kk = k' + 1 := ⟨kk - 1, by omega⟩
            rw [drain_none hNx.out hK] at h3
            have := next_bulk (toL meth) s2
            exact ⟨HO2.out, h3.symm, by omega⟩)
          have hki : (k : Int) + 1 ≤ 8796093022210 := by omega
          clear HJ hNx HO2
          go_wp2_with fail
          exact ⟨⟨k + 1, _, c2, b2, er3, by omega, by simp, rfl, rfl, rfl, hR⟩, by simp [intOf]; omega⟩
        | true =>
          have hj3 : ¬ (30000 : Int) < (j : Int) := by omega
          have hR : Hid ((K = 1 ∧ j ≤ 2 ∧ Inn w W3 g meth (Qk (toL meth) P false (k + 1)) ((P.take (k + 1)).flatten.length) (j + 1) (nextO (toL meth) s2).2.2 H.status b2) ∨ (K = 2 ∧ j ≤ 2 ∧ d ≠ [] ∧ b2.length + d.length ≤ (P.take (k + 1)).flatten.length ∧ Inn w W3 g meth (Qk (toL meth) P false (k + 1)) ((P.take (k + 1)).flatten.length) (j + 1) (nextO (toL meth) s2).2.2 c2 (b2 ++ d)) ∨ (K = 3 ∧ j ≤ 2 ∧ Inn w W3 g meth (Qk (toL meth) P false (k + 1)) ((P.take (k + 1)).flatten.length) (j + 1) (nextO (toL meth) s2).2.2 c2 b2)) := Lib.hid (by
            obtain ⟨_, kk, h1, h2, h3, h4⟩ := HJ.out
            obtain ⟨k', rfl⟩ : ∃ k', kk = k' + 1 := ⟨kk - 1, by omega⟩
            have hbk := next_bulk (toL meth) s2
            obtain ⟨hr, hw⟩ := drain_some (k := k') (c := c2) (b := b2) hNx.out hK
            have hj2 : j ≤ 2 := by omega
            rcases hw with ⟨e1, e2⟩ | ⟨e1, e0, e2⟩ | ⟨e1, e2⟩
            · exact .inl ⟨e1, hj2, HO2.out, k', by omega, by omega, by rw [← e2]; exact h3, by omega⟩
            · have hd : bulkP (nextO (toL meth) s2).1 = d.length := by
                obtain ⟨q1, _, q3, _⟩ := hNx.out
                rw [e1] at q1
                rw [q3]
                cases hp : (nextO (toL meth) s2).1 with
                | none => rw [hp] at q1; cases q1
                | head h => rw [hp] at q1; cases q1
                | fin => rw [hp] at q1; cases q1
                | data x => rfl
              exact .inr (.inl ⟨e1, hj2, e0, by omega, HO2.out, k', by omega, by omega, by rw [← e2]; exact h3, by rw [List.length_append]; omega⟩)
            · exact .inr (.inr ⟨e1, hj2, HO2.out, k', by omega, by omega, by rw [← e2]; exact h3, by omega⟩))
          clear HJ hNx HO2
          rcases hR.out with ⟨rfl, hj2, HI2⟩ | ⟨rfl, hj2, hd, hbd, HI2⟩ | ⟨rfl, hj2, HI2⟩
          · replace HI2 := Lib.hid HI2
            clear hR
            go_wp2_with fail
            exact ⟨⟨j + 1, _, H.status, b2, er3, by omega, by simp, rfl, rfl, rfl, HI2⟩, by simp [intOf]; omega⟩
          · replace HI2 := Lib.hid HI2
            have e1 : (ofL d).toList = d := by rw [ByteArray.toList_eq]; exact toL_ofL _
            have t2 : ¬ (ofL d).toList = [] := by rw [e1]; exact hd
            have t1 : (ofL d).toList.isEmpty = false := by
              rw [e1]
              cases hx : d with
              | nil => exact absurd hx hd
              | cons => rfl
            have hsz : (ofL b2).size + (ofL d).size ≤ 9223372036854775807 := by
              have := hN2.out
              have := hN3.out
              rw [ofL_size, ofL_size]
              omega
            have hap := Lib.hid (POutText.str_app b2 d)
            clear hR hbd e1 hd
            go_wp2_with fail
            exact ⟨⟨j + 1, _, c2, b2 ++ d, er3, by omega, by simp, rfl, by rw [hap.out], rfl, HI2⟩, by simp [intOf]; omega⟩
          · replace HI2 := Lib.hid HI2
            clear hR
            go_wp2_with fail
            exact ⟨⟨j + 1, _, c2, b2, er3, by omega, by simp, rfl, rfl, rfl, HI2⟩, by simp [intOf]; omega⟩
    · have hki : ¬ (k : Int) ≤ (P.length : Int) := by omega
      obtain ⟨h1, h2, h3⟩ := HI.out
      have HE := Lib.hid h1.ended
      have HQ : Hid (∃ st, told (toL meth) P fin = (st, cc, bb, er) ∧ doneM s.md = doneM st.md ∧ bb.length ≤ P.flatten.length) := Lib.hid (by
        rw [qk_end _ _ _ _ (by omega)] at h2
        exact ⟨s, h2, rfl, by have := hlt.out k; omega⟩)
      have HB := Lib.hid h1.below
      generalize doneM s.md = dn at *
      clear h1 h2 h3 HI
      go_wp2_with fail
      refine HE.out.mono ?_
      rintro e w2 ⟨rfl, rfl⟩
      clear HE
      go_wp2_with fail
      (try simp only [Exit.inBlock, Exit.then]); refine bodyPost_ret (results_tmp5 rfl _ _ _) rfl ?_
      exact ⟨cc, bb, dn, er, rfl, HQ, HB.out⟩
end Go.Proofs.YtggmafmebocoaaaGreatDoor.L12Told

/- Layer 12's anchor. -/
namespace Go.Proofs.YtggmafmebocoaaaGreatDoor.L12Anchor
open Go.ChangeShapes Go.WideShapes Go.ChangeAt Go.RowKit Bytes LexPure Ret FieldsPure HeadPure OutPure OutBox OutObj POutUse L12Read PLib Mem Step
set_option maxRecDepth 100000
def GETL : List UInt8 := [71, 69, 84]
def AT : List UInt8 := [72, 84, 84, 80, 47, 49, 46, 49, 32, 49, 48, 48, 32, 13, 10, 13, 10, 72, 84, 84, 80, 47, 49, 46, 49, 32, 50, 48, 48, 32, 79, 75, 13, 10, 67, 111, 110, 116, 101, 110, 116, 45, 76, 101, 110, 103, 116, 104, 58, 32, 51, 13, 10, 13, 10, 97, 98]
def a1 : St := feedO st0 AT
def a2 : St := (nextO GETL a1).2.2
theorem an1 : (match nextO GETL a1 with | (.head h, e, _) => e == 0 && h.status == 200 | _ => false) = true := by decide +kernel
theorem an2 : (match nextO GETL a2 with | (.data d, e, _) => e == 0 && d == [97, 98] | _ => false) = true := by decide +kernel
theorem an1' {K : Int} {H : H8} {d : List UInt8} {er : Int} (h : Nxt GETL a1 K H d er) : K = 1 ∧ H.status = 200 ∧ er = 0 := by
  obtain ⟨rfl, rfl, rfl, rfl⟩ := h
  have h1 := an1
  cases hn : nextO GETL a1 with
  | mk p r =>
    obtain ⟨e, s⟩ := r
    rw [hn] at h1
    cases p with
    | none => cases h1
    | data d => cases h1
    | fin => cases h1
    | head h =>
      simp only [Bool.and_eq_true, beq_iff_eq] at h1
      exact ⟨rfl, h1.2, h1.1⟩
theorem an2' {K : Int} {H : H8} {d : List UInt8} {er : Int} (h : Nxt GETL a2 K H d er) : K = 2 ∧ d = [97, 98] ∧ er = 0 := by
  obtain ⟨rfl, rfl, rfl, rfl⟩ := h
  have h1 := an2
  cases hn : nextO GETL a2 with
  | mk p r =>
    obtain ⟨e, s⟩ := r
    rw [hn] at h1
    cases p with
    | none => cases h1
    | head d => cases h1
    | fin => cases h1
    | data d =>
      simp only [Bool.and_eq_true, beq_iff_eq] at h1
      exact ⟨rfl, h1.2, h1.1⟩
set_option maxHeartbeats 3200000 in
theorem anchor_any (w : World) (hm : MaxInt w) : Calls Tryz.prog 8 #[] w fun e w' => e = .returned (.bool true) ∧ Below w.heap.size w w' := by
  have HN := Lib.hid (new_any (w := w) ⟨#[71, 69, 84]⟩ (Below.refl w.heap.size w))
  replace hm := Lib.hid hm
  go_enter Tryz.func8, Tryz.ntmps8
  go_wp2_with fail
  refine HN.out.mono ?_
  rintro e w1 ⟨g, rfl, hO⟩
  have HF := Lib.hid (hO.feed ⟨#[72, 84, 84, 80, 47, 49, 46, 49, 32, 49, 48, 48, 32, 13, 10, 13, 10, 72, 84, 84, 80, 47, 49, 46, 49, 32, 50, 48, 48, 32, 79, 75, 13, 10, 67, 111, 110, 116, 101, 110, 116, 45, 76, 101, 110, 103, 116, 104, 58, 32, 51, 13, 10, 13, 10, 97, 98]⟩ (by decide))
  clear HN hO
  go_wp2_with fail
  refine HF.out.mono ?_
  rintro e w2 ⟨rfl, F2, hO⟩
  have HX := Lib.hid (hO.next hm.out (by decide))
  clear HF hO
  go_wp2_with fail
  refine HX.out.mono ?_
  rintro e w3 ⟨K, H, d, er, p0, cap, F3, rfl, hN, hO, _⟩
  obtain ⟨rfl, hst, rfl⟩ := an1' hN.out
  replace hst := Lib.hid hst
  have HB := Has.new w3 PT (pca 1 H (.slice p0 H.fields.length cap) d)
  have HO3 := hO.out.call (W' := w3.alloc (.cells (pca 1 H (.slice p0 H.fields.length cap) d) PT)) ((Below.refl _ _).alloc (Nat.le_refl _) _)
  have hbF : ¬ F3 w3.heap.size := fun x => by have := hO.out.rdr.lt _ x; omega
  clear HX hN hO
  unfold pca at HB HO3
  dsimp only
  iterate 18 go_step
  generalize w3.alloc (.cells #[.int .i64 1, .string (ofL H.method), .string (ofL H.target), .int .i64 H.status, .string (ofL H.reason), .int .i64 H.minor, .slice p0 H.fields.length cap, .string (ofL d)] PT) = W3 at HB HO3 ⊢
  generalize w3.heap.size = b3 at HB hbF ⊢
  have HX := Lib.hid (HO3.next hm.out (by decide))
  clear HO3
  go_wp2_with fail
  refine HX.out.mono ?_
  rintro e w4 ⟨K2, H2, d2, er2, p2, cap2, F4, rfl, hN, hO, hS⟩
  obtain ⟨rfl, rfl, rfl⟩ := an2' hN.out
  have HB4 := (hS.out.has HB hbF).alloc (.cells (pca 2 H2 (.slice p2 H2.fields.length cap2) [97, 98]) PT)
  have HC4 := Has.new w4 PT (pca 2 H2 (.slice p2 H2.fields.length cap2) [97, 98])
  have HO4 := Lib.hid (hO.out.call (W' := w4.alloc (.cells (pca 2 H2 (.slice p2 H2.fields.length cap2) [97, 98]) PT)) ((Below.refl _ _).alloc (Nat.le_refl _) _)).below
  clear HX hN hO hS HB hbF
  unfold pca at HB4 HC4 HO4
  dsimp only
  iterate 18 go_step
  generalize w4.alloc (.cells #[.int .i64 2, .string (ofL H2.method), .string (ofL H2.target), .int .i64 H2.status, .string (ofL H2.reason), .int .i64 H2.minor, .slice p2 H2.fields.length cap2, .string (ofL [97, 98])] PT) = W4 at HB4 HC4 HO4 ⊢
  generalize w4.heap.size = b4 at HC4 ⊢
  have c0 : W4.cell? ⟨b3, 0, none⟩ = some (.int .i64 1) := (HB4.cell 0).trans rfl
  have c3 : W4.cell? ⟨b3, 3, none⟩ = some (.int .i64 200) := by rw [← hst.out]; exact (HB4.cell 3).trans rfl
  have k0 : W4.cell? ⟨b4, 0, none⟩ = some (.int .i64 2) := (HC4.cell 0).trans rfl
  have k7 : W4.cell? ⟨b4, 7, none⟩ = some (.string ⟨#[97, 98]⟩) := (HC4.cell 7).trans rfl
  clear HB4 HC4 hst
  go_wp2_with fail
  go_ret
  exact ⟨rfl, HO4.out⟩
end Go.Proofs.YtggmafmebocoaaaGreatDoor.L12Anchor

/- A number's digits. No program is named. -/
namespace Go.Proofs.YtggmafmebocoaaaGreatDoor.DecN
open Bytes LexPure LexList LexNum FieldsPure HeadPure FramePure
set_option maxRecDepth 20000
def decB (n : Nat) : UInt8 := UInt8.ofNat (48 + n)
def decN (n : Nat) : List UInt8 := if _h : n < 10 then [decB n] else decN (n / 10) ++ [decB (n % 10)]
termination_by n
decreasing_by omega
theorem decN_small {n : Nat} (h : n < 10) : decN n = [decB n] := by
  conv => lhs; unfold decN
  rw [dif_pos h]
theorem decN_more {n : Nat} (h : ¬ n < 10) : decN n = decN (n / 10) ++ [decB (n % 10)] := by
  conv => lhs; unfold decN
  rw [dif_neg h]
theorem decB_say : ∀ n, n < 10 → dig (decB n) = n ∧ (48 ≤ (decB n).toNat ∧ (decB n).toNat ≤ 57) := by
  have : ∀ n : Fin 10, dig (decB n.1) = n.1 ∧ (48 ≤ (decB n.1).toNat ∧ (decB n.1).toNat ≤ 57) := by decide +kernel
  intro n hn
  exact this ⟨n, hn⟩
theorem decN_ne (n : Nat) : decN n ≠ [] := by
  by_cases h : n < 10
  · rw [decN_small h]; simp
  · rw [decN_more h]; simp
theorem decN_val (n : Nat) : numV 10 (decN n) = n := by
  induction n using Nat.strongRecOn with
  | ind n ih =>
    by_cases h : n < 10
    · rw [decN_small h]
      have := (decB_say n h).1
      simp [numV, this]
    · rw [decN_more h, numV_snoc, ih (n / 10) (by omega), (decB_say (n % 10) (by omega)).1]
      omega
theorem decN_all (n : Nat) : ∀ c ∈ decN n, dig c < 10 ∧ 48 ≤ c.toNat ∧ c.toNat ≤ 57 := by
  induction n using Nat.strongRecOn with
  | ind n ih =>
    intro c hc
    by_cases h : n < 10
    · rw [decN_small h, List.mem_singleton] at hc
      subst hc
      obtain ⟨h1, h2⟩ := decB_say n h
      exact ⟨by omega, h2⟩
    · rw [decN_more h, List.mem_append, List.mem_singleton] at hc
      rcases hc with hc | rfl
      · exact ih (n / 10) (by omega) c hc
      · obtain ⟨h1, h2⟩ := decB_say (n % 10) (by omega)
        exact ⟨by omega, h2⟩
theorem decN_len (k : Nat) : ∀ n, n < 10 ^ (k + 1) → (decN n).length ≤ k + 1 := by
  induction k with
  | zero =>
    intro n h
    rw [decN_small (by omega)]
    exact Nat.le_refl _
  | succ k ih =>
    intro n h
    by_cases h2 : n < 10
    · rw [decN_small h2]
      simp
    · rw [decN_more h2, List.length_append, List.length_singleton]
      have := ih (n / 10) (by rw [Nat.pow_succ] at h; omega)
      omega
theorem dec_byte (c : UInt8) (h : 48 ≤ c.toNat ∧ c.toNat ≤ 57) : plainB c = true ∧ blankB c = false ∧ (c != 44) = true := by
  have := all_bytes (p := fun c => !(decide (48 ≤ c.toNat) && decide (c.toNat ≤ 57)) || (plainB c && !blankB c && (c != 44))) (by decide +kernel) c
  simp only [h.1, h.2, decide_true, Bool.and_true, Bool.not_true, Bool.false_or, Bool.and_eq_true, Bool.not_eq_true'] at this
  obtain ⟨⟨h1, h2⟩, h3⟩ := this
  exact ⟨h1, h2, h3⟩
theorem dec_trim (n : Nat) : trim (decN n) = decN n := trim_id
  (fun c r e => (dec_byte c (decN_all n c (by rw [e]; exact List.mem_cons_self)).2).2.1)
  (fun c r e => (dec_byte c (decN_all n c (by rw [← List.mem_reverse, e]; exact List.mem_cons_self)).2).2.1)
theorem dec_value (n : Nat) : value (decN n) = true := by
  unfold value
  have hp : (decN n).all plainB = true := List.all_eq_true.2 (fun c hc => (dec_byte c (decN_all n c hc).2).1)
  rw [hp, Bool.true_and]
  cases h : decN n with
  | nil => exact absurd h (decN_ne n)
  | cons c r =>
    have h1 := (dec_byte c (decN_all n c (by rw [h]; exact List.mem_cons_self)).2).2.1
    have hl : (c :: r).getLastD 0 ∈ c :: r := by
      rw [List.getLastD_eq_getLast?, List.getLast?_eq_some_getLast (List.cons_ne_nil c r)]
      exact List.getLast_mem _
    have h2 := (dec_byte _ (decN_all n ((c :: r).getLastD 0) (by rw [h]; exact hl)).2).2.1
    rw [List.headD_cons, h1, h2]
    rfl
theorem dec_pieces (n : Nat) : pieces (decN n) = [decN n] := pieces_plain (List.all_eq_true.2 (fun c hc => (dec_byte c (decN_all n c hc).2).2.2))
theorem dec_num {n : Nat} (h : n < 1000000000000000) : numOk 10 15 (decN n) = true ∧ numR 10 15 (decN n) = n := by
  have hok : numOk 10 15 (decN n) = true := by
    unfold numOk
    have h1 : (decN n).isEmpty = false := by
      cases q : decN n with
      | nil => exact absurd q (decN_ne n)
      | cons => rfl
    have h2 := decN_len 14 n h
    have h3 : (decN n).all (fun c => decide (dig c < 10)) = true := List.all_eq_true.2 (fun c hc => decide_eq_true (decN_all n c hc).1)
    rw [h1, h3, decide_eq_true (by omega)]
    rfl
  refine ⟨hok, ?_⟩
  unfold numR
  rw [if_pos hok, decN_val]
theorem decN_three {n : Nat} (h1 : 100 ≤ n) (h2 : n < 1000) : decN n = [decB (n / 100), decB (n / 10 % 10), decB (n % 10)] := by
  rw [decN_more (by omega), decN_more (by omega), decN_small (by omega), Nat.div_div_eq_div_mul]
  rfl
end Go.Proofs.YtggmafmebocoaaaGreatDoor.DecN

/- Layer 12's law: digits. -/
namespace Go.Proofs.YtggmafmebocoaaaGreatDoor.L12Dig
open Go.ChangeShapes Go.WideShapes Go.ChangeAt Go.RowKit Bytes LexPure Ret DecN Mem
set_option maxRecDepth 20000
theorem conv_one (W : World) (g : Nat) (c : UInt8) (x : Int) (hx : x = (c.toNat : Int)) (h : W.cell? ⟨g, 0, none⟩ = some (.int .u8 x)) :
    (Go.convert 28 9 (.slice (some ⟨g, 0, none⟩) 1 1)).run Tryz.prog W = .ok (.string (ofL [c])) W :=
  run_convert_bytes_back _ 28 9 5 ⟨g, 0, none⟩ 1 [c] Tryz.underlying28 Tryz.underlying5 Tryz.underlying9 (fun j hj => by
    match j, hj with
    | 0, _ =>
      rw [show (⟨g, 0, none⟩ : Addr).add 0 = ⟨g, 0, none⟩ by unfold Addr.add; simp, h, hx]
      rfl)
theorem decB_int {n : Nat} (h : n < 10) : ((decB n).toNat : Int) = 48 + (n : Int) := by
  have : ∀ n : Fin 10, ((decB n.1).toNat : Int) = 48 + (n.1 : Int) := by decide
  exact this ⟨n, h⟩
theorem lt_cell {W : World} {g : Nat} {v : Value} (h : W.cell? ⟨g, 0, none⟩ = some v) : g < W.heap.size := World.block_lt_of_cell? _ _ h
set_option maxHeartbeats 1600000 in
theorem digits_any (n : Nat) : ∀ (_hn : n ≤ 1000000000000000000) (w : World),
    Calls Tryz.prog 11 #[.int .i64 n] w fun e w' => e = .returned (.string (ofL (decN n))) ∧ Below w.heap.size w w' := by
  induction n using Nat.strongRecOn with
  | ind n ih =>
    intro hn w
    by_cases h : n < 10
    · have hi : (n : Int) < 10 := by omega
      have h0 : (0 : Int) ≤ (n : Int) := by omega
      have HC := conv_one (w.alloc (.cells #[.int .u8 (48 + (n : Int))] 5)) w.heap.size (decB n) (48 + n) (decB_int h).symm ((Has.new w _ _).cell 0)
      have HV : Hid (decN n = [decB n]) := Lib.hid (decN_small h)
      clear ih
      go_enter Tryz.func11, Tryz.ntmps11
      go_wp2_with fail
      go_ret
      exact ⟨by rw [HV.out]; rfl, (Below.refl _ _).alloc (Nat.le_refl _) _⟩
    · have hi : ¬ (n : Int) < 10 := by omega
      have qe : IntKind.i64.wrap ((n : Int) / 10) = ((n / 10 : Nat) : Int) := by rw [IntWalk.i64_in _ (by omega)]; omega
      have HI := fun w => ih (n / 10) (by omega) (by omega) w
      rw [← qe] at HI
      replace HI := Lib.hid HI
      have HV : Hid (ofL (decN n) = ofL (decN (n / 10)) ++ ofL [decB (n % 10)]) := Lib.hid (by
        apply toL_inj
        rw [toL_append, toL_ofL, toL_ofL, toL_ofL, decN_more h])
      have hl : (ofL (decN (n / 10))).size ≤ 20 := by
        rw [ofL_size]
        have := decN_len 18 (n / 10) (by omega)
        omega
      clear qe
      have hsz : (ofL (decN (n / 10))).size + (ofL [decB (n % 10)]).size ≤ 9223372036854775807 := by rw [ofL_size [decB (n % 10)], List.length_singleton]; omega
      have q3 : IntKind.u8.wrap (IntKind.i64.wrap (48 + (n : Int).tmod 10)) = ((decB (n % 10)).toNat : Int) := by
        rw [Int.tmod_eq_emod_of_nonneg (by omega), decB_int (by omega), IntWalk.i64_in _ (by omega), IntKind.wrap_u8]
        omega
      have HCa := fun (W : World) => conv_one (W.alloc (.cells #[.int .u8 (IntKind.u8.wrap (IntKind.i64.wrap (48 + (n : Int).tmod 10)))] 5)) W.heap.size (decB (n % 10)) _ q3 ((Has.new W _ _).cell 0)
      have HCc := fun (W : World) (g : Nat) => conv_one W g (decB (n % 10)) _ q3
      clear q3
      go_enter Tryz.func11, Tryz.ntmps11
      go_wp2_with fail
      go_region_with (go_at_call 11; refine (HI.out _).mono ?_; rintro e w1 ⟨rfl, hb1⟩; have hcb := fun h => HCc w1 w.heap.size ((hb1.cell (p := ⟨w.heap.size, 0, none⟩) (lt_cell h)).trans h))
      all_goals
        replace hb1 := Lib.hid hb1
        clear HCa HCc hcb HI ih hsz
        go_wp2_with fail
        go_ret
        refine ⟨by rw [HV.out]; rfl, ?_⟩
        first
          | exact (below_chain (Below.drew (Below.refl _ _)) hb1.out).alloc (Nat.le_trans (Nat.le_refl _) hb1.out.size) _
          | exact below_chain (Below.alloc (Below.drew (Below.refl _ _)) (Nat.le_refl _) _) hb1.out
end Go.Proofs.YtggmafmebocoaaaGreatDoor.L12Dig

/- The row's step for a law whose row lists variables, and its card: the witness in the world that the listed data lay. -/
namespace Go.Proofs.YtggmafmebocoaaaGreatDoor.LawCard
open Go.ChangeShapes Go.WideShapes Go.ChangeAt Go.RowKit
variable {H : Type} {enc : TypeId × Value → H}
/-- there is an input that fits: in the world that the listed data lay -/
theorem witness {C : Checked} {os : Os} {f : FuncId} {fn : Func} {s : OpenSpec} {conds : List PathCond} {apart : Bool} {laid : List (String × DataW Unit)} (args : Array Value)
    (hv : ((World.laidAll C.prog os laid).forCall (fun _ _ => 0) ⟨#[], args, []⟩).variablesZipB C.prog = true)
    (hr : (((World.laidAll C.prog os laid).forCall (fun _ _ => 0) ⟨#[], args, []⟩).heap.toList.drop C.prog.globals.size).take ((begin C.prog (fun _ _ => 0) default).world.heap.size - C.prog.globals.size) =
      (begin C.prog (fun _ _ => 0) default).world.heap.toList.drop C.prog.globals.size)
    (hok : Input.okWideB C.prog ((World.laidAll C.prog os laid).forCall (fun _ _ => 0) ⟨#[], args, []⟩) f ⟨#[], args, []⟩ = true)
    (hplain : ∀ w, laidMetH C.prog laid w = laidMet C.prog laid w)
    (hf : (World.holding C.prog os ⟨#[], #[], []⟩).layFits C.prog laid [] = true)
    (hi : (World.holding C.prog os ⟨#[], #[], []⟩).layIfaces C.prog laid (World.laidAll C.prog os laid) = true)
    {x : List (DataW H) × List (DataW H) × List MemPlace} (hx : DataW.whole enc C.prog ((World.laidAll C.prog os laid).forCall (fun _ _ => 0) ⟨#[], args, []⟩).memory fn.params.toList s.vars apart args.toList 8 = some x)
    (hconds : conds.all (PathCond.test C.prog ⟨fn.params.toList, x.1, s.bare.plain.varTypes C.prog, x.2.1⟩) = true) (hkk : ∀ k, s.cond = some k → k H (x.1 ++ x.2.1) = true)
    (hsz : s.bare.sizedB enc C.prog fn apart ((World.laidAll C.prog os laid).forCall (fun _ _ => 0) ⟨#[], args, []⟩).memory args 8 = true) :
    ∃ (w : World) (tape : Tape) (i : Input), w.os = os ∧ (w.forCall tape i).Shaped C.prog ∧ i.vars = [] ∧ Input.okWide C.prog (w.forCall tape i) .any w.heap.size f i ∧
      s.preRow enc C.prog fn conds apart laid (w.forCall tape i).memory i.args ∧ ({} : Assume).holds C.prog (lone (Frame.enter C.prog f i.args .normal) [] (w.forCall tape i)) :=
  ⟨World.laidAll C.prog os laid, fun _ _ => 0, ⟨#[], args, []⟩, World.laidAll_os _ _ _, World.shaped_of_ZipB hv hr, (Input.okWide_of_okWideB (base := 0) hok).1, (Input.okWide_of_okWideB hok).2,
    OpenSpec.preRow_of_cond 8 hx hconds hkk hsz (by rw [hplain]; exact laidMet_laidAll _ hf hi), by
    simp only [Assume.holds]
    exact ⟨by simp, by simp, fun _ => Modest.zero, by simp, by simp⟩⟩
end Go.Proofs.YtggmafmebocoaaaGreatDoor.LawCard
