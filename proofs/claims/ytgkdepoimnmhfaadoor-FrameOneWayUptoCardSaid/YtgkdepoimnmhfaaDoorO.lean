/- Texts of this seat, one behind another: OneWay, FrameOneWayW. -/
import Derived.Laws.OwnMore
import Derived.Maps.AppendAt
import Derived.Deep.RegionHeld3
import Derived.BigRegion
import Derived.LoopTactic
import Derived.Handy
import Derived.Test.YtgkdepoimnmhfaaDoorA1
import Derived.Test.YtgkdepoimnmhfaaDoorB
import Derived.Test.YtgkdepoimnmhfaaDoorA2
import Derived.Test.YtgkdepoimnmhfaaDoorC
/- Layer 9: what a request that is taken holds. No program is named. -/
namespace Go.Proofs.YtgkdepoimnmhfaaDoor.OneWay
open Bytes LexPure LexNum FieldsPure FramePure
set_option maxRecDepth 20000
/-- the values of the fields of a name -/
def vals (G : List HField) (n : List UInt8) : List (List UInt8) := (G.filter (hit n)).map Prod.snd
theorem vals_len (G : List HField) (n : List UInt8) : (vals G n).length = getN G n := by
  unfold vals getN
  rw [List.length_map, List.countP_eq_length_filter]
theorem vals_snoc {G : List HField} {k : Nat} (hk : k < G.length) (n : List UInt8) : vals (G.take (k + 1)) n = if hit n G[k] = true then vals (G.take k) n ++ [G[k].2] else vals (G.take k) n := by
  unfold vals
  rw [List.take_add_one, List.getElem?_eq_getElem hk, Option.toList_some, List.filter_append, List.map_append]
  cases h : hit n G[k]
  · rw [List.filter_cons_of_neg (by rw [h]; decide)]
    simp
  · rw [List.filter_cons_of_pos h]
    simp
theorem vals_take (G : List HField) (k : Nat) (n : List UInt8) : (vals (G.take k) n).length ≤ k := by
  unfold vals
  rw [List.length_map]
  exact Nat.le_trans (List.length_filter_le _ _) (List.length_take_le _ _)
theorem vals_right {G : List HField} (h : 0 ≤ lenN G) : ∀ v ∈ vals G CLEN, ∀ p ∈ elements v, numOk 10 15 p = true ∧ numR 10 15 p = lenN G := fun v hv p hp => by
  obtain ⟨f, hf, rfl⟩ := List.mem_map.1 hv
  obtain ⟨h1, h2⟩ := List.mem_filter.1 hf
  exact (len_all (lens G) (-1) h).1 p (lens_mem h1 h2 (elements_sub hp))
theorem vals_short {G : List HField} (n : List UInt8) (hG : ∀ (j : Nat) (h : j < G.length), G[j].1.length ≤ 1048576 ∧ G[j].2.length ≤ 1048576) : ∀ v ∈ vals G n, v.length ≤ 1048576 := fun v hv => by
  obtain ⟨f, hf, rfl⟩ := List.mem_map.1 hv
  obtain ⟨j, hj, rfl⟩ := List.mem_iff_getElem.1 (List.mem_filter.1 hf).1
  exact (hG j hj).2
theorem hit_at (f : HField) (n : List UInt8) (hn : lower n = n) : hit n f = (lower f.1 == n) := by
  unfold hit alike
  rw [hn]
theorem hit_apart (f : HField) (h : hit CLEN f = true) : hit TENC f = false := by
  rw [hit_at f CLEN (by decide)] at h
  rw [hit_at f TENC (by decide), beq_iff_eq.1 h]
  decide
theorem oneway (minor most : Int) (G : List HField) : (∃ e, request9 minor G most = (0, 0, e) ∧ e ≠ 0) ∨ (request9 minor G most = (1, 0, 0) ∧ getN G CLEN = 0 ∧ getN G TENC = 0) ∨
    (request9 minor G most = (2, lenN G, 0) ∧ getN G TENC = 0 ∧ 0 < getN G CLEN ∧ 0 ≤ lenN G ∧ lenN G ≤ most) ∨ (request9 minor G most = (3, 0, 0) ∧ getN G CLEN = 0 ∧ minor ≠ 0 ∧ codeN (elems G TENC) = 1) := by
  unfold request9
  by_cases h1 : 0 < getN G TENC
  · rw [if_pos h1]
    by_cases h2 : minor = 0 ∨ 0 < getN G CLEN ∨ codeN (elems G TENC) = 3
    · rw [if_pos h2]
      exact .inl ⟨90, rfl, by decide⟩
    · rw [if_neg h2]
      by_cases h3 : codeN (elems G TENC) = 2
      · rw [if_pos h3]
        exact .inl ⟨91, rfl, by decide⟩
      · rw [if_neg h3]
        refine .inr (.inr (.inr ⟨rfl, ?_, ?_, ?_⟩))
        · rcases Nat.eq_zero_or_pos (getN G CLEN) with h | h
          · exact h
          · exact absurd (.inr (.inl h)) h2
        · exact fun h => h2 (.inl h)
        · rcases code_three (elems G TENC) with h | h | h
          · exact h
          · exact absurd h h3
          · exact absurd (.inr (.inr h)) h2
  · rw [if_neg h1]
    have h1' : getN G TENC = 0 := by omega
    by_cases h2 : getN G CLEN = 0
    · rw [if_pos h2]
      exact .inr (.inl ⟨rfl, h2, h1'⟩)
    · rw [if_neg h2]
      by_cases h3 : lenN G < 0
      · rw [if_pos h3]
        exact .inl ⟨90, rfl, by decide⟩
      · rw [if_neg h3]
        by_cases h4 : most < lenN G
        · rw [if_pos h4]
          exact .inl ⟨101, rfl, by decide⟩
        · rw [if_neg h4]
          exact .inr (.inr (.inl ⟨rfl, h1', by omega, by omega, by omega⟩))
end Go.Proofs.YtgkdepoimnmhfaaDoor.OneWay

/- A request that two readers could frame differently is never taken: FrameOneWay returns true. -/
namespace Go.Proofs.YtgkdepoimnmhfaaDoor.FrameOneWayW
open Go.ChangeShapes Go.WideShapes Go.ChangeAt Go.RowKit LexPure Bytes Ret Rows1 FieldsPure HeadPure FramePure Flds HBox KeptRow Held FRow FrameObj FrAnchor FCopied OneWay RLower RElements RDecimal R7Elements HArg Mem Texts LexNum LexFlat
set_option maxRecDepth 100000
set_option linter.unusedVariables false
/-- the law's head, its framing, and the two lists that it gathers -/
structure Ga (w W : World) (g gf B : Nat) (h : H8) (v : Value) (k n : Int) (X Y : List (List UInt8)) (x y : Value) : Prop where
  head : LB w W g h v
  fr : Has W gf 27 #[.int .i64 k, .int .i64 n]
  lt : gf < W.heap.size
  rx : W.ownsRow B 9 1 x X.length (strs X)
  ry : W.ownsRow B 9 1 y Y.length (strs Y)
  ap : ∀ j, x.ownBlock = some j → y.ownBlock ≠ some j
  gB : g < B
  fB : gf < B
  hB : B ≤ W.heap.size
theorem Ga.call {w W W' : World} {g gf B : Nat} {h : H8} {v : Value} {k n : Int} {X Y : List (List UInt8)} {x y : Value} (q : Ga w W g gf B h v k n X Y x y) (hb : Below W.heap.size W W') : Ga w W' g gf B h v k n X Y x y :=
  ⟨q.head.call hb, q.fr.below hb q.lt, Nat.lt_of_lt_of_le q.lt hb.size, row_below q.rx hb, row_below q.ry hb, q.ap, q.gB, q.fB, Nat.le_trans q.hB hb.size⟩
theorem Ga.swap {w W : World} {g gf B : Nat} {h : H8} {v : Value} {k n : Int} {X Y : List (List UInt8)} {x y : Value} (q : Ga w W g gf B h v k n X Y x y) : Ga w W g gf B h v k n Y X y x :=
  ⟨q.head, q.fr, q.lt, q.ry, q.rx, fun j h1 h2 => q.ap j h2 h1, q.gB, q.fB, q.hB⟩
theorem Ga.grow {w W W' : World} {g gf B : Nat} {h : H8} {v : Value} {k n : Int} {X Y Z : List (List UInt8)} {x y z : Value} (q : Ga w W g gf B h v k n X Y x y) (hF : FL w v h.fields) (hg : W.grownBy W' x.ownBlock)
    (hat : z.ownBlock = x.ownBlock ∨ z.ownBlock = some W.heap.size) (hz : W'.ownsRow B 9 1 z Z.length (strs Z)) : Ga w W' g gf B h v k n Z Y z y := by
  have hx : ∀ j, x.ownBlock = some j → B ≤ j := fun j hj => (q.rx.lt j hj).1
  have hgB := q.gB
  have hfB := q.fB
  have hlw := q.head.low
  have hb : Below w.heap.size w W' := Below.grown q.head.below hg (by have := q.head.lt; omega) (fun j hj => by have := hx j hj; omega)
  have hs : W.heap.size ≤ W'.heap.size := hg.size
  refine ⟨⟨hb, hlw, ⟨q.head.box.has.grown hg (fun e => by have := hx g e.symm; omega)⟩, hF.below hb, Nat.lt_of_lt_of_le q.head.lt hs⟩, q.fr.grown hg (fun e => by have := hx gf e.symm; omega), Nat.lt_of_lt_of_le q.lt hs, hz, q.ry.kept hg ?_, fun j h1 h2 => ?_, q.gB, q.fB, Nat.le_trans q.hB hs⟩
  · cases hy : y.ownBlock with
    | none => exact .inl rfl
    | some j => exact .inr (fun e => q.ap j e.symm hy)
  · rcases hat with e | e
    · exact q.ap j (e.symm.trans h1) h2
    · have := Option.some.inj (e.symm.trans h1)
      have := (q.ry.lt j h2).2
      omega
theorem name_at (f : HField) (n : List UInt8) (hn : lower n = n) : ((ofL (lower f.1)).toList == n) = hit n f := by
  rw [ByteArray.toList_eq, show (ofL (lower f.1)).data.toList = lower f.1 from toL_ofL _, hit_at f n hn]
set_option maxHeartbeats 3200000 in
theorem walkIn (h : H8) (v : Value) (most : Int) (hG : Few h.fields) (hle : h.fields.length ≤ 1048576) (hy : Nice v h.fields.length) (w : World) (hF : FL w v h.fields) (hm : Fit w) :
    Calls Tryd.prog 5 #[hv h v, .int .i64 most] w fun e w' => e = .returned (.bool true) ∧ Below w.heap.size w w' := by
  obtain ⟨i0, hi, hz0, hz1, hz2⟩ := info_parts infoS
  have L0 := Lib.hid (LB.new (Below.refl w.heap.size w) hF)
  have HM := Lib.hid hm
  have HA := Lib.hid (oneway h.minor most h.fields)
  have U1 := Lib.hid (fun w v hF hm => prequest9_any h v most hG hle w hF hm)
  have CP := Lib.hid (fun w v hy hF => copied_any h v (by omega) hy w hF)
  have RE := Lib.hid (fun w v hF => r7elements_any v h.fields ⟨#[116, 114, 97, 110, 115, 102, 101, 114, 45, 101, 110, 99, 111, 100, 105, 110, 103]⟩ (by decide) hG hle w hF)
  rw [show toL ⟨#[116, 114, 97, 110, 115, 102, 101, 114, 45, 101, 110, 99, 111, 100, 105, 110, 103]⟩ = TENC from rfl] at RE
  generalize request9 h.minor h.fields most = r at *
  obtain ⟨r1, r2, r3⟩ := r
  have hF0 := Lib.hid hF
  obtain ⟨p, cap, rfl, _, hcl⟩ := id hF
  replace hcl := Lib.hid hcl
  replace hy := Lib.hid hy
  unfold frv9 at U1
  unfold hv at U1 CP ⊢
  dsimp only at U1
  unfold hc at L0
  clear hF hm
  go_enter Tryd.func5, Tryd.ntmps5
  go_wp2_with fail
  generalize w.alloc (.cells #[.string (ofL h.method), .string (ofL h.target), .int .i64 h.status, .string (ofL h.reason), .int .i64 h.minor, .slice p h.fields.length cap] 24) = W at *
  obtain ⟨g, hg⟩ : ∃ g, g = w.heap.size := ⟨_, rfl⟩
  rw [← hg] at L0 ⊢
  replace hg := Lib.hid hg
  refine (anchor_any _ (HM.out.below L0.out.below)).mono ?_
  rintro e w1 ⟨rfl, hb⟩
  replace L0 := Lib.hid (L0.out.call hb)
  clear hb
  obtain ⟨d0, d1, d2, d3, d4, d5⟩ := L0.out.box.cells
  go_wp2_with fail
  refine (CP.out _ _ hy.out L0.out.list).mono ?_
  rintro e w2 ⟨v2, rfl, hF2, hy2, hb⟩
  replace L0 := Lib.hid (L0.out.call hb)
  clear hb d0 d1 d2 d3 d4 d5
  go_wp2_with fail
  refine (U1.out _ _ hF2 (HM.out.below L0.out.below)).mono ?_
  rintro e w3 ⟨rfl, hb⟩
  replace L0 := Lib.hid ((L0.out.call hb).alloc (.cells #[.int .i64 r1, .int .i64 r2] 27))
  have fx := (Has.new w3 27 #[.int .i64 r1, .int .i64 r2])
  have fs : w3.heap.size < (w3.alloc (.cells #[.int .i64 r1, .int .i64 r2] 27)).heap.size := by simp
  clear hb hF2 hy2 U1 CP
  dsimp only
  iterate 15 go_step
  generalize w3.alloc (.cells #[.int .i64 r1, .int .i64 r2] 27) = W3 at L0 fx fs ⊢
  generalize w3.heap.size = gf at fx fs ⊢
  obtain ⟨d0, d1, d2, d3, d4, d5⟩ := L0.out.box.cells
  have f0 := fx.cell 0
  have f1 := fx.cell 1
  by_cases he : r3 = 0
  rotate_left
  · rcases HA.out with ⟨e, hA, hne⟩ | ⟨hA, _⟩ | ⟨hA, _⟩ | ⟨hA, _⟩
    · injection hA with e1 e2
      injection e2 with e2 e3
      subst e1 e2 e3
      have q : (r3 == 0) = false := beq_eq_false_iff_ne.2 he
      have z := fun w => eqFr 0 0 w
      clear HA RE hcl
      go_wp2_with fail
      go_ret
      exact ⟨rfl, L0.out.below⟩
    all_goals
      injection hA with e1 e2
      injection e2 with e2 e3
      exact absurd e3 he
  · subst he
    clear d0 d1 d2 d3 d4
    have HX : Hid (Ga w W3 g gf W3.heap.size h (.slice p h.fields.length cap) r1 r2 (vals (h.fields.take 0) CLEN) (vals (h.fields.take 0) TENC) (.slice none 0 0) (.slice none 0 0)) :=
      Lib.hid ⟨L0.out, fx, fs, World.ownsRow_nil _ _ _ _, World.ownsRow_nil _ _ _ _, fun j hj => (by cases hj), L0.out.lt, fs, Nat.le_refl _⟩
    generalize W3.heap.size = B0 at HX
    clear fx fs L0
    go_wp2_with fail
    clear d5 f0 f1
    go_loopw [7, 8, 35] (fun x y i wr => ∃ k : Nat, k ≤ h.fields.length ∧ i = .int .i64 k ∧ Hid (Ga w wr g gf B0 h (.slice p h.fields.length cap) r1 r2 (vals (h.fields.take k) CLEN) (vals (h.fields.take k) TENC) x y)) (fun _ _ i _ => h.fields.length - (intOf i).toNat)
    case atStart => exact ⟨0, Nat.zero_le _, rfl, HX⟩
    case round =>
      clear HX
      obtain ⟨k, hk, rfl, HX⟩ := hrel
      by_cases hlt : k < h.fields.length
      · obtain ⟨ga, o, rfl, hgl, hcell⟩ := hcl.out (by omega)
        obtain ⟨c1, c2⟩ := hcell k hlt
        have hbw := HX.out.head.below
        replace c1 := (hbw.cell (p := ⟨ga, o + k * 2, none⟩) hgl).trans c1
        replace c2 := (hbw.cell (p := ⟨ga, o + k * 2 + 1, none⟩) hgl).trans c2
        have hki : (k : Int) < (h.fields.length : Int) := by omega
        obtain ⟨s1, s2⟩ := hG k hlt
        have HL := Lib.hid (fun w => rlower_any (ofL h.fields[k].1) (by rw [ofL_size]; omega) w)
        rw [toL_ofL] at HL
        have HC := Lib.hid (vals_snoc hlt CLEN)
        have HT := Lib.hid (vals_snoc hlt TENC)
        have nC := name_at h.fields[k] CLEN (by decide)
        have nT := name_at h.fields[k] TENC (by decide)
        have hap := hit_apart h.fields[k]
        have hBe : Hid (ofL h.fields[k].2 = ofL h.fields[k].2) := Lib.hid rfl
        have HX1 := Lib.hid (HX.out.call ((Below.refl _ _).alloc (Nat.le_refl _) (.cells #[.string (ofL h.fields[k].1), .string (ofL h.fields[k].2)] 41)))
        have fx := Has.new wr 41 #[.string (ofL h.fields[k].1), .string (ofL h.fields[k].2)]
        have fs : wr.heap.size < (wr.alloc (.cells #[.string (ofL h.fields[k].1), .string (ofL h.fields[k].2)] 41)).heap.size := by simp
        clear hcell hbw HX
        generalize ofL (lower h.fields[k].1) = XA at *
        generalize ofL h.fields[k].1 = A at *
        generalize hBB : ofL h.fields[k].2 = B at c2 HX1 fx fs ⊢
        replace hBe : Hid (ofL h.fields[k].2 = B) := Lib.hid hBB
        clear hBB
        change (XA.toList == [99, 111, 110, 116, 101, 110, 116, 45, 108, 101, 110, 103, 116, 104]) = hit CLEN h.fields[k] at nC
        change (XA.toList == [116, 114, 97, 110, 115, 102, 101, 114, 45, 101, 110, 99, 111, 100, 105, 110, 103]) = hit TENC h.fields[k] at nT
        cases hc1 : hit CLEN h.fields[k]
        · rw [hc1] at nC HC
          cases hc2 : hit TENC h.fields[k]
          · rw [hc2] at nT HT
            simp only [Bool.false_eq_true, if_false] at HC HT
            clear hap hc1 hc2
            go_wp2_with fail
            refine (HL.out _).mono ?_
            rintro e wl ⟨rfl, hb2⟩
            have HN : Hid (Ga w wl g gf B0 h (.slice (some ⟨ga, o, none⟩) h.fields.length cap) r1 r2 (vals (h.fields.take (k + 1)) CLEN) (vals (h.fields.take (k + 1)) TENC) u7 u8) := Lib.hid (by
              rw [HC.out, HT.out]
              exact HX1.out.call hb2)
            clear hb2 fx fs
            go_wp2_with fail
            go_roundw
            case rel => exact ⟨k + 1, by omega, by go_num, HN⟩
            case measure => simp [intOf]; omega
          · rw [hc2] at nT HT
            simp only [Bool.false_eq_true, if_false, if_true] at HC HT
            clear hap hc1 hc2
            go_wp2_with fail
            refine (HL.out _).mono ?_
            rintro e wl ⟨rfl, hb2⟩
            have HG2 := Lib.hid (HX1.out.call hb2)
            have fx2 := fx.below hb2 fs
            have e1 := (fx2.cell 1).trans rfl
            have hrow := HG2.out.ry
            have hlen : (vals (h.fields.take k) TENC).length ≤ 1048576 := Nat.le_trans (vals_take _ _ _) (by omega)
            have hbs : gf + 1 ≤ wl.heap.size := HG2.out.lt
            have hBs := HG2.out.hB
            clear hb2 fx fs fx2
            go_wp2_with (at_builtin; refine wpList_append_own_at _ rfl (.tmp 51) (.tmp 54) 39 rfl B0 9 i0 (.string ByteArray.empty) 1 16 Tryd.underlying39 hi hz0 hz1 hz2 rfl (by decide) _ _ _ rfl (hrow.alloc _) ⟨wl.heap.size, 0, none⟩ 1 1 [.string B] rfl rfl (cell_one_new _ _ _) (fun x hx => by simp at hx; subst hx; rfl) (by unfold maxLen; omega) (by omega) (by simp; omega) ?_; intro v4 w4 hown4 hg4 hn4 hat4)
            have HN : Hid (Ga w w4 g gf B0 h (.slice (some ⟨ga, o, none⟩) h.fields.length cap) r1 r2 (vals (h.fields.take (k + 1)) CLEN) (vals (h.fields.take (k + 1)) TENC) u7 v4) := Lib.hid (by
              rw [HC.out, HT.out]
              rw [← hBe.out, show [Value.string (ofL h.fields[k].2)] = strs [h.fields[k].2] from rfl, ← strs_append] at hown4
              exact ((HG2.out.call ((Below.refl _ _).alloc (Nat.le_refl _) _)).swap.grow hF0.out hg4 hat4 (by rw [List.length_append]; exact hown4)).swap)
            clear hown4 hg4 hat4 hn4 hrow
            go_wp2_with fail
            go_roundw
            case rel => exact ⟨k + 1, by omega, by go_num, HN⟩
            case measure => simp [intOf]; omega
        · rw [hc1] at nC HC
          have hc2 := hap hc1
          rw [hc2] at nT HT
          simp only [Bool.false_eq_true, if_false, if_true] at HC HT
          clear hap hc1 hc2
          go_wp2_with fail
          refine (HL.out _).mono ?_
          rintro e wl ⟨rfl, hb2⟩
          have HG2 := Lib.hid (HX1.out.call hb2)
          have fx2 := fx.below hb2 fs
          have e1 := (fx2.cell 1).trans rfl
          have hrow := HG2.out.rx
          have hlen : (vals (h.fields.take k) CLEN).length ≤ 1048576 := Nat.le_trans (vals_take _ _ _) (by omega)
          have hbs : gf + 1 ≤ wl.heap.size := HG2.out.lt
          have hBs := HG2.out.hB
          clear hb2 fx fs fx2
          go_wp2_with (at_builtin; refine wpList_append_own_at _ rfl (.tmp 44) (.tmp 47) 39 rfl B0 9 i0 (.string ByteArray.empty) 1 16 Tryd.underlying39 hi hz0 hz1 hz2 rfl (by decide) _ _ _ rfl (hrow.alloc _) ⟨wl.heap.size, 0, none⟩ 1 1 [.string B] rfl rfl (cell_one_new _ _ _) (fun x hx => by simp at hx; subst hx; rfl) (by unfold maxLen; omega) (by omega) (by simp; omega) ?_; intro v4 w4 hown4 hg4 hn4 hat4)
          have HN : Hid (Ga w w4 g gf B0 h (.slice (some ⟨ga, o, none⟩) h.fields.length cap) r1 r2 (vals (h.fields.take (k + 1)) CLEN) (vals (h.fields.take (k + 1)) TENC) v4 u8) := Lib.hid (by
            rw [HC.out, HT.out]
            rw [← hBe.out, show [Value.string (ofL h.fields[k].2)] = strs [h.fields[k].2] from rfl, ← strs_append] at hown4
            exact (HG2.out.call ((Below.refl _ _).alloc (Nat.le_refl _) _)).grow hF0.out hg4 hat4 (by rw [List.length_append]; exact hown4))
          clear hown4 hg4 hat4 hn4 hrow
          go_wp2_with fail
          go_roundw
          case rel => exact ⟨k + 1, by omega, by go_num, HN⟩
          case measure => simp [intOf]; omega
      · have hke : k = h.fields.length := by omega
        subst hke
        rw [List.take_length] at HX
        have hxl := vals_len h.fields CLEN
        have hyl := vals_len h.fields TENC
        have hxr := @vals_right h.fields
        have hxs := vals_short CLEN hG
        generalize vals h.fields CLEN = X at *
        generalize vals h.fields TENC = Y at *
        generalize lenN h.fields = N at *
        obtain ⟨px, capx, rfl, hlex, _⟩ := texts_of HX.out.rx
        obtain ⟨py, capy, rfl, hley, _⟩ := texts_of HX.out.ry
        have f0 := (HX.out.fr.cell 0).trans rfl
        have f1 := (HX.out.fr.cell 1).trans rfl
        have hGs := Lib.hid hG
        clear hcl hlt hk hy hG
        rcases HA.out with ⟨e, hA, hne⟩ | ⟨hA, hC, hT⟩ | ⟨hA, hT, hC, h0, hm2⟩ | ⟨hA, hC, hmi, hco⟩
        · injection hA with e1 e2
          injection e2 with e2 e3
          exact absurd e3.symm hne
        · injection hA with e1 e2
          injection e2 with e2 e3
          subst e1 e2
          have hx0 : X.length = 0 := by omega
          have hy0 : Y.length = 0 := by omega
          clear HA hxr hxs RE
          rw [hx0, hy0]
          rw [hx0] at hlex
          rw [hy0] at hley
          go_wp2_with fail
          go_ret
          exact ⟨rfl, HX.out.head.below⟩
        · injection hA with e1 e2
          injection e2 with e2 e3
          subst e1 e2
          have hy0 : Y.length = 0 := by omega
          have hxp : 0 < X.length := by omega
          have hxq : ((X.length : Int) == 0) = false := beq_eq_false_iff_ne.2 (by omega)
          have hz1 : ¬ (r2 < 0) := by omega
          have hz2 : ¬ (most < r2) := by omega
          replace hxr := Lib.hid (hxr h0)
          replace hxs := Lib.hid hxs
          clear HA RE hxl hyl hC hT e3
          rw [hy0]
          go_wp2_with fail
          generalize hvl : Value.slice px X.length capx = xv at HX ⊢
          replace hvl := Lib.hid hvl
          have HX0 := HX
          clear HX f0 f1
          go_loopw [92] (fun i wr => ∃ j : Nat, j ≤ X.length ∧ i = .int .i64 j ∧ Hid (Ga w wr g gf B0 h (.slice p h.fields.length cap) 2 r2 X Y xv (.slice py Y.length capy))) (fun i _ => X.length - (intOf i).toNat)
          case atStart => exact ⟨0, Nat.zero_le _, rfl, HX0⟩
          case round =>
            clear HX0
            obtain ⟨j, hj, rfl, HX⟩ := hrel
            by_cases hlt : j < X.length
            · obtain ⟨p2, cap2, hpe, _, hc2⟩ := texts_of HX.out.rx
              obtain ⟨gx, o, rfl, hgx, hcell⟩ := hc2 (by omega)
              have c := hcell j hlt
              have hji : (j : Int) < (X.length : Int) := by omega
              have hsh := hxs.out X[j] (List.getElem_mem hlt)
              have hrt := Lib.hid (hxr.out X[j] (List.getElem_mem hlt))
              have HE := Lib.hid (fun w => relements_any (ofL X[j]) (by rw [ofL_size]; omega) w)
              rw [toL_ofL] at HE
              have hes : Hid (∀ q ∈ elements X[j], q.length ≤ 1048576) := Lib.hid (fun q hq => Nat.le_trans (elements_short hq) hsh)
              have hel := elements_len X[j]
              generalize X[j] = V at *
              generalize elements V = E at *
              clear hcell hc2
              subst hpe
              go_wp2_with fail
              refine (HE.out _).mono ?_
              rintro e wE ⟨v3, rfl, hr3, hb3⟩
              have HX3 := Lib.hid (HX.out.call hb3)
              have f1 := (HX3.out.fr.cell 1).trans rfl
              obtain ⟨p3, cap3, rfl, hle3, hc3⟩ := texts_of hr3
              replace hc3 := Lib.hid hc3
              clear hb3 hr3 HX c HE
              go_wp2_with fail
              go_loop [99] (fun i => ∃ m : Nat, m ≤ E.length ∧ i = .int .i64 m) (fun i => E.length - (intOf i).toNat)
              case atStart => exact ⟨0, Nat.zero_le _, rfl⟩
              case round =>
                obtain ⟨m, hm, rfl⟩ := hrel
                by_cases hmt : m < E.length
                · obtain ⟨g3, o3, rfl, hg3, hcell3⟩ := hc3.out (by omega)
                  have c3 := hcell3 m hmt
                  have hmi : (m : Int) < (E.length : Int) := by omega
                  have hs3 := hes.out E[m] (List.getElem_mem hmt)
                  have HD := Lib.hid (fun w => rdecimal_any (ofL E[m]) (by rw [ofL_size]; unfold maxLen; omega) 15 w)
                  rw [toL_ofL, show min (15 : Int) 18 = 15 from rfl, (hrt.out E[m] (List.getElem_mem hmt)).1, (hrt.out E[m] (List.getElem_mem hmt)).2] at HD
                  generalize ofL E[m] = S at *
                  clear hcell3
                  go_wp2_with fail
                  refine (HD.out _).mono ?_
                  rintro e w' ⟨rfl, rfl⟩
                  go_wp2_with fail
                  go_round
                  case rel => exact ⟨m + 1, by omega, by go_num⟩
                  case measure => simp [intOf]; omega
                · have hme : m = E.length := by omega
                  subst hme
                  go_wp2_with fail
                  go_roundw
                  case rel => exact ⟨j + 1, by omega, by go_num, HX3⟩
                  case measure => simp [intOf]; omega
            · have hje : j = X.length := by omega
              subst hje
              go_wp2_with fail
              go_ret
              exact ⟨rfl, HX.out.head.below⟩
        · injection hA with e1 e2
          injection e2 with e2 e3
          subst e1 e2
          have hx0 : X.length = 0 := by omega
          obtain ⟨x, hex, hlx⟩ := (code_one _).1 hco
          rw [hex] at RE
          have hmz : (h.minor != 0) = true := bne_iff_ne.2 hmi
          have hsx : x.length ≤ 1048576 := by
            have := R7Has.elems_short h.fields TENC hGs.out 0 (by rw [hex]; exact Nat.zero_lt_one)
            simp only [hex] at this
            exact this
          have HL := Lib.hid (fun w => rlower_any (ofL x) (by rw [ofL_size]; omega) w)
          rw [toL_ofL, hlx] at HL
          have hq : ((ofL CHUNKED).toList == [99, 104, 117, 110, 107, 101, 100]) = true := by
            rw [ByteArray.toList_eq, show (ofL CHUNKED).data.toList = CHUNKED from toL_ofL _]
            rfl
          generalize ofL CHUNKED = XC at *
          have RE2 := Lib.hid (RE.out _ _ HX.out.head.list)
          obtain ⟨d0, d1, d2, d3, d4, d5⟩ := HX.out.head.box.cells
          clear HA hxr hxs RE hxl hyl hC hco hex e3 hlx hsx
          rw [hx0]
          go_wp2_with fail
          refine RE2.out.mono ?_
          rintro e wE ⟨v3, rfl, hr3, hb3⟩
          have HX3 := Lib.hid (HX.out.call hb3)
          obtain ⟨p3, cap3, rfl, hle3, hc3⟩ := texts_of hr3
          obtain ⟨g3, o3, rfl, hg3, hcell3⟩ := hc3 Nat.zero_lt_one
          have c3 : wE.cell? ⟨g3, o3, none⟩ = some (.string (ofL x)) := hcell3 0 Nat.zero_lt_one
          clear hb3 hr3 HX hc3 hcell3 RE2 d0 d1 d2 d3 d4 d5
          obtain ⟨d0, d1, d2, d3, d4, d5⟩ := HX3.out.head.box.cells
          rw [show [x].length = 1 from rfl]
          generalize ofL x = XX at *
          go_wp2_with fail
          refine (HL.out _).mono ?_
          rintro e wL ⟨rfl, hb⟩
          have HB := Lib.hid (HX3.out.call hb).head.below
          clear hb HX3 c3 d0 d1 d2 d3 d4 d5
          go_wp2_with fail
          go_ret
          exact ⟨rfl, HB.out⟩
theorem walk {H : Type} {enc : TypeId × Value → H} {W : World} {base : Nat} (v : Value) (d : DataW H) (p : List MemPlace) (hv : Value.okWide Tryd.prog W .any base 24 v)
    (hd : DataW.Trod enc Tryd.prog W 0 (fun _ => true) true 24 v d p) (hl : ∀ x ∈ p, x.block < W.heap.size) (hb : Rows.uptoBulk d ≤ 1048576)
    (most : Int) (w1 : (Lit.int .i64 most).wf = true) (hsh : W.ShapedOpen Tryd.prog) :
    Calls Tryd.prog 5 #[v, .int .i64 most] W fun e w' => e = .returned (.bool true) ∧ Below W.heap.size W w' := by
  obtain ⟨x, l, rfl, hF, hG, hle, hy, _⟩ := head_arg hv hd hb
  exact walkIn x l most hG hle hy W hF (Fit.of_shape hsh)
end Go.Proofs.YtgkdepoimnmhfaaDoor.FrameOneWayW
