/- Layer 7 of the program: values, the values of a name's fields, one after the other. -/
import Derived.Test.YtgkmkkgneipabaaDoorR7Get
import Derived.Test.YtgkmkkgneipabaaDoorPAlike
import Derived.RangeFuncNested
import Derived.RangeFuncBound
import Derived.RangeFuncCalls
import Derived.RangeFuncLeaves
import Derived.Shelf.Abstract
import Derived.Shelf.RegionOpen
import Derived.WalkKit
import Derived.OwnWalkIn
import Derived.TacticsInMore
import Derived.LoopNIn
import Derived.LoopIn
namespace Go.Proofs.YtgkmkkgneipabaaDoor.PVals
open Go.ChangeShapes Go.WideShapes Go.ChangeAt Go.RowKit LexPure Bytes Ret FieldsPure Flds R7Get PAlike Mem Go.Shelf
set_option maxRecDepth 20000
attribute [local go_sem] Oper.semAt_some
/-- a value, as long as a value may be -/
def V : Type := { x : List UInt8 // x.length ≤ 1048576 }
def clamp (x : List UInt8) : V := ⟨x.take 1048576, by rw [List.length_take]; omega⟩
theorem clamp_val {x : List UInt8} (h : x.length ≤ 1048576) : (clamp x).1 = x := List.take_of_length_le h
def encV (x : V) : Array Value := #[.string (ofL x.1)]
/-- the values of a name -/
def vs (G : List HField) (n : List UInt8) : List V := (G.filter (hit n)).map (fun f => clamp f.2)
theorem vs_append (a b : List HField) (n : List UInt8) : vs (a ++ b) n = vs a n ++ vs b n := by simp [vs]
theorem vs_one (f : HField) (n : List UInt8) : vs [f] n = if hit n f then [clamp f.2] else [] := by
  unfold vs
  cases h : hit n f <;> simp [h]
theorem vs_len (G : List HField) (n : List UInt8) : (vs G n).length ≤ G.length := by
  unfold vs
  rw [List.length_map]
  exact List.length_filter_le _ _
/-- what a round keeps: what lay below n₀, and the name's box -/
def Kp (n₀ Bn : Nat) (nm : ByteArray) (A B : World) : Prop := Below n₀ A B ∧ (A.cell? ⟨Bn, 0, none⟩ = some (.string nm) → B.cell? ⟨Bn, 0, none⟩ = some (.string nm))
theorem kp_t {n₀ Bn : Nat} {nm : ByteArray} {A B C : World} (h : Kp n₀ Bn nm A B) (k : Kp n₀ Bn nm B C) : Kp n₀ Bn nm A C := ⟨h.1.trans k.1, fun x => k.2 (h.2 x)⟩
theorem kp_b {n₀ Bn : Nat} {nm : ByteArray} {w : World} (hn : n₀ ≤ w.heap.size) (hb : Bn < w.heap.size) (W : World) (l : Nat) (o o' : Obj) (hl : w.heap.size ≤ l) (h : W.heap[l]? = some o) (h1 : o.isCells = false) (h2 : o.isWalk = false) : Kp n₀ Bn nm W (W.putObj l o') :=
  ⟨belowK_b hn W l o o' hl h h1 h2, fun x => by
    have hne : l ≠ Bn := by omega
    have hb := World.block_lt_of_cell? _ _ x
    have := (Below.refl (Bn + 1) W).grown (grownBy_putObj' W l o') (by exact hb) (fun k e => by cases e; omega)
    exact (this.cell (p := ⟨Bn, 0, none⟩) (Nat.lt_succ_self _)).trans x⟩
/-- the list lies in a block below n₀ -/
def Under (n₀ : Nat) (w : World) (v : Value) (G : List HField) : Prop := ∃ p cap, v = .slice p G.length cap ∧ G.length ≤ 4398046511104 ∧ (0 < G.length → ∃ g o, p = some ⟨g, o, none⟩ ∧ g < n₀ ∧ ∀ j (hj : j < G.length), w.cell? ⟨g, o + j * 2, none⟩ = some (.string (ofL G[j].1)) ∧ w.cell? ⟨g, o + j * 2 + 1, none⟩ = some (.string (ofL G[j].2)))
theorem FL.under {w : World} {v : Value} {G : List HField} (h : FL w v G) : Under w.heap.size w v G := h
theorem Under.below {n₀ : Nat} {w w' : World} {v : Value} {G : List HField} (h : Under n₀ w v G) (hb : Below n₀ w w') : Under n₀ w' v G := by
  obtain ⟨p, cap, hv, hn, hc⟩ := h
  refine ⟨p, cap, hv, hn, fun h0 => ?_⟩
  obtain ⟨g, o, hp, hlt, hcell⟩ := hc h0
  exact ⟨g, o, hp, hlt, fun j hj => ⟨(hb.cell (p := ⟨g, o + j * 2, none⟩) hlt).trans (hcell j hj).1, (hb.cell (p := ⟨g, o + j * 2 + 1, none⟩) hlt).trans (hcell j hj).2⟩⟩
theorem grown_of_below {w w' : World} (h : Below w.heap.size w w') : w.grownBy w' none := ⟨h.os, h.tape, h.output, h.size, fun k hk _ => h.block k hk⟩
set_option maxHeartbeats 1600000 in
theorem pvalues_any (p : Option Addr) (len cap : Nat) (nm : ByteArray) (w : World) :
    Calls Tryd.prog 27 #[.slice p len cap, .string nm] w fun e w' => e = .returned (.func (.func 44) #[] #[.pointer (some ⟨w.heap.size, 0, none⟩), .pointer (some ⟨w.heap.size + 1, 0, none⟩)]) ∧ w' = (w.alloc (.cells #[.slice p len cap] 22)).alloc (.cells #[.string nm] 9) := by
  go_enter Tryd.func27, Tryd.ntmps27
  go_wp2_with fail
  go_ret
  exact ⟨rfl, rfl⟩
set_option maxHeartbeats 3200000 in
theorem vals_in (n l Bs Bn n₀ : Nat) (G : List HField) (hG : Few G) (nm : ByteArray) (v : Value) (J Jx : List V → World → Prop) (W : World)
    (hJ : AbidesFrom W.heap.size J) (hn0 : n₀ ≤ W.heap.size)
    (hY : ∀ pre x W1, J pre W1 → pre.length < G.length → YieldAt Fence.wide (n - 1) Tryd.prog l (encV x) W1 fun e W' =>
      (e = .returned (.bool true) ∧ J (pre ++ [x]) W' ∧ Kp n₀ Bn nm W1 W') ∨ (e = .returned (.bool false) ∧ Jx (pre ++ [x]) W'))
    (hBs : W.cell? ⟨Bs, 0, none⟩ = some v) (hBn : W.cell? ⟨Bn, 0, none⟩ = some (.string nm)) (hL : Under n₀ W v G) (h0 : J [] W) :
    CallsIn Fence.wide n Tryd.prog 44 #[.func (.yield l) #[] #[], .pointer (some ⟨Bs, 0, none⟩), .pointer (some ⟨Bn, 0, none⟩)] W fun e W' => (∃ v, e = .returned v) ∧
      ((∃ ys, ys = vs G (toL nm) ∧ J ys W') ∨ (∃ pre, pre <+: vs G (toL nm) ∧ Jx pre W')) := by
  obtain ⟨p, cap, rfl, hle, hc⟩ := hL
  refine callsIn_of_wp Tryd.func44 rfl trivial ?_ rfl
  simp only [Tryd.ntmps44, List.size_toArray, List.length_cons, List.length_nil, Nat.reduceAdd, Nat.reduceSub, Array.replicate_succ, Array.replicate_zero, List.push_toArray, List.append_toArray, List.nil_append, List.cons_append]
  replace hc := Lib.hid hc
  replace hG := Lib.hid hG
  replace hJ := Lib.hid hJ
  replace hY := Lib.hid hY
  have H0 := Lib.hid h0
  clear h0
  gi_wp2
  clear hBs
  have HB0 : Hid (Below n₀ W W) := Lib.hid (Below.refl _ _)
  have HN0 := Lib.hid hBn
  clear hBn
  gi_loopw [8] (fun i wr => ∃ k : Nat, k ≤ G.length ∧ i = .int .i64 k ∧ Hid (J (vs (G.take k) (toL nm)) wr) ∧ Hid (Below n₀ W wr) ∧ Hid (wr.cell? ⟨Bn, 0, none⟩ = some (.string nm)))
    (fun i _ => G.length - (intOf i).toNat)
  case atStart => exact ⟨0, Nat.zero_le _, rfl, H0, HB0, HN0⟩
  case round =>
    obtain ⟨k, hk, rfl, HJ, HB, HN⟩ := hrel
    clear H0 HB0 HN0
    by_cases hlt : k < G.length
    · obtain ⟨g, o, rfl, hgl, hcell⟩ := hc.out (by omega)
      obtain ⟨c1, c2⟩ := hcell k hlt
      have hki : (k : Int) < (G.length : Int) := by omega
      obtain ⟨s1, s2⟩ := hG.out k hlt
      replace c1 := (HB.out.cell (p := ⟨g, o + k * 2, none⟩) hgl).trans c1
      replace c2 := (HB.out.cell (p := ⟨g, o + k * 2 + 1, none⟩) hgl).trans c2
      have hgw : n₀ ≤ wr.heap.size := Nat.le_trans hn0 HB.out.size
      have HA := Lib.hid (fun w => palike_any (ofL G[k].1) nm (by rw [ofL_size]; unfold maxLen; omega) w)
      rw [toL_ofL] at HA
      have HT : Hid (vs (G.take (k + 1)) (toL nm) = vs (G.take k) (toL nm) ++ if hit (toL nm) G[k] then [clamp G[k].2] else []) := Lib.hid (by rw [← vs_one, ← vs_append, List.take_add_one, List.getElem?_eq_getElem hlt]; rfl)
      have hn := HN.out
      have hbn := World.block_lt_of_cell? _ _ hn
      clear hcell
      cases hh : hit (toL nm) G[k]
      · rw [hh] at HT
        rw [show alike G[k].1 (toL nm) = false from hh] at HA
        clear hh
        gi_wp2_with fail
        refine ⟨trivial, fun h => (by cases h), ?_⟩
        refine (callsIn_wide.2 (HA.out _)).mono ?_
        rintro e w2 ⟨rfl, hb2⟩
        have hb3 := below_chain ((Below.refl wr.heap.size wr).alloc (Nat.le_refl _) (.cells #[.string (ofL G[k].1), .string (ofL G[k].2)] 38)) hb2
        have HJ2 : Hid (J (vs (G.take (k + 1)) (toL nm)) w2) := Lib.hid (by
          rw [HT.out, if_neg (by decide), List.append_nil]
          exact hJ.out _ _ _ none HJ.out (grown_of_below hb3) (fun _ e => by cases e))
        have HB2 : Hid (Below n₀ W w2) := Lib.hid (HB.out.trans (hb3.mono hgw))
        have HN2 : Hid (w2.cell? ⟨Bn, 0, none⟩ = some (.string nm)) := Lib.hid ((hb3.cell (p := ⟨Bn, 0, none⟩) hbn).trans hn)
        clear hb3 hb2 c1 c2 hn hbn HJ HB HN HT HA hY hJ
        gi_wp2_with fail
        refine ⟨fun _ h => (by cases h), ?_⟩
        gi_wp2
        go_roundw
        case rel => exact ⟨k + 1, by omega, by go_num, HJ2, HB2, HN2⟩
        case measure => simp [intOf]; omega
      · rw [hh] at HT
        rw [show alike G[k].1 (toL nm) = true from hh] at HA
        clear hh
        gi_wp2_with fail
        refine ⟨trivial, fun h => (by cases h), ?_⟩
        refine (callsIn_wide.2 (HA.out _)).mono ?_
        rintro e w2 ⟨rfl, hb2⟩
        have hbx := (Has.new wr 38 #[.string (ofL G[k].1), .string (ofL G[k].2)]).cell 1
        have hb3 := below_chain ((Below.refl wr.heap.size wr).alloc (Nat.le_refl _) (.cells #[.string (ofL G[k].1), .string (ofL G[k].2)] 38)) hb2
        have cv : w2.cell? ⟨wr.heap.size, 1, none⟩ = some (.string (ofL G[k].2)) := (hb2.cell (p := ⟨wr.heap.size, 1, none⟩) (by simp)).trans hbx
        have HJ2 : Hid (J (vs (G.take k) (toL nm)) w2) := Lib.hid (hJ.out _ _ _ none HJ.out (grown_of_below hb3) (fun _ e => by cases e))
        have HB2 : Hid (Below n₀ W w2) := Lib.hid (HB.out.trans (hb3.mono hgw))
        have HN2 : Hid (w2.cell? ⟨Bn, 0, none⟩ = some (.string nm)) := Lib.hid ((hb3.cell (p := ⟨Bn, 0, none⟩) hbn).trans hn)
        have hlen : (vs (G.take k) (toL nm)).length < G.length := by
          have h1 := vs_len (G.take k) (toL nm)
          have h2 := List.length_take_le k G
          omega
        obtain ⟨fn, tmps, assign, body, hy, hR⟩ := hY.out (vs (G.take k) (toL nm)) (clamp G[k].2) w2 HJ2.out hlen
        rw [show encV (clamp G[k].2) = #[.string (ofL G[k].2)] by unfold encV; rw [clamp_val s2]] at hy
        have HR := Lib.hid hR
        rw [if_pos trivial] at HT
        clear hR hb3 hb2 hbx c1 c2 hn hbn HJ HB HN HA hJ hlen HJ2
        gi_wp2_with fail
        refine ⟨fun h => (by cases h), ?_⟩
        refine HR.out.mono ?_
        rintro e W3 (⟨rfl, hJ3, hk3⟩ | ⟨rfl, hJx3⟩)
        · have HJ3 : Hid (J (vs (G.take (k + 1)) (toL nm)) W3) := Lib.hid (by rw [HT.out]; exact hJ3)
          have HB3 : Hid (Below n₀ W W3) := Lib.hid (HB2.out.trans hk3.1)
          have HN3 := Lib.hid (hk3.2 HN2.out)
          clear hJ3 hk3 HR HB2 HN2 HT cv hY
          gi_wp2
          go_roundw
          case rel => exact ⟨k + 1, by omega, by go_num, HJ3, HB3, HN3⟩
          case measure => simp [intOf]; omega
        · have HX : Hid (∃ pre, pre <+: vs G (toL nm) ∧ Jx pre W3) := Lib.hid ⟨_, ⟨vs (G.drop (k + 1)) (toL nm), by rw [← HT.out, ← vs_append, List.take_append_drop]⟩, hJx3⟩
          clear hJx3 HR HB2 HN2 HT cv hY
          gi_wp2
          refine bodyPost_ret (results_none rfl _ _ _) rfl ?_
          exact ⟨⟨_, rfl⟩, .inr HX.out⟩
    · have hall : G.take k = G := List.take_of_length_le (by omega)
      have HJE := HJ.out
      rw [hall] at HJE
      have HJH := Lib.hid HJE
      clear HJE HJ hall hY hJ
      gi_wp2
      go_end0
      exact ⟨⟨_, rfl⟩, .inl ⟨_, rfl, HJH.out⟩⟩
/-- the values, one after the other: all of them, or as many as a round let come -/
theorem vals_stops (n Bs Bn n₀ : Nat) (G : List HField) (hG : Few G) (nm : ByteArray) (v : Value) (w : World) (hBs : Bs < w.heap.size) (hn0 : n₀ ≤ w.heap.size)
    (hc : w.cell? ⟨Bs, 0, none⟩ = some v) (hcn : w.cell? ⟨Bn, 0, none⟩ = some (.string nm)) (hL : Under n₀ w v G) :
    SeqStopsK Fence.wide n Tryd.prog 44 #[.pointer (some ⟨Bs, 0, none⟩), .pointer (some ⟨Bn, 0, none⟩)] encV (Kp n₀ Bn nm) (fun ys => ys = vs G (toL nm)) (fun pre => pre <+: vs G (toL nm)) G.length w :=
  fun l J Jx W hW hJ _ hY h0 =>
    vals_in n l Bs Bn n₀ G hG nm v J Jx W hJ (Nat.le_trans hn0 hW.size) hY ((hW.cell (p := ⟨Bs, 0, none⟩) hBs).trans hc) ((hW.cell (p := ⟨Bn, 0, none⟩) (World.block_lt_of_cell? _ _ hcn)).trans hcn) (hL.below (hW.mono hn0)) h0
end Go.Proofs.YtgkmkkgneipabaaDoor.PVals
