/- Texts of this seat, one behind another: PValsW, PRemoveW, PSetW, PGetW, R7Same. -/
import Derived.Test.YtgkmkkgneipabaaDoorR7Get
import Derived.Test.YtgkmkkgneipabaaDoorPAlike
import Derived.RangeFuncNested
import Derived.RangeFuncBound
import Derived.RangeFuncCalls
import Derived.RangeFuncLeaves
import Derived.Shelf.Abstract
import Derived.Shelf.RegionOpen
import Derived.WalkKit
import Derived.OwnWalkIn
import Derived.TacticsInMore
import Derived.LoopNIn
import Derived.LoopIn
import Derived.Test.YtgkmkkgneipabaaDoorPWithout
import Derived.RangeFuncBox
import Derived.Maps.AppendAt
import Derived.Test.YtgkmkkgneipabaaDoorFlds
import Derived.Outline
import Derived.LoopTactic
import Derived.Laws.StructEq
import Derived.Deep.QuietTactic
import Derived.BigQuiet
/- Layer 7 of the program, for lists of any size: values, the values of a name's fields, one after the other. -/
namespace Go.Proofs.YtgkmkkgneipabaaDoor.PValsW
open Go.ChangeShapes Go.WideShapes Go.ChangeAt Go.RowKit LexPure Bytes Ret FieldsPure Flds R7Get PAlike Mem Go.Shelf
set_option maxRecDepth 20000
attribute [local go_sem] Oper.semAt_some
/-- every name and value is a text -/
def Wide (G : List HField) : Prop := ∀ (j : Nat) (h : j < G.length), G[j].1.length ≤ 9223372036854775807 ∧ G[j].2.length ≤ 9223372036854775807
/-- a value, as long as a value may be -/
def V : Type := { x : List UInt8 // x.length ≤ 9223372036854775807 }
def clamp (x : List UInt8) : V := ⟨x.take 9223372036854775807, by rw [List.length_take]; omega⟩
theorem clamp_val {x : List UInt8} (h : x.length ≤ 9223372036854775807) : (clamp x).1 = x := List.take_of_length_le h
def encV (x : V) : Array Value := #[.string (ofL x.1)]
/-- the values of a name -/
def vs (G : List HField) (n : List UInt8) : List V := (G.filter (hit n)).map (fun f => clamp f.2)
theorem vs_append (a b : List HField) (n : List UInt8) : vs (a ++ b) n = vs a n ++ vs b n := by simp [vs]
theorem vs_one (f : HField) (n : List UInt8) : vs [f] n = if hit n f then [clamp f.2] else [] := by
  unfold vs
  cases h : hit n f <;> simp [h]
theorem vs_len (G : List HField) (n : List UInt8) : (vs G n).length ≤ G.length := by
  unfold vs
  rw [List.length_map]
  exact List.length_filter_le _ _
/-- what a round keeps: what lay below n₀, and the name's box -/
def Kp (n₀ Bn : Nat) (nm : ByteArray) (A B : World) : Prop := Below n₀ A B ∧ (A.cell? ⟨Bn, 0, none⟩ = some (.string nm) → B.cell? ⟨Bn, 0, none⟩ = some (.string nm))
theorem kp_t {n₀ Bn : Nat} {nm : ByteArray} {A B C : World} (h : Kp n₀ Bn nm A B) (k : Kp n₀ Bn nm B C) : Kp n₀ Bn nm A C := ⟨h.1.trans k.1, fun x => k.2 (h.2 x)⟩
theorem kp_b {n₀ Bn : Nat} {nm : ByteArray} {w : World} (hn : n₀ ≤ w.heap.size) (hb : Bn < w.heap.size) (W : World) (l : Nat) (o o' : Obj) (hl : w.heap.size ≤ l) (h : W.heap[l]? = some o) (h1 : o.isCells = false) (h2 : o.isWalk = false) : Kp n₀ Bn nm W (W.putObj l o') :=
  ⟨belowK_b hn W l o o' hl h h1 h2, fun x => by
    have hne : l ≠ Bn := by omega
    have hb := World.block_lt_of_cell? _ _ x
    have := (Below.refl (Bn + 1) W).grown (grownBy_putObj' W l o') (by exact hb) (fun k e => by cases e; omega)
    exact (this.cell (p := ⟨Bn, 0, none⟩) (Nat.lt_succ_self _)).trans x⟩
/-- the list lies in a block below n₀ -/
def Under (n₀ : Nat) (w : World) (v : Value) (G : List HField) : Prop := ∃ p cap, v = .slice p G.length cap ∧ G.length ≤ 4398046511104 ∧ (0 < G.length → ∃ g o, p = some ⟨g, o, none⟩ ∧ g < n₀ ∧ ∀ j (hj : j < G.length), w.cell? ⟨g, o + j * 2, none⟩ = some (.string (ofL G[j].1)) ∧ w.cell? ⟨g, o + j * 2 + 1, none⟩ = some (.string (ofL G[j].2)))
theorem FL.under {w : World} {v : Value} {G : List HField} (h : FL w v G) : Under w.heap.size w v G := h
theorem Under.below {n₀ : Nat} {w w' : World} {v : Value} {G : List HField} (h : Under n₀ w v G) (hb : Below n₀ w w') : Under n₀ w' v G := by
  obtain ⟨p, cap, hv, hn, hc⟩ := h
  refine ⟨p, cap, hv, hn, fun h0 => ?_⟩
  obtain ⟨g, o, hp, hlt, hcell⟩ := hc h0
  exact ⟨g, o, hp, hlt, fun j hj => ⟨(hb.cell (p := ⟨g, o + j * 2, none⟩) hlt).trans (hcell j hj).1, (hb.cell (p := ⟨g, o + j * 2 + 1, none⟩) hlt).trans (hcell j hj).2⟩⟩
theorem grown_of_below {w w' : World} (h : Below w.heap.size w w') : w.grownBy w' none := ⟨h.os, h.tape, h.output, h.size, fun k hk _ => h.block k hk⟩
set_option maxHeartbeats 1600000 in
theorem pvalues_any (p : Option Addr) (len cap : Nat) (nm : ByteArray) (w : World) :
    Calls Tryd.prog 27 #[.slice p len cap, .string nm] w fun e w' => e = .returned (.func (.func 44) #[] #[.pointer (some ⟨w.heap.size, 0, none⟩), .pointer (some ⟨w.heap.size + 1, 0, none⟩)]) ∧ w' = (w.alloc (.cells #[.slice p len cap] 22)).alloc (.cells #[.string nm] 9) := by
  go_enter Tryd.func27, Tryd.ntmps27
  go_wp2_with fail
  go_ret
  exact ⟨rfl, rfl⟩
set_option maxHeartbeats 3200000 in
theorem vals_in (n l Bs Bn n₀ : Nat) (G : List HField) (hG : Wide G) (nm : ByteArray) (v : Value) (J Jx : List V → World → Prop) (W : World)
    (hJ : AbidesFrom W.heap.size J) (hn0 : n₀ ≤ W.heap.size)
    (hY : ∀ pre x W1, J pre W1 → pre.length < G.length → YieldAt Fence.wide (n - 1) Tryd.prog l (encV x) W1 fun e W' =>
      (e = .returned (.bool true) ∧ J (pre ++ [x]) W' ∧ Kp n₀ Bn nm W1 W') ∨ (e = .returned (.bool false) ∧ Jx (pre ++ [x]) W'))
    (hBs : W.cell? ⟨Bs, 0, none⟩ = some v) (hBn : W.cell? ⟨Bn, 0, none⟩ = some (.string nm)) (hL : Under n₀ W v G) (h0 : J [] W) :
    CallsIn Fence.wide n Tryd.prog 44 #[.func (.yield l) #[] #[], .pointer (some ⟨Bs, 0, none⟩), .pointer (some ⟨Bn, 0, none⟩)] W fun e W' => (∃ v, e = .returned v) ∧
      ((∃ ys, ys = vs G (toL nm) ∧ J ys W') ∨ (∃ pre, pre <+: vs G (toL nm) ∧ Jx pre W')) := by
  obtain ⟨p, cap, rfl, hle, hc⟩ := hL
  refine callsIn_of_wp Tryd.func44 rfl trivial ?_ rfl
  simp only [Tryd.ntmps44, List.size_toArray, List.length_cons, List.length_nil, Nat.reduceAdd, Nat.reduceSub, Array.replicate_succ, Array.replicate_zero, List.push_toArray, List.append_toArray, List.nil_append, List.cons_append]
  replace hc := Lib.hid hc
  replace hG := Lib.hid hG
  replace hJ := Lib.hid hJ
  replace hY := Lib.hid hY
  have H0 := Lib.hid h0
  clear h0
  gi_wp2
  clear hBs
  have HB0 : Hid (Below n₀ W W) := Lib.hid (Below.refl _ _)
  have HN0 := Lib.hid hBn
  clear hBn
  gi_loopw [8] (fun i wr => ∃ k : Nat, k ≤ G.length ∧ i = .int .i64 k ∧ Hid (J (vs (G.take k) (toL nm)) wr) ∧ Hid (Below n₀ W wr) ∧ Hid (wr.cell? ⟨Bn, 0, none⟩ = some (.string nm)))
    (fun i _ => G.length - (intOf i).toNat)
  case atStart => exact ⟨0, Nat.zero_le _, rfl, H0, HB0, HN0⟩
  case round =>
    obtain ⟨k, hk, rfl, HJ, HB, HN⟩ := hrel
    clear H0 HB0 HN0
    by_cases hlt : k < G.length
    · obtain ⟨g, o, rfl, hgl, hcell⟩ := hc.out (by omega)
      obtain ⟨c1, c2⟩ := hcell k hlt
      have hki : (k : Int) < (G.length : Int) := by omega
      obtain ⟨s1, s2⟩ := hG.out k hlt
      replace c1 := (HB.out.cell (p := ⟨g, o + k * 2, none⟩) hgl).trans c1
      replace c2 := (HB.out.cell (p := ⟨g, o + k * 2 + 1, none⟩) hgl).trans c2
      have hgw : n₀ ≤ wr.heap.size := Nat.le_trans hn0 HB.out.size
      have HA := Lib.hid (fun w => palike_any (ofL G[k].1) nm (by rw [ofL_size]; unfold maxLen; omega) w)
      rw [toL_ofL] at HA
      have HT : Hid (vs (G.take (k + 1)) (toL nm) = vs (G.take k) (toL nm) ++ if hit (toL nm) G[k] then [clamp G[k].2] else []) := Lib.hid (by rw [← vs_one, ← vs_append, List.take_add_one, List.getElem?_eq_getElem hlt]; rfl)
      have hn := HN.out
      have hbn := World.block_lt_of_cell? _ _ hn
      clear hcell
      cases hh : hit (toL nm) G[k]
      · rw [hh] at HT
        rw [show alike G[k].1 (toL nm) = false from hh] at HA
        clear hh
        gi_wp2_with fail
        refine ⟨trivial, fun h => (by cases h), ?_⟩
        refine (callsIn_wide.2 (HA.out _)).mono ?_
        rintro e w2 ⟨rfl, hb2⟩
        have hb3 := below_chain ((Below.refl wr.heap.size wr).alloc (Nat.le_refl _) (.cells #[.string (ofL G[k].1), .string (ofL G[k].2)] 38)) hb2
        have HJ2 : Hid (J (vs (G.take (k + 1)) (toL nm)) w2) := Lib.hid (by
          rw [HT.out, if_neg (by decide), List.append_nil]
          exact hJ.out _ _ _ none HJ.out (grown_of_below hb3) (fun _ e => by cases e))
        have HB2 : Hid (Below n₀ W w2) := Lib.hid (HB.out.trans (hb3.mono hgw))
        have HN2 : Hid (w2.cell? ⟨Bn, 0, none⟩ = some (.string nm)) := Lib.hid ((hb3.cell (p := ⟨Bn, 0, none⟩) hbn).trans hn)
        clear hb3 hb2 c1 c2 hn hbn HJ HB HN HT HA hY hJ
        gi_wp2_with fail
        refine ⟨fun _ h => (by cases h), ?_⟩
        gi_wp2
        go_roundw
        case rel => exact ⟨k + 1, by omega, by go_num, HJ2, HB2, HN2⟩
        case measure => simp [intOf]; omega
      · rw [hh] at HT
        rw [show alike G[k].1 (toL nm) = true from hh] at HA
        clear hh
        gi_wp2_with fail
        refine ⟨trivial, fun h => (by cases h), ?_⟩
        refine (callsIn_wide.2 (HA.out _)).mono ?_
        rintro e w2 ⟨rfl, hb2⟩
        have hbx := (Has.new wr 38 #[.string (ofL G[k].1), .string (ofL G[k].2)]).cell 1
        have hb3 := below_chain ((Below.refl wr.heap.size wr).alloc (Nat.le_refl _) (.cells #[.string (ofL G[k].1), .string (ofL G[k].2)] 38)) hb2
        have cv : w2.cell? ⟨wr.heap.size, 1, none⟩ = some (.string (ofL G[k].2)) := (hb2.cell (p := ⟨wr.heap.size, 1, none⟩) (by simp)).trans hbx
        have HJ2 : Hid (J (vs (G.take k) (toL nm)) w2) := Lib.hid (hJ.out _ _ _ none HJ.out (grown_of_below hb3) (fun _ e => by cases e))
        have HB2 : Hid (Below n₀ W w2) := Lib.hid (HB.out.trans (hb3.mono hgw))
        have HN2 : Hid (w2.cell? ⟨Bn, 0, none⟩ = some (.string nm)) := Lib.hid ((hb3.cell (p := ⟨Bn, 0, none⟩) hbn).trans hn)
        have hlen : (vs (G.take k) (toL nm)).length < G.length := by
          have h1 := vs_len (G.take k) (toL nm)
          have h2 := List.length_take_le k G
          omega
        obtain ⟨fn, tmps, assign, body, hy, hR⟩ := hY.out (vs (G.take k) (toL nm)) (clamp G[k].2) w2 HJ2.out hlen
        rw [show encV (clamp G[k].2) = #[.string (ofL G[k].2)] by unfold encV; rw [clamp_val s2]] at hy
        have HR := Lib.hid hR
        rw [if_pos trivial] at HT
        clear hR hb3 hb2 hbx c1 c2 hn hbn HJ HB HN HA hJ hlen HJ2
        gi_wp2_with fail
        refine ⟨fun h => (by cases h), ?_⟩
        refine HR.out.mono ?_
        rintro e W3 (⟨rfl, hJ3, hk3⟩ | ⟨rfl, hJx3⟩)
        · have HJ3 : Hid (J (vs (G.take (k + 1)) (toL nm)) W3) := Lib.hid (by rw [HT.out]; exact hJ3)
          have HB3 : Hid (Below n₀ W W3) := Lib.hid (HB2.out.trans hk3.1)
          have HN3 := Lib.hid (hk3.2 HN2.out)
          clear hJ3 hk3 HR HB2 HN2 HT cv hY
          gi_wp2
          go_roundw
          case rel => exact ⟨k + 1, by omega, by go_num, HJ3, HB3, HN3⟩
          case measure => simp [intOf]; omega
        · have HX : Hid (∃ pre, pre <+: vs G (toL nm) ∧ Jx pre W3) := Lib.hid ⟨_, ⟨vs (G.drop (k + 1)) (toL nm), by rw [← HT.out, ← vs_append, List.take_append_drop]⟩, hJx3⟩
          clear hJx3 HR HB2 HN2 HT cv hY
          gi_wp2
          refine bodyPost_ret (results_none rfl _ _ _) rfl ?_
          exact ⟨⟨_, rfl⟩, .inr HX.out⟩
    · have hall : G.take k = G := List.take_of_length_le (by omega)
      have HJE := HJ.out
      rw [hall] at HJE
      have HJH := Lib.hid HJE
      clear HJE HJ hall hY hJ
      gi_wp2
      go_end0
      exact ⟨⟨_, rfl⟩, .inl ⟨_, rfl, HJH.out⟩⟩
/-- the values, one after the other: all of them, or as many as a round let come -/
theorem vals_stops (n Bs Bn n₀ : Nat) (G : List HField) (hG : Wide G) (nm : ByteArray) (v : Value) (w : World) (hBs : Bs < w.heap.size) (hn0 : n₀ ≤ w.heap.size)
    (hc : w.cell? ⟨Bs, 0, none⟩ = some v) (hcn : w.cell? ⟨Bn, 0, none⟩ = some (.string nm)) (hL : Under n₀ w v G) :
    SeqStopsK Fence.wide n Tryd.prog 44 #[.pointer (some ⟨Bs, 0, none⟩), .pointer (some ⟨Bn, 0, none⟩)] encV (Kp n₀ Bn nm) (fun ys => ys = vs G (toL nm)) (fun pre => pre <+: vs G (toL nm)) G.length w :=
  fun l J Jx W hW hJ _ hY h0 =>
    vals_in n l Bs Bn n₀ G hG nm v J Jx W hJ (Nat.le_trans hn0 hW.size) hY ((hW.cell (p := ⟨Bs, 0, none⟩) hBs).trans hc) ((hW.cell (p := ⟨Bn, 0, none⟩) (World.block_lt_of_cell? _ _ hcn)).trans hcn) (hL.below (hW.mono hn0)) h0
end Go.Proofs.YtgkmkkgneipabaaDoor.PValsW

/- Layer 7 of the program, for lists of any size: Remove. -/
namespace Go.Proofs.YtgkmkkgneipabaaDoor.PRemoveW
open Go.ChangeShapes Go.WideShapes Go.ChangeAt Go.RowKit LexPure Bytes Ret Rows1 FieldsPure Flds R7Get R7Remove PWithout PAlike PValsW Mem Go.Shelf
set_option maxRecDepth 20000
set_option maxHeartbeats 1600000 in
theorem premove1_any (a b nm : ByteArray) (ha : a.size ≤ maxLen) (bx : Nat) (w : World) (hx : w.cell? ⟨bx, 0, none⟩ = some (.string nm)) :
    Calls Tryd.prog 39 #[.agg #[.string a, .string b], .pointer (some ⟨bx, 0, none⟩)] w fun e w' => e = .returned (.bool (alike (toL a) (toL nm))) ∧ Below w.heap.size w w' := by
  have hbx := World.block_lt_of_cell? _ _ hx
  have HA := Lib.hid (fun w => palike_any a nm ha w)
  go_enter Tryd.func39, Tryd.ntmps39
  go_wp2_with fail
  refine (HA.out _).mono ?_
  rintro e w2 ⟨rfl, hb2⟩
  have HB := Lib.hid (below_chain ((Below.refl w.heap.size w).alloc (Nat.le_refl _) (.cells #[.string a, .string b] 38)) hb2)
  clear hb2 hx
  go_wp2_with fail
  go_ret
  exact ⟨rfl, HB.out⟩
set_option maxHeartbeats 1600000 in
theorem premove_any (v : Value) (G : List HField) (n : ByteArray) (hG : Wide G) (hle2 : G.length ≤ 4398046511103) (w : World) (hF : FL w v G) :
    Calls Tryd.prog 22 #[v, .string n] w fun e w' => ∃ v', e = .returned v' ∧ w'.ownsRow w.heap.size 38 2 v' (remove G (toL n)).length (encFs (remove G (toL n))) ∧ Below w.heap.size w w' := by
  have hx := (Has.new w 9 #[.string n]).cell 0
  have hb := (Below.refl w.heap.size w).alloc (Nat.le_refl _) (.cells #[.string n] 9)
  have hsz : w.heap.size < (w.alloc (.cells #[.string n] 9)).heap.size := by simp
  have HW := Lib.hid (pwithout_any 39 w.heap.size (enters_of Tryd.func39 (by kernel_rfl) rfl) (hit (toL n)) v G (by omega) (w.alloc (.cells #[.string n] 9)) (hF.below hb) (fun j hj W hW => by
    have h := premove1_any (ofL G[j].1) (ofL G[j].2) n (by rw [ofL_size]; unfold maxLen; have := (hG j hj).1; omega) w.heap.size W ((hW.cell (p := ⟨w.heap.size, 0, none⟩) hsz).trans hx)
    rw [toL_ofL] at h
    exact h))
  obtain ⟨p, cap, rfl, _, _⟩ := hF
  have HB := Lib.hid hb
  clear hx hb hsz hG
  go_enter Tryd.func22, Tryd.ntmps22
  go_wp2_with fail
  refine HW.out.mono ?_
  rintro e w2 ⟨v2, rfl, hrow, hb2⟩
  have HR : Hid (w2.ownsRow w.heap.size 38 2 v2 (remove G (toL n)).length (encFs (remove G (toL n))) ∧ Below w.heap.size w w2) := Lib.hid ⟨row_mono hrow HB.out.size, below_chain HB.out hb2⟩
  clear hrow hb2 HW HB
  go_wp2_with fail
  go_ret
  exact ⟨_, rfl, HR.out⟩
end Go.Proofs.YtgkmkkgneipabaaDoor.PRemoveW

/- Layer 7 of the program, for lists of any size: Set. -/
namespace Go.Proofs.YtgkmkkgneipabaaDoor.PSetW
open Go.ChangeShapes Go.WideShapes Go.ChangeAt Go.RowKit LexPure Bytes Ret Rows1 FieldsPure Flds R7Get R7Remove PRemoveW PValsW Mem
set_option maxRecDepth 20000
set_option maxHeartbeats 1600000 in
theorem pset_any (v : Value) (G : List HField) (n x : ByteArray) (hG : Wide G) (hle2 : G.length ≤ 4398046511103) (w : World) (hF : FL w v G) :
    Calls Tryd.prog 20 #[v, .string n, .string x] w fun e w' => ∃ v', e = .returned v' ∧ w'.ownsRow w.heap.size 38 2 v' (setF G (toL n) (toL x)).length (encFs (setF G (toL n) (toL x))) ∧ Below w.heap.size w w' := by
  obtain ⟨i0, hi, hz0, hz1, hz2⟩ := info_parts infoF
  have HR := Lib.hid (premove_any v G n hG hle2 w hF)
  have hlen := remove_len G (toL n)
  have HX : Hid (encFs (setF G (toL n) (toL x)) = encFs (remove G (toL n)) ++ encF (toL n, toL x)) := Lib.hid (by unfold setF; rw [encFs_append]; rfl)
  have HL : Hid ((setF G (toL n) (toL x)).length = (remove G (toL n)).length + 1) := Lib.hid (by unfold setF; simp)
  obtain ⟨p, cap, rfl, _, _⟩ := hF
  clear hG
  go_enter Tryd.func20, Tryd.ntmps20
  go_wp2_with fail
  refine HR.out.mono ?_
  rintro e w2 ⟨v2, rfl, hrow2, hb2⟩
  have hrow := row_below hrow2 ((Below.refl w2.heap.size w2).alloc (Nat.le_refl _) (.cells #[.string n, .string x] 38))
  have HB := Lib.hid (hb2.alloc hb2.size (.cells #[.string n, .string x] 38))
  have HLT := Lib.hid (fun j (hj : v2.ownBlock = some j) => (hrow2.lt j hj).1)
  have HN := Lib.hid (World.news_of_block (heap_alloc_new w2 (.cells #[.string n, .string x] 38)))
  clear hrow2 hb2 HR
  go_wp2_with (at_builtin; refine wpList_append_own_at _ rfl _ _ 22 rfl w.heap.size 38 i0 _ 2 32 Tryd.underlying22 hi hz0 hz1 hz2 rfl (by omega) _ _ _ rfl hrow ⟨w2.heap.size, 0, none⟩ 1 1 [.string n, .string x] rfl rfl HN.out (by simp [Value.oneCell']) (by simp only [maxLen]; omega) (by omega) HB.out.size ?_; intro v4 w4 hown4 hg4 _ hat4)
  have HE : Hid (w4.ownsRow w.heap.size 38 2 v4 (setF G (toL n) (toL x)).length (encFs (setF G (toL n) (toL x))) ∧ Below w.heap.size w w4) := Lib.hid (by
    rw [HX.out, HL.out]
    unfold encF
    rw [ofL_toL, ofL_toL]
    exact ⟨hown4, Below.grown HB.out hg4 HB.out.size HLT.out⟩)
  clear hown4 hg4 hat4 hrow
  go_wp2_with fail
  go_ret
  exact ⟨_, rfl, HE.out⟩
end Go.Proofs.YtgkmkkgneipabaaDoor.PSetW

/- Layer 7 of the program, for lists of any size: Get. -/
namespace Go.Proofs.YtgkmkkgneipabaaDoor.PGetW
open Go.ChangeShapes Go.WideShapes Go.ChangeAt Go.RowKit LexPure Bytes Ret FieldsPure Flds R7Get PAlike PValsW Mem Go.Shelf
set_option maxRecDepth 100000
attribute [local go_sem] Oper.semAt_some
def firstV : List V → List UInt8
  | [] => []
  | x :: _ => x.1
theorem firstV_snoc (pre : List V) (x : V) : firstV (pre ++ [x]) = if pre.length = 0 then x.1 else firstV pre := by
  cases pre with
  | nil => rfl
  | cons => rfl
theorem vs_first (G : List HField) (hG : ∀ f ∈ G, f.2.length ≤ 9223372036854775807) (n : List UInt8) : firstV (vs G n) = getV G n ∧ (vs G n).length = getN G n := by
  induction G with
  | nil => exact ⟨rfl, rfl⟩
  | cons f G ih =>
    obtain ⟨h1, h2⟩ := ih (fun g hg => hG g (List.mem_cons_of_mem _ hg))
    rw [show f :: G = [f] ++ G from rfl, vs_append, vs_one, List.singleton_append, getV_cons, getN_cons]
    cases h : hit n f
    · simp only [Bool.false_eq_true, if_false, List.nil_append]
      exact ⟨h1, h2⟩
    · simp only [if_true, List.singleton_append, List.length_cons]
      exact ⟨clamp_val (hG f List.mem_cons_self), by rw [h2]⟩
theorem wide_all {G : List HField} (h : Wide G) : ∀ f ∈ G, f.1.length ≤ 9223372036854775807 ∧ f.2.length ≤ 9223372036854775807 := fun f hf => by
  obtain ⟨j, hj, rfl⟩ := List.mem_iff_getElem.1 hf
  exact h j hj
set_option maxHeartbeats 3200000 in
theorem pget_any (v : Value) (G : List HField) (nm : ByteArray) (hG : Wide G) (w : World) (hF : FL w v G) :
    Calls Tryd.prog 10 #[v, .string nm] w fun e w' => e = .returned (.tuple #[.string (ofL (getV G (toL nm))), .int .i64 (getN G (toL nm))]) ∧ Below w.heap.size w w' := by
  obtain ⟨hv1, hv2⟩ := vs_first G (fun f hf => (wide_all hG f hf).2) (toL nm)
  obtain ⟨p, cap, hvv, hle, _⟩ := id hF
  subst hvv
  have HF := Lib.hid hF
  have HG := Lib.hid hG
  have HV := Lib.hid hv1
  have HN := Lib.hid hv2
  clear hF hG hv1 hv2
  refine (callsIn_wide (n := 3)).1 ?_
  refine callsIn_of_wp_marks Tryd.func10 rfl trivial ?_ rfl
  simp only [Tryd.ntmps10, List.size_toArray, List.length_cons, List.length_nil, Nat.reduceAdd, Nat.reduceSub, Array.replicate_succ, Array.replicate_zero, List.push_toArray, List.append_toArray, List.nil_append, List.cons_append]
  gi_wp2_with fail
  refine ⟨trivial, ?_⟩
  refine (callsIn_wide.2 (pvalues_any _ _ _ nm _)).mono ?_
  rintro e w' ⟨rfl, rfl⟩
  gi_wp2
  have b0 := (((Boxed.new w 9 (.string ⟨#[]⟩)).alloc (.cells #[.int .i64 0] 3)).alloc (.cells #[.slice p G.length cap] 22)).alloc (.cells #[.string nm] 9)
  have b1 := ((Boxed.new (w.alloc (.cells #[.string ⟨#[]⟩] 9)) 3 (.int .i64 0)).alloc (.cells #[.slice p G.length cap] 22)).alloc (.cells #[.string nm] 9)
  have b2 := (Boxed.new ((w.alloc (.cells #[.string ⟨#[]⟩] 9)).alloc (.cells #[.int .i64 0] 3)) 22 (.slice p G.length cap)).alloc (.cells #[.string nm] 9)
  have b3 := Boxed.new (((w.alloc (.cells #[.string ⟨#[]⟩] 9)).alloc (.cells #[.int .i64 0] 3)).alloc (.cells #[.slice p G.length cap] 22)) 9 (.string nm)
  have hB0 : Below w.heap.size w ((((w.alloc (.cells #[.string ⟨#[]⟩] 9)).alloc (.cells #[.int .i64 0] 3)).alloc (.cells #[.slice p G.length cap] 22)).alloc (.cells #[.string nm] 9)) :=
    ((((Below.refl _ w).alloc (Nat.le_refl _) _).alloc (by simp) _).alloc (by simp; omega) _).alloc (by simp; omega) _
  have hsz : ((((w.alloc (.cells #[.string ⟨#[]⟩] 9)).alloc (.cells #[.int .i64 0] 3)).alloc (.cells #[.slice p G.length cap] 22)).alloc (.cells #[.string nm] 9)).heap.size = w.heap.size + 1 + 1 + 1 + 1 := by simp
  simp only [World.size_alloc] at b1 b2 b3
  generalize ((((w.alloc (.cells #[.string ⟨#[]⟩] 9)).alloc (.cells #[.int .i64 0] 3)).alloc (.cells #[.slice p G.length cap] 22)).alloc (.cells #[.string nm] 9)) = W0 at *
  have hU := (FL.under HF.out).below hB0
  clear HF
  refine wpIn_rangeFunc_ownG rfl (by omega) (gf := 44) (lb := #[.pointer (some ⟨w.heap.size + 1 + 1, 0, none⟩), .pointer (some ⟨w.heap.size + 1 + 1 + 1, 0, none⟩)]) rfl trivial (enters_of Tryd.func44 (by kernel_rfl) rfl)
    (vals_stops (3 - 1) (w.heap.size + 1 + 1) (w.heap.size + 1 + 1 + 1) w.heap.size G HG.out nm (.slice p G.length cap) W0 b2.lt (by omega) b2.cell b3.cell hU) kp_t (kp_b (by omega) b3.lt) (Below.refl _ _) (fun _ => rfl)
    (fun pre W => Boxed W w.heap.size 9 (.string (ofL (firstV pre))) ∧ Boxed W (w.heap.size + 1) 3 (.int .i64 (pre.length : Nat)) ∧ Boxed W (w.heap.size + 1 + 1 + 1) 9 (.string nm) ∧ Below w.heap.size w W)
    (fun _ _ _ => False)
    (OwnFrom.and (Own.from (boxed_own _ _ _) _) (OwnFrom.and (Own.from (boxed_own _ _ (fun pre : List V => Value.int .i64 (pre.length : Nat))) _) (OwnFrom.and (Own.from (boxed_own _ _ (fun _ => Value.string nm)) _) (ownFrom_below (Nat.le_refl _) (by omega)))))
    (fun _ _ _ _ _ hs _ _ => hs)
    ⟨b0, b1, b3, hB0⟩
    (fun x => { tmps := #[.slice p G.length cap, .string nm, undef, undef, .string ⟨#[]⟩, .int .i64 0, .pointer (some ⟨w.heap.size, 0, none⟩), .pointer (some ⟨w.heap.size + 1, 0, none⟩), .string (ofL x.1), .slice p G.length cap, .string nm, .func (.func 44) #[] #[.pointer (some ⟨w.heap.size + 1 + 1, 0, none⟩), .pointer (some ⟨w.heap.size + 1 + 1 + 1, 0, none⟩)], .string (ofL x.1), undef, undef, undef, undef, undef, undef, undef], defers := [] }) ?assign ?body ?done ?stop
  case assign =>
    intro l x W K hK
    dsimp only [encV]
    gi_wp2
    exact hK
  case body =>
    rintro l pre x W ⟨h0, h1, h3, hB⟩ hlt
    have c0 := h0.cell
    have f0 := h0.frozen
    have c1 := h1.cell
    have f1 := h1.frozen
    have hfs := firstV_snoc pre x
    have hls : ((pre ++ [x]).length : Int) = (pre.length : Int) + 1 := by simp
    have hk : ∀ u : Value, KeepsFrom W0.heap.size W ((W.setCell ⟨w.heap.size, 0, none⟩ (.string (ofL x.1))).setCell ⟨w.heap.size + 1, 0, none⟩ u) ∧ Below w.heap.size W ((W.setCell ⟨w.heap.size, 0, none⟩ (.string (ofL x.1))).setCell ⟨w.heap.size + 1, 0, none⟩ u) := fun u =>
      ⟨((KeepsOthers.setCell _ _ _).trans (KeepsOthers.setCell _ _ _)).from _, ((Below.refl w.heap.size W).setCell (p := ⟨w.heap.size, 0, none⟩) (Nat.le_refl _) _).setCell (p := ⟨w.heap.size + 1, 0, none⟩) (by simp) _⟩
    have hk2 : ∀ u : Value, KeepsFrom W0.heap.size W (W.setCell ⟨w.heap.size + 1, 0, none⟩ u) ∧ Below w.heap.size W (W.setCell ⟨w.heap.size + 1, 0, none⟩ u) := fun u =>
      ⟨(KeepsOthers.setCell _ _ _).from _, (Below.refl w.heap.size W).setCell (p := ⟨w.heap.size + 1, 0, none⟩) (by simp) _⟩
    clear b0 b1 b2 b3 hU HG HV HN
    by_cases hz : pre.length = 0
    · rw [if_pos hz] at hfs
      have hz2 : (pre.length : Int) = 0 := by omega
      rw [hz2] at c1 hls
      clear hz2
      gi_wp2
      obtain ⟨k1, k2⟩ := hk (.int .i64 1)
      refine ⟨k1, ⟨k2, fun _ => ((h3.other (by omega) _).other (by omega) _).cell⟩, ?_, ?_, (h3.other (by omega) _).other (by omega) _, hB.trans k2⟩
      · rw [hfs]
        exact (h0.set _).other (by omega) _
      · rw [hls]
        exact (h1.other (by omega) _).set _
    · rw [if_neg hz] at hfs
      have hlt2 : (pre.length : Int) < 4398046511104 := by omega
      have hpos : (0 : Int) < (pre.length : Int) := by omega
      have hne : ((pre.length : Int) == 0) = false := beq_eq_false_iff_ne.2 (by omega)
      replace hls := Lib.hid hls
      replace hfs := Lib.hid hfs
      replace h1 := Lib.hid h1
      clear hz hlt
      generalize hm : (pre.length : Int) = m at *
      replace hm := Lib.hid hm
      gi_wp2
      obtain ⟨k1, k2⟩ := hk2 (.int .i64 (m + 1))
      refine ⟨k1, ⟨k2, fun _ => (h3.other (by omega) _).cell⟩, ?_, ?_, h3.other (by omega) _, hB.trans k2⟩
      · rw [hfs.out]
        exact h0.other (by omega) _
      · rw [hls.out]
        exact h1.out.set _
  case done =>
    rintro D ys W hD rfl ⟨h0, h1, h3, hB⟩ hK
    have c0 := h0.cell
    have c1 := h1.cell
    clear b0 b1 b2 b3 hU
    gi_wp2
    gi_quiet (fail)
    gi_wp2
    have hBd : Below w.heap.size w (W.drewN nq) := ⟨hB.os, hB.tape, hB.output, hB.size, hB.block⟩
    refine ⟨by simp, .inl ⟨_, _, rfl, run_takeDeferred (w := W.drewN nq) hK, ?_⟩⟩
    refine ⟨_, results_tmp2 rfl _ _ _, ?_, hBd.trans (belowK_b (w := w) (Nat.le_refl _) (W.drewN nq) D _ _ (by omega) hK rfl rfl)⟩
    rw [← HV.out, ← HN.out]
    rfl
  case stop =>
    rintro D c pre W _ _ h _
    exact h.elim
end Go.Proofs.YtgkmkkgneipabaaDoor.PGetW

/- Layer 7, the document's own Same. -/
namespace Go.Proofs.YtgkmkkgneipabaaDoor.R7Same
open Go.ChangeShapes Go.WideShapes Go.ChangeAt Go.RowKit LexPure Bytes Ret Rows1 FieldsPure Flds Mem
set_option maxRecDepth 20000
theorem neqF (a b c d : ByteArray) (p q : Bool) (h1 : (a.toList == c.toList) = p) (h2 : (b.toList == d.toList) = q) (w : World) : (binOp .neq 38 (.agg #[.string a, .string b]) (.agg #[.string c, .string d])).run Tryd.prog w = .ok (.bool (!(p && q))) w := by
  have u9 := Tryd.underlying9
  have a9 := Tryd.isAgg9
  have z9 := Tryd.sizeOf9
  have hS : Tryd.prog.underlying 38 = some (.struct (Tryd.prog.fieldsOf 38)) := by kernel_rfl
  have hp : Tryd.prog.stoodInHeld 38 = false := by kernel_rfl
  rw [run_neq_struct, show (10000 : Nat) = 9999 + 1 from rfl, run_equalIn_agg w 9999 38 _ _ hS hp]
  simp only [Program.fieldsOf, Tryd.underlying38]
  cases p
  · go_simp
  · cases q
    · go_simp
    · go_simp
theorem take_ext7 {G H : List HField} {k : Nat} (hk : k < G.length) (hk2 : k < H.length) (h : G.take k = H.take k) (he : G[k] = H[k]) : G.take (k + 1) = H.take (k + 1) := by
  rw [List.take_add_one, List.take_add_one, h, List.getElem?_eq_getElem hk, List.getElem?_eq_getElem hk2, he]
set_option maxHeartbeats 1600000 in
theorem r7same_any (v1 v2 : Value) (G H : List HField) (w : World) (h1 : FL w v1 G) (h2 : FL w v2 H) :
    Calls Tryd.prog 19 #[v1, v2] w fun e w' => e = .returned (.bool (G == H)) ∧ ∃ m, w' = w.drewN m := by
  obtain ⟨p1, c1, rfl, hn1, HC1⟩ := h1
  obtain ⟨p2, c2, rfl, hn2, HC2⟩ := h2
  replace HC1 := Lib.hid HC1
  replace HC2 := Lib.hid HC2
  by_cases hl : G.length = H.length
  · have hq : ((G.length : Int) != (H.length : Int)) = false := by rw [hl]; exact bne_self_eq_false _
    go_enter Tryd.func19, Tryd.ntmps19
    go_wp2_with fail
    go_loopw [5] (fun i wr => ∃ k : Nat, k ≤ G.length ∧ i = .int .i64 k ∧ Hid (G.take k = H.take k) ∧ Hid (∃ m, wr = w.drewN m)) (fun i _ => G.length - (intOf i).toNat)
    case atStart => exact ⟨0, Nat.zero_le _, rfl, Lib.hid rfl, Lib.hid ⟨0, rfl⟩⟩
    case round =>
      obtain ⟨k, hk, rfl, ht, hw⟩ := hrel
      obtain ⟨m, rfl⟩ := hw.out
      by_cases hlt : k < G.length
      · have hki : (k : Int) < (G.length : Int) := by omega
        have hkj : (k : Int) < (H.length : Int) := by omega
        obtain ⟨g1, o1, rfl, _, hcell1⟩ := HC1.out (by omega)
        obtain ⟨g2, o2, rfl, _, hcell2⟩ := HC2.out (by omega)
        obtain ⟨d1, d3⟩ := hcell1 k hlt
        obtain ⟨d2, d4⟩ := hcell2 k (by omega)
        clear hcell1 hcell2
        have hd : ∀ q : Bool, (G[k] == H[k]'(by omega)) = q → (((ofL G[k].1).toList == (ofL (H[k]'(by omega)).1).toList) && ((ofL G[k].2).toList == (ofL (H[k]'(by omega)).2).toList)) = q := fun q hq => by
          rw [same_ofL, same_ofL]; exact hq
        by_cases he : G[k] = H[k]'(by omega)
        · have HT := Lib.hid (take_ext7 hlt (by omega) ht.out he)
          have hnq := fun w => neqF (ofL G[k].1) (ofL G[k].2) (ofL (H[k]'(by omega)).1) (ofL (H[k]'(by omega)).2) true true (by rw [same_ofL, he]; exact beq_self_eq_true _) (by rw [same_ofL, he]; exact beq_self_eq_true _) w
          clear he hd
          generalize ofL G[k].1 = s1 at *
          generalize ofL G[k].2 = s2 at *
          generalize ofL (H[k]'(by omega)).1 = s3 at *
          generalize ofL (H[k]'(by omega)).2 = s4 at *
          clear HC1 HC2 ht hw
          go_wp2_with fail
          go_quiet (fail)
          have HW : Hid (∃ m1, (w.drewN m).drewN nq = w.drewN m1) := Lib.hid ⟨m + nq, by simp⟩
          generalize ((w.drewN m).drewN nq) = w2 at *
          go_wp2_with fail
          go_roundw
          case rel => exact ⟨k + 1, by omega, by go_num, HT, HW⟩
          case measure => simp [intOf]; omega
        · have HV : Hid ((G == H) = false) := Lib.hid (by
            rw [beq_eq_false_iff_ne]
            intro h
            subst h
            exact he rfl)
          have hde := hd false (beq_eq_false_iff_ne.2 he)
          have hnq : ∀ w, (binOp .neq 38 (.agg #[.string (ofL G[k].1), .string (ofL G[k].2)]) (.agg #[.string (ofL (H[k]'(by omega)).1), .string (ofL (H[k]'(by omega)).2)])).run Tryd.prog w = .ok (.bool true) w := fun w => by
            have := neqF (ofL G[k].1) (ofL G[k].2) (ofL (H[k]'(by omega)).1) (ofL (H[k]'(by omega)).2) _ _ rfl rfl w
            rw [hde] at this
            exact this
          clear he hd hde
          generalize ofL G[k].1 = s1 at *
          generalize ofL G[k].2 = s2 at *
          generalize ofL (H[k]'(by omega)).1 = s3 at *
          generalize ofL (H[k]'(by omega)).2 = s4 at *
          clear HC1 HC2 ht hw
          go_wp2_with fail
          go_quiet (fail)
          have HW : Hid (∃ m1, (w.drewN m).drewN nq = w.drewN m1) := Lib.hid ⟨m + nq, by simp⟩
          generalize ((w.drewN m).drewN nq) = w2 at *
          go_wp2_with fail
          go_ret
          exact ⟨ret_bool HV.out.symm, HW.out⟩
      · have HV : Hid ((G == H) = true) := Lib.hid (by
          have h := ht.out
          rw [List.take_of_length_le (by omega), List.take_of_length_le (by omega)] at h
          rw [h]
          exact beq_self_eq_true _)
        have HW := Lib.hid hw.out
        clear hw
        generalize (w.drewN m) = w2 at *
        go_wp2_with fail
        go_ret
        exact ⟨ret_bool HV.out.symm, HW.out⟩
  · have HV : Hid ((G == H) = false) := Lib.hid (by
      rw [beq_eq_false_iff_ne]
      intro h
      exact hl (by rw [h]))
    have hq : ((G.length : Int) != (H.length : Int)) = true := by
      rw [bne_iff_ne]
      omega
    go_enter Tryd.func19, Tryd.ntmps19
    go_wp2_with fail
    go_ret
    exact ⟨ret_bool HV.out.symm, 0, rfl⟩
end Go.Proofs.YtgkmkkgneipabaaDoor.R7Same
