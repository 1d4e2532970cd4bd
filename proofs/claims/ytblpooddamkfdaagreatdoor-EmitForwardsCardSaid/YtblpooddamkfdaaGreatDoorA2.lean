/- Texts of this seat, one behind another: PVals, PGet, LexSplit, LexLays, PLibT, PTrim, PLib, PElements, RBlank, RTrim, RElements, AppendRow, R7Elements, AppendIn, PElems7, LexFlat, R7Has, PStrip, PEmPass, JoinLays, ItoaLays, PEmJoin, PEmObj, PEmReq. -/
import Derived.RangeFuncNested
import Derived.RangeFuncBound
import Derived.RangeFuncCalls
import Derived.RangeFuncLeaves
import Derived.Shelf.Abstract
import Derived.Shelf.RegionOpen
import Derived.WalkKit
import Derived.OwnWalkIn
import Derived.TacticsInMore
import Derived.LoopNIn
import Derived.LoopIn
import Derived.RangeFuncBox
import Derived.Maps.AppendAt
import Derived.Lib.SlTrimSet
import Derived.Lib.SplitLaws
import Derived.Lib.Bytealg
import Derived.Shelf.Strings.SlTrimAscii
import Derived.Shelf.Strings.Split
import Derived.Shelf.Small.Strs
import Derived.Test.YtblpooddamkfdaaGreatDoorProg
import Derived.Lib.Hide
import Derived.Shelf.Vars
import Derived.Outline
import Derived.LoopTactic
import Derived.Handy
import Derived.Laws.DeepStrings4
import Derived.Below
import Derived.Laws.AppendOwnNone
import Derived.OwnWalk
import Derived.OrdersIn
import Derived.RegionTactic
import Derived.WalkMore
import Derived.Shelf.Strings.OnBuilder
import Derived.Shelf.Strconv.Itoa3
import Derived.Lib.SmallJoins
import Derived.Laws.Strings3
import Derived.Test.YtblpooddamkfdaaGreatDoorA1
/- Layer 7 of the program: values, the values of a name's fields, one after the other. -/
namespace Go.Proofs.YtblpooddamkfdaaGreatDoor.PVals
open Go.ChangeShapes Go.WideShapes Go.ChangeAt Go.RowKit LexPure Bytes Ret FieldsPure Flds R7Get PAlike Mem Go.Shelf
set_option maxRecDepth 20000
attribute [local go_sem] Oper.semAt_some
/-- a value, as long as a value may be -/
def V : Type := { x : List UInt8 // x.length ≤ 1048576 }
def clamp (x : List UInt8) : V := ⟨x.take 1048576, by rw [List.length_take]; omega⟩
theorem clamp_val {x : List UInt8} (h : x.length ≤ 1048576) : (clamp x).1 = x := List.take_of_length_le h
def encV (x : V) : Array Value := #[.string (ofL x.1)]
/-- the values of a name -/
def vs (G : List HField) (n : List UInt8) : List V := (G.filter (hit n)).map (fun f => clamp f.2)
theorem vs_append (a b : List HField) (n : List UInt8) : vs (a ++ b) n = vs a n ++ vs b n := by simp [vs]
theorem vs_one (f : HField) (n : List UInt8) : vs [f] n = if hit n f then [clamp f.2] else [] := by
  unfold vs
  cases h : hit n f <;> simp [h]
theorem vs_len (G : List HField) (n : List UInt8) : (vs G n).length ≤ G.length := by
  unfold vs
  rw [List.length_map]
  exact List.length_filter_le _ _
/-- what a round keeps: what lay below n₀, and the name's box -/
def Kp (n₀ Bn : Nat) (nm : ByteArray) (A B : World) : Prop := Below n₀ A B ∧ (A.cell? ⟨Bn, 0, none⟩ = some (.string nm) → B.cell? ⟨Bn, 0, none⟩ = some (.string nm))
theorem kp_t {n₀ Bn : Nat} {nm : ByteArray} {A B C : World} (h : Kp n₀ Bn nm A B) (k : Kp n₀ Bn nm B C) : Kp n₀ Bn nm A C := ⟨h.1.trans k.1, fun x => k.2 (h.2 x)⟩
theorem kp_b {n₀ Bn : Nat} {nm : ByteArray} {w : World} (hn : n₀ ≤ w.heap.size) (hb : Bn < w.heap.size) (W : World) (l : Nat) (o o' : Obj) (hl : w.heap.size ≤ l) (h : W.heap[l]? = some o) (h1 : o.isCells = false) (h2 : o.isWalk = false) : Kp n₀ Bn nm W (W.putObj l o') :=
  ⟨belowK_b hn W l o o' hl h h1 h2, fun x => by
    have hne : l ≠ Bn := by omega
    have hb := World.block_lt_of_cell? _ _ x
    have := (Below.refl (Bn + 1) W).grown (grownBy_putObj' W l o') (by exact hb) (fun k e => by cases e; omega)
    exact (this.cell (p := ⟨Bn, 0, none⟩) (Nat.lt_succ_self _)).trans x⟩
/-- the list lies in a block below n₀ -/
def Under (n₀ : Nat) (w : World) (v : Value) (G : List HField) : Prop := ∃ p cap, v = .slice p G.length cap ∧ G.length ≤ 4398046511104 ∧ (0 < G.length → ∃ g o, p = some ⟨g, o, none⟩ ∧ g < n₀ ∧ ∀ j (hj : j < G.length), w.cell? ⟨g, o + j * 2, none⟩ = some (.string (ofL G[j].1)) ∧ w.cell? ⟨g, o + j * 2 + 1, none⟩ = some (.string (ofL G[j].2)))
theorem FL.under {w : World} {v : Value} {G : List HField} (h : FL w v G) : Under w.heap.size w v G := h
theorem Under.below {n₀ : Nat} {w w' : World} {v : Value} {G : List HField} (h : Under n₀ w v G) (hb : Below n₀ w w') : Under n₀ w' v G := by
  obtain ⟨p, cap, hv, hn, hc⟩ := h
  refine ⟨p, cap, hv, hn, fun h0 => ?_⟩
  obtain ⟨g, o, hp, hlt, hcell⟩ := hc h0
  exact ⟨g, o, hp, hlt, fun j hj => ⟨(hb.cell (p := ⟨g, o + j * 2, none⟩) hlt).trans (hcell j hj).1, (hb.cell (p := ⟨g, o + j * 2 + 1, none⟩) hlt).trans (hcell j hj).2⟩⟩
theorem grown_of_below {w w' : World} (h : Below w.heap.size w w') : w.grownBy w' none := ⟨h.os, h.tape, h.output, h.size, fun k hk _ => h.block k hk⟩
set_option maxHeartbeats 1600000 in
theorem pvalues_any (p : Option Addr) (len cap : Nat) (nm : ByteArray) (w : World) :
    Calls Tryz.prog 88 #[.slice p len cap, .string nm] w fun e w' => e = .returned (.func (.func 98) #[] #[.pointer (some ⟨w.heap.size, 0, none⟩), .pointer (some ⟨w.heap.size + 1, 0, none⟩)]) ∧ w' = (w.alloc (.cells #[.slice p len cap] 23)).alloc (.cells #[.string nm] 9) := by
  go_enter Tryz.func88, Tryz.ntmps88
  go_wp2_with fail
  go_ret
  exact ⟨rfl, rfl⟩
set_option maxHeartbeats 3200000 in
theorem vals_in (n l Bs Bn n₀ : Nat) (G : List HField) (hG : Few G) (nm : ByteArray) (v : Value) (J Jx : List V → World → Prop) (W : World)
    (hJ : AbidesFrom W.heap.size J) (hn0 : n₀ ≤ W.heap.size)
    (hY : ∀ pre x W1, J pre W1 → pre.length < G.length → YieldAt Fence.wide (n - 1) Tryz.prog l (encV x) W1 fun e W' =>
      (e = .returned (.bool true) ∧ J (pre ++ [x]) W' ∧ Kp n₀ Bn nm W1 W') ∨ (e = .returned (.bool false) ∧ Jx (pre ++ [x]) W'))
    (hBs : W.cell? ⟨Bs, 0, none⟩ = some v) (hBn : W.cell? ⟨Bn, 0, none⟩ = some (.string nm)) (hL : Under n₀ W v G) (h0 : J [] W) :
    CallsIn Fence.wide n Tryz.prog 98 #[.func (.yield l) #[] #[], .pointer (some ⟨Bs, 0, none⟩), .pointer (some ⟨Bn, 0, none⟩)] W fun e W' => (∃ v, e = .returned v) ∧
      ((∃ ys, ys = vs G (toL nm) ∧ J ys W') ∨ (∃ pre, pre <+: vs G (toL nm) ∧ Jx pre W')) := by
  obtain ⟨p, cap, rfl, hle, hc⟩ := hL
  refine callsIn_of_wp Tryz.func98 rfl trivial ?_ rfl
  simp only [Tryz.ntmps98, List.size_toArray, List.length_cons, List.length_nil, Nat.reduceAdd, Nat.reduceSub, Array.replicate_succ, Array.replicate_zero, List.push_toArray, List.append_toArray, List.nil_append, List.cons_append]
  replace hc := Lib.hid hc
  replace hG := Lib.hid hG
  replace hJ := Lib.hid hJ
  replace hY := Lib.hid hY
  have H0 := Lib.hid h0
  clear h0
  gi_wp2
  clear hBs
  have HB0 : Hid (Below n₀ W W) := Lib.hid (Below.refl _ _)
  have HN0 := Lib.hid hBn
  clear hBn
  gi_loopw [8] (fun i wr => ∃ k : Nat, k ≤ G.length ∧ i = .int .i64 k ∧ Hid (J (vs (G.take k) (toL nm)) wr) ∧ Hid (Below n₀ W wr) ∧ Hid (wr.cell? ⟨Bn, 0, none⟩ = some (.string nm)))
    (fun i _ => G.length - (intOf i).toNat)
  case atStart => exact ⟨0, Nat.zero_le _, rfl, H0, HB0, HN0⟩
  case round =>
    obtain ⟨k, hk, rfl, HJ, HB, HN⟩ := hrel
    clear H0 HB0 HN0
    by_cases hlt : k < G.length
    · obtain ⟨g, o, rfl, hgl, hcell⟩ := hc.out (by omega)
      obtain ⟨c1, c2⟩ := hcell k hlt
      have hki : (k : Int) < (G.length : Int) := by omega
      obtain ⟨s1, s2⟩ := hG.out k hlt
      replace c1 := (HB.out.cell (p := ⟨g, o + k * 2, none⟩) hgl).trans c1
      replace c2 := (HB.out.cell (p := ⟨g, o + k * 2 + 1, none⟩) hgl).trans c2
      have hgw : n₀ ≤ wr.heap.size := Nat.le_trans hn0 HB.out.size
      have HA := Lib.hid (fun w => palike_any (ofL G[k].1) nm (by rw [ofL_size]; unfold maxLen; omega) w)
      rw [toL_ofL] at HA
      have HT : Hid (vs (G.take (k + 1)) (toL nm) = vs (G.take k) (toL nm) ++ if hit (toL nm) G[k] then [clamp G[k].2] else []) := Lib.hid (by rw [← vs_one, ← vs_append, List.take_add_one, List.getElem?_eq_getElem hlt]; rfl)
      have hn := HN.out
      have hbn := World.block_lt_of_cell? _ _ hn
      clear hcell
      cases hh : hit (toL nm) G[k]
      · rw [hh] at HT
        rw [show alike G[k].1 (toL nm) = false from hh] at HA
        clear hh
        gi_wp2_with fail
        refine ⟨trivial, fun h => (by cases h), ?_⟩
        refine (callsIn_wide.2 (HA.out _)).mono ?_
        rintro e w2 ⟨rfl, hb2⟩
        have hb3 := below_chain ((Below.refl wr.heap.size wr).alloc (Nat.le_refl _) (.cells #[.string (ofL G[k].1), .string (ofL G[k].2)] 36)) hb2
        have HJ2 : Hid (J (vs (G.take (k + 1)) (toL nm)) w2) := Lib.hid (by
          rw [HT.out, if_neg (by decide), List.append_nil]
          exact hJ.out _ _ _ none HJ.out (grown_of_below hb3) (fun _ e => by cases e))
        have HB2 : Hid (Below n₀ W w2) := Lib.hid (HB.out.trans (hb3.mono hgw))
        have HN2 : Hid (w2.cell? ⟨Bn, 0, none⟩ = some (.string nm)) := Lib.hid ((hb3.cell (p := ⟨Bn, 0, none⟩) hbn).trans hn)
        clear hb3 hb2 c1 c2 hn hbn HJ HB HN HT HA hY hJ
        gi_wp2_with fail
        refine ⟨fun _ h => (by cases h), ?_⟩
        gi_wp2
        go_roundw
        case rel => exact ⟨k + 1, by omega, by go_num, HJ2, HB2, HN2⟩
        case measure => simp [intOf]; omega
      · rw [hh] at HT
        rw [show alike G[k].1 (toL nm) = true from hh] at HA
        clear hh
        gi_wp2_with fail
        refine ⟨trivial, fun h => (by cases h), ?_⟩
        refine (callsIn_wide.2 (HA.out _)).mono ?_
        rintro e w2 ⟨rfl, hb2⟩
        have hbx := (Has.new wr 36 #[.string (ofL G[k].1), .string (ofL G[k].2)]).cell 1
        have hb3 := below_chain ((Below.refl wr.heap.size wr).alloc (Nat.le_refl _) (.cells #[.string (ofL G[k].1), .string (ofL G[k].2)] 36)) hb2
        have cv : w2.cell? ⟨wr.heap.size, 1, none⟩ = some (.string (ofL G[k].2)) := (hb2.cell (p := ⟨wr.heap.size, 1, none⟩) (by simp)).trans hbx
        have HJ2 : Hid (J (vs (G.take k) (toL nm)) w2) := Lib.hid (hJ.out _ _ _ none HJ.out (grown_of_below hb3) (fun _ e => by cases e))
        have HB2 : Hid (Below n₀ W w2) := Lib.hid (HB.out.trans (hb3.mono hgw))
        have HN2 : Hid (w2.cell? ⟨Bn, 0, none⟩ = some (.string nm)) := Lib.hid ((hb3.cell (p := ⟨Bn, 0, none⟩) hbn).trans hn)
        have hlen : (vs (G.take k) (toL nm)).length < G.length := by
          have h1 := vs_len (G.take k) (toL nm)
          have h2 := List.length_take_le k G
          omega
        obtain ⟨fn, tmps, assign, body, hy, hR⟩ := hY.out (vs (G.take k) (toL nm)) (clamp G[k].2) w2 HJ2.out hlen
        rw [show encV (clamp G[k].2) = #[.string (ofL G[k].2)] by unfold encV; rw [clamp_val s2]] at hy
        have HR := Lib.hid hR
        rw [if_pos trivial] at HT
        clear hR hb3 hb2 hbx c1 c2 hn hbn HJ HB HN HA hJ hlen HJ2
        gi_wp2_with fail
        refine ⟨fun h => (by cases h), ?_⟩
        refine HR.out.mono ?_
        rintro e W3 (⟨rfl, hJ3, hk3⟩ | ⟨rfl, hJx3⟩)
        · have HJ3 : Hid (J (vs (G.take (k + 1)) (toL nm)) W3) := Lib.hid (by rw [HT.out]; exact hJ3)
          have HB3 : Hid (Below n₀ W W3) := Lib.hid (HB2.out.trans hk3.1)
          have HN3 := Lib.hid (hk3.2 HN2.out)
          clear hJ3 hk3 HR HB2 HN2 HT cv hY
          gi_wp2
          go_roundw
          case rel => exact ⟨k + 1, by omega, by go_num, HJ3, HB3, HN3⟩
          case measure => simp [intOf]; omega
        · have HX : Hid (∃ pre, pre <+: vs G (toL nm) ∧ Jx pre W3) := Lib.hid ⟨_, ⟨vs (G.drop (k + 1)) (toL nm), by rw [← HT.out, ← vs_append, List.take_append_drop]⟩, hJx3⟩
          clear hJx3 HR HB2 HN2 HT cv hY
          gi_wp2
          refine bodyPost_ret (results_none rfl _ _ _) rfl ?_
          exact ⟨⟨_, rfl⟩, .inr HX.out⟩
    · have hall : G.take k = G := List.take_of_length_le (by omega)
      have HJE := HJ.out
      rw [hall] at HJE
      have HJH := Lib.hid HJE
      clear HJE HJ hall hY hJ
      gi_wp2
      go_end0
      exact ⟨⟨_, rfl⟩, .inl ⟨_, rfl, HJH.out⟩⟩
/-- the values, one after the other: all of them, or as many as a round let come -/
theorem vals_stops (n Bs Bn n₀ : Nat) (G : List HField) (hG : Few G) (nm : ByteArray) (v : Value) (w : World) (hBs : Bs < w.heap.size) (hn0 : n₀ ≤ w.heap.size)
    (hc : w.cell? ⟨Bs, 0, none⟩ = some v) (hcn : w.cell? ⟨Bn, 0, none⟩ = some (.string nm)) (hL : Under n₀ w v G) :
    SeqStopsK Fence.wide n Tryz.prog 98 #[.pointer (some ⟨Bs, 0, none⟩), .pointer (some ⟨Bn, 0, none⟩)] encV (Kp n₀ Bn nm) (fun ys => ys = vs G (toL nm)) (fun pre => pre <+: vs G (toL nm)) G.length w :=
  fun l J Jx W hW hJ _ hY h0 =>
    vals_in n l Bs Bn n₀ G hG nm v J Jx W hJ (Nat.le_trans hn0 hW.size) hY ((hW.cell (p := ⟨Bs, 0, none⟩) hBs).trans hc) ((hW.cell (p := ⟨Bn, 0, none⟩) (World.block_lt_of_cell? _ _ hcn)).trans hcn) (hL.below (hW.mono hn0)) h0
end Go.Proofs.YtblpooddamkfdaaGreatDoor.PVals

/- Layer 7 of the program: Get. -/
namespace Go.Proofs.YtblpooddamkfdaaGreatDoor.PGet
open Go.ChangeShapes Go.WideShapes Go.ChangeAt Go.RowKit LexPure Bytes Ret FieldsPure Flds R7Get PAlike PVals Mem Go.Shelf
set_option maxRecDepth 100000
attribute [local go_sem] Oper.semAt_some
def firstV : List V → List UInt8
  | [] => []
  | x :: _ => x.1
theorem firstV_snoc (pre : List V) (x : V) : firstV (pre ++ [x]) = if pre.length = 0 then x.1 else firstV pre := by
  cases pre with
  | nil => rfl
  | cons => rfl
theorem vs_first (G : List HField) (hG : ∀ f ∈ G, f.2.length ≤ 1048576) (n : List UInt8) : firstV (vs G n) = getV G n ∧ (vs G n).length = getN G n := by
  induction G with
  | nil => exact ⟨rfl, rfl⟩
  | cons f G ih =>
    obtain ⟨h1, h2⟩ := ih (fun g hg => hG g (List.mem_cons_of_mem _ hg))
    rw [show f :: G = [f] ++ G from rfl, vs_append, vs_one, List.singleton_append, getV_cons, getN_cons]
    cases h : hit n f
    · simp only [Bool.false_eq_true, if_false, List.nil_append]
      exact ⟨h1, h2⟩
    · simp only [if_true, List.singleton_append, List.length_cons]
      exact ⟨clamp_val (hG f List.mem_cons_self), by rw [h2]⟩
theorem few_all {G : List HField} (h : Few G) : ∀ f ∈ G, f.1.length ≤ 1048576 ∧ f.2.length ≤ 1048576 := fun f hf => by
  obtain ⟨j, hj, rfl⟩ := List.mem_iff_getElem.1 hf
  exact h j hj
end Go.Proofs.YtblpooddamkfdaaGreatDoor.PGet

/- The shelf's words for strings.Trim, strings.Split and strings.IndexByte, and the grammar's: they say one thing. No program is named. -/
namespace Go.Proofs.YtblpooddamkfdaaGreatDoor.LexSplit
open LexPure Bytes LexList
/-! ### Trim -/
def rdrop (s : List UInt8) : List UInt8 := (s.reverse.dropWhile blankB).reverse
theorem rdrop_cons (c : UInt8) (r : List UInt8) : rdrop (c :: r) = if (rdrop r).isEmpty then (if blankB c then [] else [c]) else c :: rdrop r := by
  unfold rdrop
  rw [List.reverse_cons, List.dropWhile_append]
  cases h : (r.reverse.dropWhile blankB).isEmpty with
  | true =>
    have h2 : r.reverse.dropWhile blankB = [] := List.isEmpty_iff.1 h
    rw [h2]
    cases hb : blankB c <;> simp [hb]
  | false =>
    have h2 : ((r.reverse.dropWhile blankB).reverse).isEmpty = false := by
      cases hx : r.reverse.dropWhile blankB with
      | nil => rw [hx] at h; cases h
      | cons a t => simp
    rw [h2]
    simp
theorem drop_rdrop : ∀ s : List UInt8, (rdrop s).dropWhile blankB = rdrop (s.dropWhile blankB)
  | [] => rfl
  | c :: r => by
    cases hb : blankB c with
    | true =>
      rw [List.dropWhile_cons, if_pos hb, rdrop_cons, ← drop_rdrop r]
      cases h : (rdrop r).isEmpty with
      | true => rw [List.isEmpty_iff.1 h]; simp [hb]
      | false => simp [hb]
    | false =>
      rw [List.dropWhile_cons, hb]
      simp only [Bool.false_eq_true, if_false]
      rw [rdrop_cons]
      cases h : (rdrop r).isEmpty <;> simp [hb]
theorem blank_set (b : UInt8) : ([32, 9] : List UInt8).contains b = blankB b := by
  have := all_bytes (p := fun b => ([32, 9] : List UInt8).contains b == blankB b) (by decide +kernel) b
  simpa using this
theorem trim_shelf (s : List UInt8) : Go.Lib.trimS s [32, 9] = trim s := by
  have e : (fun b => ([32, 9] : List UInt8).contains b) = blankB := funext blank_set
  unfold Go.Lib.trimS Go.Lib.trimLeftS Go.Lib.trimRightS
  rw [e]
  exact drop_rdrop s
/-! ### Split -/
theorem index_cons (c : UInt8) (l : List UInt8) (h : (c == 44) = false) : Go.Lib.index (c :: l) [44] = if Go.Lib.index l [44] == -1 then -1 else Go.Lib.index l [44] + 1 := by
  have hp : ([44] : List UInt8).isPrefixOf (c :: l) = false := by
    have : ¬ (44 : UInt8) = c := fun e => by rw [← e] at h; cases h
    simp [List.isPrefixOf, this]
  rw [Go.Lib.index, hp]
  rfl
theorem split_pieces : ∀ s : List UInt8, Go.Lib.splitK [44] 0 (s.count 44) s = pieces s
  | [] => rfl
  | c :: l => by
    by_cases hc : c = 44
    · subst hc
      have hix : Go.Lib.index (44 :: l) [44] = 0 := by rw [Go.Lib.index]; simp [List.isPrefixOf]
      rw [List.count_cons_self, Go.Lib.splitK, hix, if_neg (by decide), pieces, if_pos (by decide), ← split_pieces l]
      rfl
    · have hq : (c == 44) = false := by simpa using hc
      have ih := split_pieces l
      rw [List.count_cons_of_ne (by simpa using hc), pieces, if_neg (by simp [hq]), ← ih]
      cases hk : l.count 44 with
      | zero => rfl
      | succ k =>
        unfold Go.Lib.splitK
        rw [index_cons c l hq]
        by_cases hm : Go.Lib.index l [44] = -1
        · rw [hm]; rfl
        · have hge := Go.Lib.index_ge l [44]
          obtain ⟨i, hi⟩ : ∃ i : Nat, Go.Lib.index l [44] = i := ⟨(Go.Lib.index l [44]).toNat, by omega⟩
          rw [hi]
          have h1 : ((i : Int) == -1) = false := beq_eq_false_iff_ne.2 (by omega)
          have h2 : (((i : Int) + 1) == -1) = false := beq_eq_false_iff_ne.2 (by omega)
          have h3 : ((i : Int) + 1).toNat = i + 1 := by omega
          have h4 : ((i : Int)).toNat = i := by omega
          simp [h1, h2, h3, h4]
/-- the marks of a token -/
def marksA : ByteArray := ⟨#[33, 35, 36, 37, 38, 39, 42, 43, 45, 46, 94, 95, 124, 126, 96]⟩
def markI (b : UInt8) : Int := Go.Lib.indexByte marksA.data.toList b
theorem mark_cases (b : UInt8) : markB b = (decide (48 ≤ (b.toNat : Int) ∧ (b.toNat : Int) ≤ 57) || decide (65 ≤ (b.toNat : Int) ∧ (b.toNat : Int) ≤ 90) || decide (97 ≤ (b.toNat : Int) ∧ (b.toNat : Int) ≤ 122) || decide (0 ≤ markI b)) := by
  have := all_bytes (p := fun b => markB b == (decide (48 ≤ (b.toNat : Int) ∧ (b.toNat : Int) ≤ 57) || decide (65 ≤ (b.toNat : Int) ∧ (b.toNat : Int) ≤ 90) || decide (97 ≤ (b.toNat : Int) ∧ (b.toNat : Int) ≤ 122) || decide (0 ≤ markI b))) (by decide +kernel) b
  simpa using this
end Go.Proofs.YtblpooddamkfdaaGreatDoor.LexSplit

/-
  DERIVED: THE SHELF's CONTRACTS AT THIS DUMP, IN PLAIN WORDS (tools/lay-plain.mjs out of 'YtblpooddamkfdaaGreatDoorLexLaysT.lean', which tools/lay-shelf.mjs wrote): THE SAME DECLARATIONS UNDER THE SAME NAMES: 'import', 'namespace', 'open', 'def', 'theorem' AND NOTHING ELSE: no command of the shelf's: FOR A HAND-IN. Each laying: the table of numbers ('.._ren') and one theorem, a field a fact of the dump's own or the kernel's comparison; each contract: ONE APPLICATION.
-/
namespace Go.Proofs
open Go.Shelf
def Tryz.lays137_ren : Go.Shelf.Ren := ⟨fun | 137 => 137 | 217 => 129 | 266 => 135 | n => n, fun | 9 => 9 | 5 => 5 | 3 => 3 | n => n, fun | n => n⟩
theorem Tryz.lays137 : Go.Proofs.Lays.n137 Tryz.prog Tryz.lays137_ren := {
  mixed := by kernel_rfl
  f137 := Tryz.func137.trans (congrArg some (by kernel_rfl))
  f217 := Tryz.func129.trans (congrArg some (by kernel_rfl))
  f266 := Tryz.func135.trans (congrArg some (by kernel_rfl))
  t3 := Tryz.underlying3
  a3 := Tryz.isAgg3
  z3 := Tryz.sizeOf3
  v3 := Tryz.zeroValue3
  t5 := Tryz.underlying5
  a5 := Tryz.isAgg5
  z5 := Tryz.sizeOf5
  v5 := Tryz.zeroValue5
  t9 := Tryz.underlying9
  a9 := Tryz.isAgg9
  z9 := Tryz.sizeOf9
  v9 := Tryz.zeroValue9 }
def Tryz.lays160_ren : Go.Shelf.Ren := ⟨fun | 160 => 108 | 232 => 115 | 231 => 114 | 227 => 116 | 234 => 118 | 233 => 117 | 236 => 120 | 235 => 119 | 228 => 125 | 271 => 127 | 151 => 126 | 197 => 122 | 120 => 134 | 152 => 133 | 260 => 128 | 137 => 137 | 119 => 138 | 224 => 131 | 225 => 130 | 217 => 129 | 266 => 135 | n => n, fun | 9 => 9 | 4 => 4 | 3 => 3 | 5 => 5 | 117 => 169 | 116 => 168 | 0 => 0 | 124 => 172 | 21 => 21 | 105 => 175 | 46 => 159 | 119 => 180 | 139 => 183 | 138 => 182 | n => n, fun | 3 => 4 | 4 => 5 | n => n⟩
theorem Tryz.lays160 : Go.Proofs.Lays.n160 Tryz.prog Tryz.lays160_ren := {
  mixed := by kernel_rfl
  f119 := Tryz.func138.trans (congrArg some (by kernel_rfl))
  f120 := Tryz.func134.trans (congrArg some (by kernel_rfl))
  f137 := Tryz.func137.trans (congrArg some (by kernel_rfl))
  f151 := Tryz.func126.trans (congrArg some (by kernel_rfl))
  f152 := Tryz.func133.trans (congrArg some (by kernel_rfl))
  f160 := Tryz.func108.trans (congrArg some (by kernel_rfl))
  f197 := Tryz.func122.trans (congrArg some (by kernel_rfl))
  f217 := Tryz.func129.trans (congrArg some (by kernel_rfl))
  f224 := Tryz.func131.trans (congrArg some (by kernel_rfl))
  f225 := Tryz.func130.trans (congrArg some (by kernel_rfl))
  f227 := Tryz.func116.trans (congrArg some (by kernel_rfl))
  f228 := Tryz.func125.trans (congrArg some (by kernel_rfl))
  f231 := Tryz.func114.trans (congrArg some (by kernel_rfl))
  f232 := Tryz.func115.trans (congrArg some (by kernel_rfl))
  f233 := Tryz.func117.trans (congrArg some (by kernel_rfl))
  f234 := Tryz.func118.trans (congrArg some (by kernel_rfl))
  f235 := Tryz.func119.trans (congrArg some (by kernel_rfl))
  f236 := Tryz.func120.trans (congrArg some (by kernel_rfl))
  f260 := Tryz.func128.trans (congrArg some (by kernel_rfl))
  f266 := Tryz.func135.trans (congrArg some (by kernel_rfl))
  f271 := Tryz.func127.trans (congrArg some (by kernel_rfl))
  t0 := Tryz.underlying0
  a0 := Tryz.isAgg0
  z0 := Tryz.sizeOf0
  v0 := Tryz.zeroValue0
  t3 := Tryz.underlying3
  a3 := Tryz.isAgg3
  z3 := Tryz.sizeOf3
  v3 := Tryz.zeroValue3
  t4 := Tryz.underlying4
  a4 := Tryz.isAgg4
  z4 := Tryz.sizeOf4
  v4 := Tryz.zeroValue4
  t5 := Tryz.underlying5
  a5 := Tryz.isAgg5
  z5 := Tryz.sizeOf5
  v5 := Tryz.zeroValue5
  t9 := Tryz.underlying9
  a9 := Tryz.isAgg9
  z9 := Tryz.sizeOf9
  v9 := Tryz.zeroValue9
  t21 := Tryz.underlying21
  a21 := Tryz.isAgg21
  z21 := Tryz.sizeOf21
  v21 := Tryz.zeroValue21
  t46 := Tryz.underlying159
  a46 := Tryz.isAgg159
  z46 := Tryz.sizeOf159
  v46 := Tryz.zeroValue159
  t105 := Tryz.underlying175
  a105 := Tryz.isAgg175
  z105 := Tryz.sizeOf175
  v105 := Tryz.zeroValue175
  t116 := Tryz.underlying168
  a116 := Tryz.isAgg168
  z116 := Tryz.sizeOf168
  t117 := Tryz.underlying169
  a117 := Tryz.isAgg169
  z117 := Tryz.sizeOf169
  v117 := Tryz.zeroValue169
  t119 := Tryz.underlying180
  a119 := Tryz.isAgg180
  z119 := Tryz.sizeOf180
  t124 := Tryz.underlying172
  a124 := Tryz.isAgg172
  z124 := Tryz.sizeOf172
  v124 := Tryz.zeroValue172
  t138 := Tryz.underlying182
  a138 := Tryz.isAgg182
  z138 := Tryz.sizeOf182
  v138 := Tryz.zeroValue182
  t139 := Tryz.underlying183
  a139 := Tryz.isAgg183
  z139 := Tryz.sizeOf183
  v139 := Tryz.zeroValue183
  g3 := by kernel_rfl
  g4 := by kernel_rfl }
def Tryz.lays146_ren : Go.Shelf.Ren := ⟨fun | 146 => 99 | 221 => 107 | 268 => 111 | 138 => 112 | 143 => 113 | 195 => 121 | 197 => 122 | 218 => 123 | 219 => 124 | 260 => 128 | 217 => 129 | 225 => 130 | 224 => 131 | 267 => 132 | 266 => 135 | 314 => 136 | n => n, fun | 9 => 9 | 31 => 109 | 3 => 3 | 4 => 4 | 0 => 0 | 105 => 175 | 21 => 21 | 5 => 5 | 46 => 159 | 119 => 180 | 139 => 183 | 138 => 182 | 146 => 184 | 51 => 156 | n => n, fun | 1 => 1 | 3 => 4 | 4 => 5 | n => n⟩
theorem Tryz.lays146 : Go.Proofs.Lays.n146 Tryz.prog Tryz.lays146_ren := {
  mixed := by kernel_rfl
  f138 := Tryz.func112.trans (congrArg some (by kernel_rfl))
  f143 := Tryz.func113.trans (congrArg some (by kernel_rfl))
  f146 := Tryz.func99.trans (congrArg some (by kernel_rfl))
  f195 := Tryz.func121.trans (congrArg some (by kernel_rfl))
  f197 := Tryz.func122.trans (congrArg some (by kernel_rfl))
  f217 := Tryz.func129.trans (congrArg some (by kernel_rfl))
  f218 := Tryz.func123.trans (congrArg some (by kernel_rfl))
  f219 := Tryz.func124.trans (congrArg some (by kernel_rfl))
  f221 := Tryz.func107.trans (congrArg some (by kernel_rfl))
  f224 := Tryz.func131.trans (congrArg some (by kernel_rfl))
  f225 := Tryz.func130.trans (congrArg some (by kernel_rfl))
  f260 := Tryz.func128.trans (congrArg some (by kernel_rfl))
  f266 := Tryz.func135.trans (congrArg some (by kernel_rfl))
  f267 := Tryz.func132.trans (congrArg some (by kernel_rfl))
  f268 := Tryz.func111.trans (congrArg some (by kernel_rfl))
  f314 := Tryz.func136.trans (congrArg some (by kernel_rfl))
  t0 := Tryz.underlying0
  a0 := Tryz.isAgg0
  z0 := Tryz.sizeOf0
  v0 := Tryz.zeroValue0
  t3 := Tryz.underlying3
  a3 := Tryz.isAgg3
  z3 := Tryz.sizeOf3
  v3 := Tryz.zeroValue3
  t4 := Tryz.underlying4
  a4 := Tryz.isAgg4
  z4 := Tryz.sizeOf4
  v4 := Tryz.zeroValue4
  t5 := Tryz.underlying5
  a5 := Tryz.isAgg5
  z5 := Tryz.sizeOf5
  v5 := Tryz.zeroValue5
  t9 := Tryz.underlying9
  a9 := Tryz.isAgg9
  z9 := Tryz.sizeOf9
  v9 := Tryz.zeroValue9
  t21 := Tryz.underlying21
  a21 := Tryz.isAgg21
  z21 := Tryz.sizeOf21
  v21 := Tryz.zeroValue21
  t31 := Tryz.underlying109
  a31 := Tryz.isAgg109
  z31 := Tryz.sizeOf109
  v31 := Tryz.zeroValue109
  t46 := Tryz.underlying159
  a46 := Tryz.isAgg159
  z46 := Tryz.sizeOf159
  v46 := Tryz.zeroValue159
  t51 := Tryz.underlying156
  a51 := Tryz.isAgg156
  z51 := Tryz.sizeOf156
  v51 := Tryz.zeroValue156
  t105 := Tryz.underlying175
  a105 := Tryz.isAgg175
  z105 := Tryz.sizeOf175
  v105 := Tryz.zeroValue175
  t119 := Tryz.underlying180
  a119 := Tryz.isAgg180
  z119 := Tryz.sizeOf180
  t138 := Tryz.underlying182
  a138 := Tryz.isAgg182
  z138 := Tryz.sizeOf182
  v138 := Tryz.zeroValue182
  t139 := Tryz.underlying183
  a139 := Tryz.isAgg183
  z139 := Tryz.sizeOf183
  v139 := Tryz.zeroValue183
  t146 := Tryz.underlying184
  a146 := Tryz.isAgg184
  z146 := Tryz.sizeOf184
  v146 := Tryz.zeroValue184
  g1 := by kernel_rfl
  g3 := by kernel_rfl
  g4 := by kernel_rfl }
end Go.Proofs

/- Layer 4 of the program: what the library's calls answer it (strings.Trim at blanks, strings.IndexByte at the marks), off the shelf's contracts. -/
namespace Go.Proofs.YtblpooddamkfdaaGreatDoor.PLibT
open Go.ChangeShapes Go.WideShapes Go.ChangeAt Go.RowKit LexPure Bytes Ret LexSplit Texts Rows1
theorem lib_trim (s : ByteArray) (hs : s.size ≤ maxLen) (w : World) :
    Calls Tryz.prog 108 #[.string s, .string ⟨#[32, 9]⟩] w fun e w' => e = .returned (.string (ofL (trim (toL s)))) ∧ Below w.heap.size w w' := by
  have h := Any.strings_Trim_laid Tryz.lays160 (by kernel_rfl) s ⟨#[32, 9]⟩ w (by unfold maxLen at hs; omega) (by decide) (ascii_of_all (by decide))
  rw [show (⟨#[32, 9]⟩ : ByteArray).data.toList = [32, 9] from rfl, trim_shelf] at h
  exact h
theorem lib_mark (b : UInt8) (w : World) :
    Calls Tryz.prog 137 #[.string marksA, .int .u8 (b.toNat : Int)] w fun e w' => e = .returned (.int .i64 (markI b)) ∧ w' = w := by
  have h := Any.strings_IndexByte Tryz.lays137 marksA (b.toNat : Int) w
  rw [show ((b.toNat : Int)).toNat.toUInt8 = b from by simp] at h
  exact h
end Go.Proofs.YtblpooddamkfdaaGreatDoor.PLibT

/- Layer 4 of the program: Trim. -/
namespace Go.Proofs.YtblpooddamkfdaaGreatDoor.PTrim
open Go.ChangeShapes Go.WideShapes Go.ChangeAt Go.RowKit LexPure Bytes Ret LexSplit PLibT
set_option maxRecDepth 20000
theorem ptrim_any (s : ByteArray) (hs : s.size ≤ maxLen) (w : World) :
    Calls Tryz.prog 100 #[.string s] w fun e w' => e = .returned (.string (ofL (trim (toL s)))) ∧ Below w.heap.size w w' := by
  have H := Lib.hid (lib_trim s hs w)
  clear hs
  go_enter Tryz.func100, Tryz.ntmps100
  go_wp2_with fail
  refine H.out.mono ?_
  rintro e w1 ⟨rfl, hb1⟩
  go_wp2_with fail
  go_ret
  exact ⟨rfl, hb1⟩
end Go.Proofs.YtblpooddamkfdaaGreatDoor.PTrim

/- Layer 4 of the program: what the library's calls answer it (strings.Split at a comma), off the shelf's contracts. -/
namespace Go.Proofs.YtblpooddamkfdaaGreatDoor.PLib
open Go.ChangeShapes Go.WideShapes Go.ChangeAt Go.RowKit LexPure Bytes Ret LexSplit Texts Rows1
/-- internal/bytealg.MaxLen holds an int -/
def MaxInt (w : World) : Prop := ∃ m, w.cell? ⟨1, 0, none⟩ = some (.int .i64 m)
theorem MaxInt.of_shape {w : World} (h : w.ShapedOpen Tryz.prog) : MaxInt w :=
  cell_of_shapedOpen_int (t := 3) (zero := #[.int .i64 0]) h (of_decide_eq_true (by kernel_rfl)) (by kernel_rfl) rfl (by kernel_rfl) (by kernel_rfl) Tryz.underlying3
theorem MaxInt.below {w w' : World} (h : MaxInt w) (hb : Below w.heap.size w w') : MaxInt w' := by
  obtain ⟨m, hm⟩ := h
  exact ⟨m, (hb.cell (p := ⟨1, 0, none⟩) (World.block_lt_of_cell? _ _ hm)).trans hm⟩
theorem lib_split (s : ByteArray) (hs : s.size < 4294967281) (w : World) (hm : MaxInt w) :
    Calls Tryz.prog 99 #[.string s, .string ⟨#[44]⟩] w fun e w' => ∃ v, e = .returned v ∧ Texts w' v (pieces (toL s)) ∧ Below w.heap.size w w' := by
  obtain ⟨m, hm⟩ := hm
  refine (Any.strings_Split Tryz.lays146 (by kernel_rfl) s ⟨#[44]⟩ m w hs hm (by decide)).mono ?_
  rintro e w' ⟨rfl, rfl⟩
  have hl : (Go.Lib.splitB ⟨#[44]⟩ 0 (Go.Lib.countB s ⟨#[44]⟩) s).map (·.data.toList) = pieces (toL s) := by
    rw [Go.Lib.splitB_data, show Go.Lib.countB s ⟨#[44]⟩ = s.data.toList.count 44 from Go.Lib.count_one 44 _]
    exact split_pieces _
  have hn : (pieces (toL s)).length = Go.Lib.countB s ⟨#[44]⟩ + 1 := by
    rw [← hl, List.length_map]
    exact Go.Lib.splitB_all ⟨#[44]⟩ (by decide) 0 _ s rfl
  have hle := Go.Lib.countB_le ⟨#[44]⟩ (by decide) s.size s (Nat.le_refl _)
  generalize Go.Lib.splitB ⟨#[44]⟩ 0 (Go.Lib.countB s ⟨#[44]⟩) s = B at *
  refine ⟨_, rfl, ?_, (Below.refl _ _).alloc (Nat.le_refl _) _⟩
  rw [← hn]
  refine ⟨_, _, rfl, by omega, fun h0 => ⟨w.heap.size, 0, rfl, by simp, fun j hj => ?_⟩⟩
  rw [Nat.zero_add]
  have hB : (pieces (toL s))[j]? = (B[j]?).map (·.data.toList) := by rw [← hl, List.getElem?_map]
  rw [List.getElem?_eq_getElem hj] at hB
  cases hx : B[j]? with
  | none => rw [hx] at hB; cases hB
  | some x =>
    rw [hx] at hB
    have hq : (pieces (toL s))[j] = x.data.toList := by simpa using hB
    rw [World.cell?_alloc_at _ _ _ _ (by simp)]
    rw [hq, show ofL x.data.toList = x from toL_inj (toL_ofL _)]
    simp [hx]
end Go.Proofs.YtblpooddamkfdaaGreatDoor.PLib

/- Layer 4 of the program: Elements. -/
namespace Go.Proofs.YtblpooddamkfdaaGreatDoor.PElements
open Go.ChangeShapes Go.WideShapes Go.ChangeAt Go.RowKit LexPure Bytes Ret LexSplit LexList PLib PTrim Texts Rows1 Mem
set_option maxRecDepth 20000
theorem elements_one (s : List UInt8) : elements s = (pieces s).flatMap one := by
  unfold elements
  induction pieces s with
  | nil => rfl
  | cons p ps ih =>
    rw [List.flatMap_cons, ← ih, List.map_cons, List.filter_cons]
    unfold one
    cases h : (trim p).isEmpty <;> simp
theorem pieces_length (s : List UInt8) : (pieces s).length ≤ s.length + 1 := by
  induction s with
  | nil => simp [pieces]
  | cons c s ih =>
    unfold pieces
    split
    · simp only [List.length_cons]; omega
    · split
      · simp
      · rename_i h
        rw [h] at ih
        simp only [List.length_cons] at ih ⊢; omega
theorem pieces_mem (s : List UInt8) : ∀ p ∈ pieces s, p.length ≤ s.length := by
  induction s with
  | nil => intro p hp; simp [pieces] at hp; subst hp; simp
  | cons c s ih =>
    intro p hp
    unfold pieces at hp
    split at hp
    · rcases List.mem_cons.1 hp with rfl | hp
      · simp
      · have := ih p hp; simp only [List.length_cons]; omega
    · split at hp
      · rcases List.mem_cons.1 hp with rfl | hp
        · simp
        · cases hp
      · rename_i q qs h
        rcases List.mem_cons.1 hp with rfl | hp
        · have := ih q (by rw [h]; exact List.mem_cons_self ..)
          simp only [List.length_cons]; omega
        · have := ih p (by rw [h]; exact List.mem_cons_of_mem _ hp)
          simp only [List.length_cons]; omega
/-- behind the first k pieces -/
structure PInv (w : World) (L : List (List UInt8)) (k : Nat) (v : Value) (G : List (List UInt8)) (wr : World) : Prop where
  row : wr.ownsRow w.heap.size 9 1 v G.length (strs G)
  below : Below w.heap.size w wr
  got : G = (L.take k).flatMap one
  few : G.length ≤ k
theorem ownsRow_mono {w : World} {base base' n size : Nat} {e : TypeId} {v : Value} {xs : List Value} (h : w.ownsRow base e size v n xs) (hb : base' ≤ base) : w.ownsRow base' e size v n xs := by
  refine ⟨h.1, ?_⟩
  rcases h.2 with h0 | ⟨g, cap, cur, h1, h2, h3⟩
  · exact .inl h0
  · exact .inr ⟨g, cap, cur, h1, Nat.le_trans hb h2, h3⟩
theorem ownsRow_below {w w' : World} {base n size : Nat} {e : TypeId} {v : Value} {xs : List Value} (h : w.ownsRow base e size v n xs) (hb : Below w.heap.size w w') : w'.ownsRow base e size v n xs := by
  refine ⟨h.1, ?_⟩
  rcases h.2 with h0 | ⟨g, cap, cur, h1, h2, h3, h4⟩
  · exact .inl h0
  · exact .inr ⟨g, cap, cur, h1, h2, by rw [hb.block g (Array.getElem?_eq_some_iff.1 h3).1]; exact h3, h4⟩
set_option maxHeartbeats 1600000 in
theorem pelements_any (s : ByteArray) (hs : s.size < 4294967281) (w : World) (hm : MaxInt w) :
    Calls Tryz.prog 89 #[.string s] w fun e w' => ∃ v, e = .returned v ∧ w'.ownsRow w.heap.size 9 1 v (elements (toL s)).length (strs (elements (toL s))) ∧ Below w.heap.size w w' := by
  obtain ⟨i0, hi, hz0, hz1, hz2⟩ := info_parts infoS
  have HS := Lib.hid (lib_split s hs w hm)
  have hL := pieces_length (toL s)
  rw [toL_length] at hL
  have hP := pieces_mem (toL s)
  rw [toL_length] at hP
  have HP := Lib.hid hP
  have HE := Lib.hid (elements_one (toL s))
  clear hP hm
  go_enter Tryz.func89, Tryz.ntmps89
  go_wp2_with fail
  refine HS.out.mono ?_
  rintro e w1 ⟨v0, rfl, hT, hb⟩
  clear HS
  obtain ⟨p, cap, rfl, hn1, _⟩ := id hT
  have HT := Lib.hid hT
  clear hT
  generalize pieces (toL s) = L at *
  go_wp2_with fail
  have HI0 : Hid (∃ G, PInv w1 L 0 (.slice none 0 0) G w1) := Lib.hid ⟨[], World.ownsRow_nil _ _ _ _, Below.refl _ _, rfl, Nat.le_refl _⟩
  go_loopw [3, 10] (fun v i wr => ∃ k : Nat, k ≤ L.length ∧ i = .int .i64 k ∧ Hid (∃ G, PInv w1 L k v G wr)) (fun _ i _ => L.length - (intOf i).toNat)
  case atStart => exact ⟨0, Nat.zero_le _, rfl, HI0⟩
  case round =>
    obtain ⟨k, hk, rfl, HI⟩ := hrel
    clear HI0
    obtain ⟨G, I⟩ := HI.out
    by_cases hlt : k < L.length
    · have hki : (k : Int) < (L.length : Int) := by omega
      have hrow := I.row
      have hbw := I.below
      have hfew := I.few
      obtain ⟨p', cap', hv, _, hc⟩ := HT.out.below hbw
      injection hv with hv1 hv2 hv3
      subst hv1
      subst hv3
      obtain ⟨g, o, rfl, hg, hcell⟩ := hc (by omega)
      have cx := hcell k hlt
      have hXs : L[k].length ≤ s.size := HP.out _ (List.getElem_mem hlt)
      have hgot : (L.take (k + 1)).flatMap one = G ++ one L[k] := by
        rw [List.take_add_one, List.getElem?_eq_getElem hlt, List.flatMap_append, ← I.got]
        simp
      generalize L[k] = X at *
      have HTr := Lib.hid (fun w => ptrim_any (ofL X) (by rw [ofL_size]; unfold maxLen; omega) w)
      rw [toL_ofL] at HTr
      by_cases hem : (trim X).isEmpty = true
      · have h1 : one X = [] := by unfold one; rw [if_pos hem]
        have e0 : toL (ofL (trim X)) = [] := by rw [toL_ofL]; exact List.isEmpty_iff.1 hem
        have e1 : (ofL (trim X)).toList = [] := by rw [ByteArray.toList_eq]; exact e0
        have e2 : (ofL (trim X)).toList.isEmpty = true := by rw [e1]; rfl
        have HR : Hid (∀ w2, Below wr.heap.size wr w2 → ∃ G, PInv w1 L (k + 1) u3 G w2) := Lib.hid (fun w2 h2 => ⟨G, ownsRow_below hrow h2, below_chain hbw h2, by rw [hgot, h1, List.append_nil], by omega⟩)
        clear hem h1 e0 hrow hc hcell hgot I HI
        generalize ofL (trim X) = E at *
        go_wp2_with (refine (HTr.out _).mono ?_; rintro e w2 ⟨rfl, hb2⟩)
        have HR2 := Lib.hid (HR.out _ hb2)
        clear HR hb2
        go_roundw
        case rel => exact ⟨k + 1, by omega, by go_num, HR2⟩
        case measure => simp [intOf]; omega
      · have h1 : one X = [trim X] := by unfold one; rw [if_neg hem]
        have e1 : ¬ (ofL (trim X)).toList = [] := fun h => by
          rw [ByteArray.toList_eq] at h
          rw [show (ofL (trim X)).data.toList = trim X from toL_ofL _] at h
          rw [h] at hem
          exact hem rfl
        have e2 : (ofL (trim X)).toList.isEmpty = false := by
          cases h : (ofL (trim X)).toList with
          | nil => exact absurd h e1
          | cons => rfl
        have HR : Hid (∀ w2 v' w3, Below wr.heap.size wr w2 → w3.ownsRow w1.heap.size 9 1 v' (G.length + 1) (strs G ++ [.string (ofL (trim X))]) → Below w1.heap.size w2 w3 → ∃ G, PInv w1 L (k + 1) v' G w3) := Lib.hid (fun w2 v' w3 h2 h3 h4 => ⟨G ++ [trim X], by rw [List.length_append, strs_append]; exact h3, (below_chain hbw h2).trans h4, by rw [hgot, h1], by rw [List.length_append]; simp; omega⟩)
        have hs1 := hbw.size
        clear hem h1 hc hcell hgot I HI
        generalize ofL (trim X) = E at *
        go_wp2_with fail
        refine (HTr.out _).mono ?_
        rintro e w2 ⟨rfl, hb2⟩
        have hrow2 := ownsRow_below hrow hb2
        have hs2 := hb2.size
        have HB2 := Lib.hid hb2
        clear hb2 hrow
        go_wp2_with (at_builtin; refine wpList_append_own _ rfl _ _ 109 rfl w1.heap.size 9 i0 (.string ByteArray.empty) 1 16 Tryz.underlying109 hi hz0 hz1 hz2 rfl (by decide) _ _ _ rfl (hrow2.alloc _) ⟨w2.heap.size, 0, none⟩ 1 1 [.string E] rfl rfl (cell_one_new _ _ _) (fun x hx => by simp at hx; subst hx; rfl) (by unfold maxLen; omega) (by omega) (by simp; omega) ?_; intro v' w3 hown' hgrow3 hnil3)
        have HR2 : Hid (∃ G, PInv w1 L (k + 1) v' G w3) := Lib.hid (HR.out w2 v' w3 HB2.out hown' (Below.grown ((Below.refl _ _).alloc (by omega) _) hgrow3 (by simp; omega) (fun j hj => (hrow2.lt _ hj).1)))
        clear hown' hgrow3 hnil3 HR HB2 hrow2
        go_wp2_with fail
        go_roundw
        case rel => exact ⟨k + 1, by omega, by go_num, HR2⟩
        case measure => simp [intOf]; omega
    · have hall : L.take k = L := List.take_of_length_le (by omega)
      have HF : Hid (G = elements (toL s)) := Lib.hid (by rw [HE.out, I.got, hall])
      have HR : Hid (wr.ownsRow w.heap.size 9 1 u3 G.length (strs G) ∧ Below w.heap.size w wr) := Lib.hid ⟨ownsRow_mono I.row hb.size, below_chain hb I.below⟩
      obtain ⟨pv, cv, hpv, _⟩ := row_form I.row
      subst hpv
      clear I HI hall HE hb HT
      go_wp2_with fail
      go_ret
      rw [← HF.out]
      exact ⟨_, rfl, HR.out⟩
end Go.Proofs.YtblpooddamkfdaaGreatDoor.PElements

/- Layer 4, the document's own Blank. -/
namespace Go.Proofs.YtblpooddamkfdaaGreatDoor.RBlank
open Go.ChangeShapes Go.WideShapes Go.ChangeAt Go.RowKit LexPure Bytes Ret
set_option maxRecDepth 20000
theorem rblank_any (c : UInt8) (w : World) :
    Calls Tryz.prog 29 #[.int .u8 (c.toNat : Int)] w fun e w' => e = .returned (.bool (blankB c)) ∧ w = w' := by
  rw [← blank_eq]
  generalize (c.toNat : Int) = c
  go_enter Tryz.func29, Tryz.ntmps29
  go_wp2_with fail
  all_goals
    go_ret
    refine ⟨ret_bool ?_, rfl⟩
    first
      | exact Eq.symm (decide_eq_true (by omega))
      | exact Eq.symm (decide_eq_false (by omega))
      | (rw [Bool.decide_or]; rfl)
end Go.Proofs.YtblpooddamkfdaaGreatDoor.RBlank

/- Layer 4, the document's own Trim. -/
namespace Go.Proofs.YtblpooddamkfdaaGreatDoor.RTrim
open Go.ChangeShapes Go.WideShapes Go.ChangeAt Go.RowKit LexPure Bytes Ret RBlank
set_option maxRecDepth 20000
theorem drop_at (s : ByteArray) (k : Nat) (h : k < s.size) : ((toL s).drop k).dropWhile blankB = if blankB s[k] then ((toL s).drop (k + 1)).dropWhile blankB else (toL s).drop k := by
  rw [toL_drop s k h, List.dropWhile_cons]
theorem last_at (D : List UInt8) (j : Nat) (c : UInt8) (h : D[j]? = some c) : (D.take (j + 1)).reverse.dropWhile blankB = if blankB c then (D.take j).reverse.dropWhile blankB else (D.take (j + 1)).reverse := by
  rw [List.take_add_one, h]
  simp only [Option.toList_some, List.reverse_append, List.reverse_cons, List.reverse_nil, List.nil_append, List.cons_append]
  rw [List.dropWhile_cons]
theorem rtrim_any (s : ByteArray) (hs : s.size ≤ maxLen) (w : World) :
    Calls Tryz.prog 71 #[.string s] w fun e w' => e = .returned (.string (ofL (trim (toL s)))) ∧ w = w' := by
  unfold maxLen at hs
  go_enter Tryz.func71, Tryz.ntmps71
  go_wp2_with fail
  go_loop [3] (fun f => ∃ k : Nat, k ≤ s.size ∧ f = .int .i64 k ∧ Hid ((toL s).dropWhile blankB = ((toL s).drop k).dropWhile blankB)) (fun f => s.size - (intOf f).toNat)
  case atStart => exact ⟨0, Nat.zero_le _, rfl, Lib.hid rfl⟩
  case round =>
    obtain ⟨k, hk, rfl, ha⟩ := hrel
    by_cases hgo : ∃ h : k < s.size, blankB s[k] = true
    · obtain ⟨hlt, hb⟩ := hgo
      have hki : (k : Int) < (s.size : Int) := by omega
      have HA : Hid ((toL s).dropWhile blankB = ((toL s).drop (k + 1)).dropWhile blankB) := Lib.hid (by rw [ha.out, drop_at s k hlt, if_pos hb])
      have HB := Lib.hid hb
      clear hb
      go_wp2_with fail
      refine (rblank_any _ _).mono ?_
      rintro e w' ⟨rfl, rfl⟩
      rw [HB.out]
      go_wp2_with fail
      go_round
      case rel => exact ⟨k + 1, by omega, by go_num, HA⟩
      case measure => simp [intOf]; omega
    · have HD : Hid ((toL s).dropWhile blankB = (toL s).drop k) := Lib.hid (by
        rw [ha.out]
        by_cases hlt : k < s.size
        · rw [drop_at s k hlt, if_neg (fun hb => hgo ⟨hlt, hb⟩)]
        · rw [List.drop_eq_nil_of_le (by rw [toL_length]; omega)]
          rfl)
      have HL : Hid (((toL s).drop k).length = s.size - k) := Lib.hid (by rw [List.length_drop, toL_length])
      have hx : (∃ h : k < s.size, (k : Int) < (s.size : Int) ∧ Hid (blankB s[k] = false)) ∨ (¬ (k : Int) < (s.size : Int)) := by
        by_cases hlt : k < s.size
        · refine .inl ⟨hlt, by omega, Lib.hid ?_⟩
          cases h : blankB s[k] with
          | true => exact absurd ⟨hlt, h⟩ hgo
          | false => rfl
        · exact .inr (by omega)
      clear hgo ha
      rcases hx with ⟨hlt, hki, HB⟩ | hki
      rotate_left
      · have ek : k = s.size := by omega
        subst ek
        have HV : Hid (ByteArray.empty = ofL (trim (toL s))) := Lib.hid (by
          refine toL_inj ?_
          rw [toL_ofL]
          unfold trim
          rw [HD.out, List.drop_eq_nil_of_le (by rw [toL_length]; omega)]
          rfl)
        go_wp2_with fail
        go_loop [4] (fun t => t = .int .i64 (s.size : Nat)) (fun _ => 0)
        case atStart => rfl
        case round =>
          subst hrel
          go_wp2_with fail
          go_ret
          exact ⟨ret_string HV.out, rfl⟩
      · go_wp2_with fail
        refine (rblank_any _ _).mono ?_
        rintro e w' ⟨rfl, rfl⟩
        rw [HB.out]
        go_wp2_with fail
        go_loop [4] (fun t => ∃ m : Nat, k ≤ m ∧ m ≤ s.size ∧ t = .int .i64 m ∧ Hid (((toL s).drop k).reverse.dropWhile blankB = (((toL s).drop k).take (m - k)).reverse.dropWhile blankB)) (fun t => (intOf t).toNat)
        case atStart => exact ⟨s.size, hk, Nat.le_refl _, rfl, Lib.hid (by rw [List.take_of_length_le (by rw [HL.out]; omega)])⟩
        case round =>
          obtain ⟨m, hm1, hm2, rfl, hb⟩ := hrel
          by_cases hlt2 : k < m
          · obtain ⟨j, rfl⟩ : ∃ j, m = j + 1 := ⟨m - 1, by omega⟩
            have hji : (k : Int) < ((j + 1 : Nat) : Int) := by omega
            have HE : Hid (((toL s).drop k)[j - k]? = some s[j]) := Lib.hid (by rw [List.getElem?_drop, show k + (j - k) = j by omega]; exact toL_get s j (by omega))
            have HLA := Lib.hid (last_at _ _ _ HE.out)
            by_cases hbl : blankB s[j] = true
            · have HB2 := Lib.hid hbl
              have HA : Hid (((toL s).drop k).reverse.dropWhile blankB = (((toL s).drop k).take (j - k)).reverse.dropWhile blankB) := Lib.hid (by
                rw [hb.out, show j + 1 - k = j - k + 1 by omega, HLA.out, if_pos hbl])
              clear hbl HLA HE
              go_wp2_with fail
              refine (rblank_any _ _).mono ?_
              rintro e w' ⟨rfl, rfl⟩
              rw [HB2.out]
              go_wp2_with fail
              go_round
              case rel => exact ⟨j, by omega, by omega, rfl, HA⟩
              case measure => simp [intOf]
            · have hbl : blankB s[j] = false := by simpa using hbl
              have HB2 := Lib.hid hbl
              have HV : Hid (s.extract k (j + 1) = ofL (trim (toL s))) := Lib.hid (by
                refine toL_inj ?_
                rw [toL_extract, toL_ofL]
                unfold trim
                rw [HD.out, hb.out, show j + 1 - k = j - k + 1 by omega, HLA.out, if_neg (by rw [hbl]; decide), List.reverse_reverse, List.drop_take, show j + 1 - k = j - k + 1 by omega])
              clear hbl HLA HE
              go_wp2_with fail
              refine (rblank_any _ _).mono ?_
              rintro e w' ⟨rfl, rfl⟩
              rw [HB2.out]
              go_wp2_with fail
              go_ret
              exact ⟨ret_string HV.out, rfl⟩
          · have em : m = k := by omega
            subst em
            have HV : Hid (ByteArray.empty = ofL (trim (toL s))) := Lib.hid (by
              refine toL_inj ?_
              rw [toL_ofL]
              unfold trim
              rw [HD.out, hb.out, Nat.sub_self]
              rfl)
            go_wp2_with fail
            go_ret
            exact ⟨ret_string HV.out, rfl⟩
end Go.Proofs.YtblpooddamkfdaaGreatDoor.RTrim

/- Layer 4, the document's own Elements. -/
namespace Go.Proofs.YtblpooddamkfdaaGreatDoor.RElements
open Go.ChangeShapes Go.WideShapes Go.ChangeAt Go.RowKit LexPure Bytes Ret RTrim LexList Rows1 Texts
set_option maxRecDepth 20000
def rest (s : ByteArray) (f : Nat) : List (List UInt8) := if f ≤ s.size then elements ((toL s).drop f) else []
/-- behind k bytes, the last comma ahead of f -/
structure EInv (w : World) (s : ByteArray) (k f : Nat) (v : Value) (G : List (List UInt8)) (wr : World) : Prop where
  row : wr.ownsRow w.heap.size 9 1 v G.length (strs G)
  below : Below w.heap.size w wr
  all_ : elements (toL s) = G ++ rest s f
  le : f ≤ k
  in_ : k ≤ s.size → f ≤ s.size
  out_ : s.size < k → s.size < f
  no : noComma (((toL s).drop f).take (k - f)) = true
  few : G.length ≤ k
theorem rest_end {s : ByteArray} {f : Nat} (hf : f ≤ s.size) (h : noComma (((toL s).drop f).take (s.size - f)) = true) : rest s f = one (((toL s).drop f).take (s.size - f)) := by
  unfold rest
  have e : ((toL s).drop f).take (s.size - f) = (toL s).drop f := List.take_of_length_le (by rw [List.length_drop, toL_length]; omega)
  rw [if_pos hf]
  rw [e] at h ⊢
  exact elements_plain h
theorem rest_cut {s : ByteArray} {f k : Nat} (hf : f ≤ k) (hk : k < s.size) (h : noComma (((toL s).drop f).take (k - f)) = true) (hc : s[k] = 44) : rest s f = one (((toL s).drop f).take (k - f)) ++ rest s (k + 1) := by
  unfold rest
  rw [if_pos (by omega), if_pos (by omega)]
  have e : (toL s).drop f = ((toL s).drop f).take (k - f) ++ 44 :: (toL s).drop (k + 1) := by
    have h1 := List.take_append_drop (k - f) ((toL s).drop f)
    rw [List.drop_drop, show f + (k - f) = k by omega, toL_drop s k hk, hc] at h1
    exact h1.symm
  conv => lhs; rw [e]
  exact elements_cut h
theorem piece_eq (s : ByteArray) (f k : Nat) : toL (s.extract f k) = ((toL s).drop f).take (k - f) := by
  rw [toL_extract, List.drop_take]
set_option maxHeartbeats 1600000 in
theorem relements_any (s : ByteArray) (hs : s.size ≤ 8796093022206) (w : World) :
    Calls Tryz.prog 74 #[.string s] w fun e w' => ∃ v, e = .returned v ∧ w'.ownsRow w.heap.size 9 1 v (elements (toL s)).length (strs (elements (toL s))) ∧ Below w.heap.size w w' := by
  obtain ⟨i0, hi, hz0, hz1, hz2⟩ := info_parts infoS
  go_enter Tryz.func74, Tryz.ntmps74
  go_wp2_with fail
  go_loopw [3, 4, 5] (fun v f i wr => ∃ k : Nat, k ≤ s.size + 1 ∧ i = .int .i64 k ∧ ∃ j : Nat, f = .int .i64 j ∧ Hid (∃ G, EInv w s k j v G wr)) (fun _ _ i _ => s.size + 1 - (intOf i).toNat)
  case atStart => exact ⟨0, Nat.zero_le _, rfl, 0, rfl, Lib.hid ⟨[], World.ownsRow_nil _ _ _ _, Below.refl _ _, by simp [rest], Nat.le_refl _, fun _ => Nat.zero_le _, fun h => h, rfl, Nat.le_refl _⟩⟩
  case round =>
    obtain ⟨k, hk, rfl, f, rfl, HI⟩ := hrel
    obtain ⟨G, I⟩ := HI.out
    have hfk := I.le
    by_cases hle : k ≤ s.size
    · have hki : (k : Int) ≤ (s.size : Int) := by omega
      have hfs := I.in_ hle
      by_cases hcut : k = s.size ∨ (∃ h : k < s.size, s[k] = 44)
      · have hE : elements (toL s) = (G ++ one (((toL s).drop f).take (k - f))) ++ rest s (k + 1) := by
          rcases hcut with h | ⟨h, hc⟩
          · subst h
            rw [I.all_, rest_end hfs I.no, show rest s (s.size + 1) = [] by unfold rest; rw [if_neg (by omega)]]
            simp
          · rw [I.all_, rest_cut hfk h I.no hc, List.append_assoc]
        have hsz : (s.extract f k).size ≤ maxLen := by
          have := toL_length (s.extract f k)
          rw [piece_eq, List.length_take, List.length_drop, toL_length] at this
          unfold maxLen
          omega
        have HT := Lib.hid (rtrim_any (s.extract f k) hsz)
        rw [piece_eq] at HT
        clear hsz
        generalize hX : ((toL s).drop f).take (k - f) = X at *
        have hrow := I.row
        have hbw := I.below
        have hfew := I.few
        have hfi : (f : Int) ≤ (k : Int) := by omega
        have hx : (((k : Int) == (s.size : Int)) = true) ∨ (∃ h : k < s.size, ((k : Int) == (s.size : Int)) = false ∧ (k : Int) < (s.size : Int) ∧ ((s[k].toNat : Int) == 44) = true) := by
          rcases hcut with h | ⟨h, hc⟩
          · exact .inl (by rw [h]; exact beq_self_eq_true _)
          · exact .inr ⟨h, beq_eq_false_iff_ne.2 (by omega), by omega, by rw [hc]; rfl⟩
        have HNE : Hid (∀ G' v' wr', wr'.ownsRow w.heap.size 9 1 v' G'.length (strs G') → Below w.heap.size w wr' → G' = G ++ one X → Hid (∃ G, EInv w s (k + 1) (k + 1) v' G wr')) := Lib.hid (fun G' v' wr' h1 h2 h3 => Lib.hid ⟨G', h1, h2, by rw [h3]; exact hE, Nat.le_refl _, fun h => h, fun h => h, by rw [Nat.sub_self]; rfl, by
          have := one_length X
          rw [h3, List.length_append]
          omega⟩)
        clear hE HI I hX hcut
        rcases hx with hq | ⟨hlt, hq, hki2, hc⟩
        all_goals
          go_wp2_with fail
          refine (HT.out _).mono ?_
          rintro e w' ⟨rfl, rfl⟩
          by_cases hem : (trim X).isEmpty = true
          · have h1 : one X = [] := by unfold one; rw [if_pos hem]
            have h2 : (ofL (trim X)).size = 0 := by rw [ofL_size, List.isEmpty_iff.1 hem]; rfl
            have HR := HNE.out G u3 wr hrow hbw (by rw [h1, List.append_nil])
            clear HNE HT h1 hem hrow
            generalize ofL (trim X) = E at *
            go_wp2_with fail
            go_roundw
            case rel => exact ⟨k + 1, by omega, by go_num, k + 1, by go_num, HR⟩
            case measure => simp [intOf]; omega
          · have h1 : one X = [trim X] := by unfold one; rw [if_neg hem]
            have h2 : 0 < (ofL (trim X)).size := by
              rw [ofL_size]
              cases h : trim X with
              | nil => rw [h] at hem; exact absurd rfl hem
              | cons => simp
            rw [h1] at HNE
            have hbase : w.heap.size ≤ wr.heap.size := hbw.size
            have HNF : Hid (∀ v' wr', wr'.ownsRow w.heap.size 9 1 v' (G.length + 1) (strs G ++ [.string (ofL (trim X))]) → Below w.heap.size w wr' → Hid (∃ G, EInv w s (k + 1) (k + 1) v' G wr')) := Lib.hid (fun v' wr' h1 h2 => HNE.out (G ++ [trim X]) v' wr' (by rw [List.length_append, strs_append]; exact h1) h2 rfl)
            clear HNE HT h1 hem
            generalize ofL (trim X) = E at *
            go_wp2_with (at_builtin; refine wpList_append_own _ rfl _ _ 109 rfl w.heap.size 9 i0 (.string ByteArray.empty) 1 16 Tryz.underlying109 hi hz0 hz1 hz2 rfl (by decide) _ _ _ rfl (hrow.alloc _) ⟨wr.heap.size, 0, none⟩ 1 1 [.string E] rfl rfl (cell_one_new _ _ _) (fun x hx => by simp at hx; subst hx; rfl) (by unfold maxLen; omega) (by omega) (by simp; omega) ?_; intro v' w3 hown' hgrow3 hnil3)
            have HR := HNF.out v' w3 hown' (Below.grown (hbw.alloc hbw.size _) hgrow3 (by simp; omega) (fun j hj => (hrow.lt _ hj).1))
            clear hown' hgrow3 hnil3 HNF hrow
            go_wp2_with fail
            go_roundw
            case rel => exact ⟨k + 1, by omega, by go_num, k + 1, by go_num, HR⟩
            case measure => simp [intOf]; omega
      · have hlt : k < s.size := by
          rcases Nat.lt_or_ge k s.size with h | h
          · exact h
          · exact absurd (.inl (by omega)) hcut
        have hcb : (s[k] == 44) = false := by
          rw [beq_eq_false_iff_ne]
          exact fun h => hcut (.inr ⟨hlt, h⟩)
        have hcd : ((s[k].toNat : Int) == 44) = false := by
          have := all_bytes (p := fun b => (((b.toNat : Int) == 44) == (b == 44))) (by decide +kernel) s[k]
          rw [beq_iff_eq] at this
          rw [this]
          exact hcb
        have hq : ((k : Int) == (s.size : Int)) = false := beq_eq_false_iff_ne.2 (by omega)
        have hki2 : (k : Int) < (s.size : Int) := by omega
        have HR : Hid (∃ G, EInv w s (k + 1) f u3 G wr) := Lib.hid ⟨G, I.row, I.below, I.all_, by omega, fun _ => hfs, fun h => by omega, by
          rw [show k + 1 - f = k - f + 1 by omega, List.take_add_one, List.getElem?_drop, show f + (k - f) = k by omega, toL_get s k hlt]
          exact noComma_snoc I.no hcb, by have := I.few; omega⟩
        clear hcut hcb HI I
        go_wp2_with fail
        go_roundw
        case rel => exact ⟨k + 1, by omega, by go_num, f, rfl, HR⟩
        case measure => simp [intOf]; omega
    · have hrow := I.row
      have hbw := I.below
      have hG : G = elements (toL s) := by
        rw [I.all_]
        have hf := I.out_ (by omega)
        have : rest s f = [] := by unfold rest; rw [if_neg (by omega)]
        rw [this, List.append_nil]
      rw [hG] at hrow
      clear I HI
      go_wp2_with fail
      go_ret
      exact ⟨_, rfl, hrow, hbw⟩
end Go.Proofs.YtblpooddamkfdaaGreatDoor.RElements

/- append of one row of the call's own onto another: the source nil or not, in one law. No program is named. -/
namespace Go.Proofs.YtblpooddamkfdaaGreatDoor.AppendRow

theorem wpList_append_row {P : Program} {w : World} {ops : Array Oper} {rest : List Oper} {o : Oper} {a : Act} {Q : Exit → Act → World → Prop} (hgd : o.guard = none) (s x : Operand) (t : TypeId)
    (ho : o.op = .call { callee := .builtin .append, args := #[s, x], argTypes := #[t, t] })
    (base : Nat) (e : TypeId) (i : TypeInfo) (z : Value) (size bytes : Nat) (ht : P.underlying t = some (.slice e)) (hi : P.info? e = some i) (hz : i.zero = some z)
    (hsize : i.size = size) (hby : i.bytes = bytes) (hzs : z.cells.size = size) (hsz : 0 < size)
    (v : Value) (n : Nat) (xs : List Value) (hs : a.eval s = v) (hown : w.ownsRow base e size v n xs)
    (y : Value) (base' m : Nat) (ys : List Value) (hx : a.eval x = y) (hrow : w.ownsRow base' e size y m ys) (h1 : ∀ u ∈ ys, u.oneCell' = true)
    (h63 : n + m ≤ maxLen) (hbytes : (n + m) * bytes ≤ 140737488355328) (hbase : base ≤ w.heap.size)
    (h : ∀ v' w', w'.ownsRow base e size v' (n + m) (xs ++ ys) → w.grownBy w' v.ownBlock → (v'.ownBlock = v.ownBlock ∨ v'.ownBlock = some w.heap.size) → wpList P ops Q rest (a.put o.dst v') w') :
    wpList P ops Q (o :: rest) a w := by
  rcases hrow.2 with ⟨rfl, rfl⟩ | ⟨g, cap, cur, rfl, _⟩
  · have hys : ys = [] := List.eq_nil_of_length_eq_zero (by simpa using hrow.1)
    subst hys
    exact wpList_append_own_none hgd s x t ho base e i size ht hi v n xs hs hown hx (h v w (by simpa using hown) (World.grownBy.refl w _) (.inl rfl))
  · exact wpList_append_own_at w hgd s x t ho base e i z size bytes ht hi hz hsize hby hzs hsz v n xs hs hown ⟨g, 0, none⟩ m cap ys hx hrow.1 (hrow.cells rfl) h1 h63 hbytes hbase (fun v' w' a1 a2 _ a4 => h v' w' a1 a2 a4)
end Go.Proofs.YtblpooddamkfdaaGreatDoor.AppendRow

/- Layer 7, the document's own Elements. -/
namespace Go.Proofs.YtblpooddamkfdaaGreatDoor.R7Elements
open Go.ChangeShapes Go.WideShapes Go.ChangeAt Go.RowKit LexPure Bytes Ret Rows1 Texts FieldsPure Flds RAlike7 RElements R7Get KeptRow AppendRow Mem
set_option maxRecDepth 20000
theorem elems_snoc (l : List HField) (f : HField) (n : List UInt8) : elems (l ++ [f]) n = if hit n f then elems l n ++ elements f.2 else elems l n := by
  unfold elems
  rw [List.filter_append, List.flatMap_append]
  cases h : hit n f <;> simp [h]
theorem pieces_len : ∀ s : List UInt8, (pieces s).length ≤ s.length + 1
  | [] => by simp [pieces]
  | c :: s => by
    have ih := pieces_len s
    rw [pieces]
    split
    · simp; omega
    · split
      · simp
      · rename_i p ps hp
        rw [hp] at ih
        simp at ih ⊢
        omega
theorem elements_len (s : List UInt8) : (elements s).length ≤ s.length + 1 := by
  unfold elements
  have h1 := List.length_filter_le (fun e : List UInt8 => !e.isEmpty) ((pieces s).map trim)
  rw [List.length_map] at h1
  have := pieces_len s
  omega
theorem elems_len (l : List HField) (n : List UInt8) (B : Nat) (h : ∀ f ∈ l, f.2.length + 1 ≤ B) : (elems l n).length ≤ l.length * B := by
  induction l with
  | nil => simp [elems]
  | cons f l ih =>
    have ih' := ih (fun g hg => h g (List.mem_cons_of_mem _ hg))
    have hf := h f (List.mem_cons_self)
    have he := elements_len f.2
    unfold elems at *
    rw [List.length_cons, Nat.succ_mul]
    clear h ih
    generalize l.length * B = m at *
    cases hq : hit n f
    · rw [List.filter_cons_of_neg (by rw [hq]; decide)]
      omega
    · rw [List.filter_cons_of_pos hq, List.flatMap_cons, List.length_append]
      omega
/-- the elements of the first k fields -/
structure Gath (w : World) (X : List (List UInt8)) (v : Value) (wr : World) : Prop where
  row : wr.ownsRow w.heap.size 9 1 v X.length (strs X)
  below : Below w.heap.size w wr
theorem Gath.start (w : World) : Gath w [] (.slice none 0 0) w := ⟨World.ownsRow_nil _ _ _ _, Below.refl _ _⟩
theorem Gath.call {w w1 w2 : World} {X : List (List UInt8)} {v : Value} (h : Gath w X v w1) (hb : Below w1.heap.size w1 w2) : Gath w X v w2 :=
  ⟨row_below h.row hb, below_chain h.below hb⟩
theorem Gath.lt {w w1 : World} {X : List (List UInt8)} {v : Value} (h : Gath w X v w1) : ∀ j, v.ownBlock = some j → w.heap.size ≤ j := fun j hj => (h.row.lt j hj).1
theorem strs_cells (L : List (List UInt8)) : ∀ u ∈ Texts.strs L, u.oneCell' = true := by
  intro u hu
  unfold Texts.strs at hu
  obtain ⟨a, _, rfl⟩ := List.mem_map.1 hu
  rfl
set_option maxHeartbeats 1600000 in
theorem r7elements_any (v : Value) (G : List HField) (n : ByteArray) (hn : n.size ≤ 1048576) (hG : Few G) (hle2 : G.length ≤ 1048576) (w : World) (hF : FL w v G) :
    Calls Tryz.prog 56 #[v, .string n] w fun e w' => ∃ v', e = .returned v' ∧ w'.ownsRow w.heap.size 9 1 v' (elems G (toL n)).length (strs (elems G (toL n))) ∧ Below w.heap.size w w' := by
  obtain ⟨i0, hi, hz0, hz1, hz2⟩ := info_parts infoS
  obtain ⟨p, cap, rfl, hle, hc⟩ := hF
  have hbig : ∀ k, (elems (G.take k) (toL n)).length ≤ 1099512676352 := fun k => by
    have := elems_len (G.take k) (toL n) 1048577 (fun f hf => by
      obtain ⟨j, hj, rfl⟩ := List.mem_iff_getElem.1 (List.mem_of_mem_take hf)
      exact Nat.succ_le_succ (hG j hj).2)
    have h2 : (G.take k).length ≤ 1048576 := Nat.le_trans (List.length_take_le' _ _) hle2
    have h3 := Nat.mul_le_mul_right 1048577 h2
    omega
  replace hc := Lib.hid hc
  replace hG := Lib.hid hG
  replace hbig := Lib.hid hbig
  have HK := Lib.hid (Gath.start w)
  go_enter Tryz.func56, Tryz.ntmps56
  go_wp2_with fail
  go_loopw [5, 6] (fun x i wr => ∃ k : Nat, k ≤ G.length ∧ i = .int .i64 k ∧ Hid (Gath w (elems (G.take k) (toL n)) x wr)) (fun _ i _ => G.length - (intOf i).toNat)
  case atStart => exact ⟨0, Nat.zero_le _, rfl, HK⟩
  case round =>
    obtain ⟨k, hk, rfl, HI⟩ := hrel
    clear HK
    by_cases hlt : k < G.length
    · obtain ⟨g, o, rfl, hgl, hcell⟩ := hc.out (by omega)
      obtain ⟨c1, c2⟩ := hcell k hlt
      have hki : (k : Int) < (G.length : Int) := by omega
      obtain ⟨s1, s2⟩ := hG.out k hlt
      have HA := Lib.hid (fun w => ralike7_any (ofL G[k].1) n (by rw [ofL_size]; omega) (by omega) w)
      rw [toL_ofL] at HA
      have HT : Hid (elems (G.take (k + 1)) (toL n) = if hit (toL n) G[k] then elems (G.take k) (toL n) ++ elements G[k].2 else elems (G.take k) (toL n)) := Lib.hid (by rw [← elems_snoc, List.take_add_one, List.getElem?_eq_getElem hlt]; rfl)
      replace c1 := (HI.out.below.cell (p := ⟨g, o + k * 2, none⟩) hgl).trans c1
      replace c2 := (HI.out.below.cell (p := ⟨g, o + k * 2 + 1, none⟩) hgl).trans c2
      have hgl2 := Nat.lt_of_lt_of_le hgl HI.out.below.size
      clear hcell
      cases hh : hit (toL n) G[k]
      · rw [hh] at HT
        rw [show alike G[k].1 (toL n) = false from hh] at HA
        clear hh
        go_wp2_with fail
        refine (HA.out _).mono ?_
        rintro e w2 ⟨rfl, hb2⟩
        have HK3 : Hid (Gath w (elems (G.take (k + 1)) (toL n)) u5 w2) := Lib.hid (by
          rw [HT.out]
          exact HI.out.call hb2)
        clear hb2
        go_wp2_with fail
        go_roundw
        case rel => exact ⟨k + 1, by omega, by go_num, HK3⟩
        case measure => simp [intOf]; omega
      · rw [hh] at HT
        rw [show alike G[k].1 (toL n) = true from hh] at HA
        have HE := Lib.hid (fun w => relements_any (ofL G[k].2) (by rw [ofL_size]; omega) w)
        rw [toL_ofL] at HE
        have hel := elements_len G[k].2
        clear hh
        go_wp2_with fail
        refine (HA.out _).mono ?_
        rintro e w2 ⟨rfl, hb2⟩
        replace c2 := (hb2.cell (p := ⟨g, o + k * 2 + 1, none⟩) hgl2).trans c2
        have HG2 := Lib.hid (HI.out.call hb2)
        clear hb2 c1
        go_wp2_with fail
        refine (HE.out _).mono ?_
        rintro e w3 ⟨v3, rfl, hr3, hb3⟩
        have HG3 := Lib.hid (HG2.out.call hb3)
        have hrow := HG3.out.row
        have hlen := hbig.out k
        clear hb3 HG2 c2
        go_wp2_with (at_builtin; refine wpList_append_row rfl (.tmp 27) (.tmp 28) 109 rfl w.heap.size 9 i0 (.string ByteArray.empty) 1 16 Tryz.underlying109 hi hz0 hz1 hz2 rfl (by decide) u5 _ _ rfl hrow v3 w2.heap.size _ _ rfl hr3 (strs_cells _) (by simp only [maxLen]; omega) (by omega) HG3.out.below.size ?_; intro v4 w4 hown4 hg4 hat4)
        have HK3 : Hid (Gath w (elems (G.take (k + 1)) (toL n)) v4 w4) := Lib.hid (by
          rw [HT.out]
          refine ⟨?_, Below.grown HG3.out.below hg4 HG3.out.below.size HG3.out.lt⟩
          simp only [if_true]
          rw [strs_append, List.length_append]
          exact hown4)
        clear hown4 hg4 hat4 hrow
        go_wp2_with fail
        go_roundw
        case rel => exact ⟨k + 1, by omega, by go_num, HK3⟩
        case measure => simp [intOf]; omega
    · have hall : G.take k = G := List.take_of_length_le (by omega)
      have HE := HI.out
      rw [hall] at HE
      have HEH := Lib.hid HE
      clear HE HI hall
      go_wp2_with fail
      go_ret
      exact ⟨_, rfl, HEH.out.row, HEH.out.below⟩
end Go.Proofs.YtblpooddamkfdaaGreatDoor.R7Elements

/- append of one row of the call's own onto another, at the operation, inside a fence: the source nil or not. No program is named. -/
namespace Go.Proofs.YtblpooddamkfdaaGreatDoor.AppendIn
open Go.RowKit
theorem run_append_row {P : Program} {w : World} (t ty : TypeId) (base : Nat) (e : TypeId) (i : TypeInfo) (z : Value) (size bytes : Nat) (ht : P.underlying t = some (.slice e)) (hi : P.info? e = some i) (hz : i.zero = some z)
    (hsize : i.size = size) (hby : i.bytes = bytes) (hzs : z.cells.size = size) (hsz : 0 < size)
    (v : Value) (n : Nat) (xs : List Value) (hown : w.ownsRow base e size v n xs)
    (y : Value) (base' m : Nat) (ys : List Value) (hrow : w.ownsRow base' e size y m ys) (h1 : ∀ u ∈ ys, u.oneCell' = true)
    (h63 : n + m ≤ maxLen) (hbytes : (n + m) * bytes ≤ 140737488355328) (hbase : base ≤ w.heap.size) :
    ∃ v' w', (Builtin.append_ #[t, t] ty #[v, y]).run P w = .ok v' w' ∧ w'.ownsRow base e size v' (n + m) (xs ++ ys) ∧ w.grownBy w' v.ownBlock := by
  rcases hrow.2 with ⟨rfl, rfl⟩ | ⟨g, cap, cur, rfl, _⟩
  · have hys : ys = [] := List.eq_nil_of_length_eq_zero (by simpa using hrow.1)
    subst hys
    exact ⟨v, w, run_append_owned_none (P := P) (w := w) base t ty e i size ht hi v n xs hown, by simpa using hown, World.grownBy.refl w _⟩
  · obtain ⟨v', w', hr, h2, h3, _, _⟩ := run_append_own_at (P := P) w base t ty e i z size bytes ht hi hz hsize hby hzs hsz v n xs hown ⟨g, 0, none⟩ m cap ys hrow.1 (hrow.cells rfl) h1 h63 hbytes hbase
    exact ⟨v', w', hr, h2, h3⟩
theorem wpIn_append_row {F : Fence} {nF : Nat} {P : Program} {w : World} {o : Oper} {a : Act} {K : Act → World → Prop} {Q : Exit → Act → World → Prop} (s x : Operand) (t : TypeId)
    (ho : o.op = .call { callee := .builtin .append, args := #[s, x], argTypes := #[t, t] })
    (base : Nat) (e : TypeId) (i : TypeInfo) (z : Value) (size bytes : Nat) (ht : P.underlying t = some (.slice e)) (hi : P.info? e = some i) (hz : i.zero = some z)
    (hsize : i.size = size) (hby : i.bytes = bytes) (hzs : z.cells.size = size) (hsz : 0 < size)
    (v : Value) (n : Nat) (xs : List Value) (hs : a.eval s = v) (hown : w.ownsRow base e size v n xs)
    (y : Value) (base' m : Nat) (ys : List Value) (hx : a.eval x = y) (hrow : w.ownsRow base' e size y m ys) (h1 : ∀ u ∈ ys, u.oneCell' = true)
    (h63 : n + m ≤ maxLen) (hbytes : (n + m) * bytes ≤ 140737488355328) (hbase : base ≤ w.heap.size)
    (h : ∀ v' w', w'.ownsRow base e size v' (n + m) (xs ++ ys) → w.grownBy w' v.ownBlock → K (a.put o.dst v') w') :
    o.wpIn F nF P a w K Q := by
  obtain ⟨v', w', hrun, r1, r2⟩ := run_append_row t o.type base e i z size bytes ht hi hz hsize hby hzs hsz v n xs hown y base' m ys hrow h1 h63 hbytes hbase
  unfold Oper.wpIn
  refine ⟨?_, ?_⟩
  · simp [Oper.about, ho, resolve, Target.leads, Sem.run_pure]
  · rw [Oper.semAt_plain F _ _ (by rw [ho]; intro c hc'; cases hc')]
    simp [execOp, ho, resolve, invoke, builtin, hs, hx, hrun, Result.andThen]
    exact h v' w' r1 r2
/-- behind 'out = append(out, f(..)...)', out in a box: all that the walk owes -/
theorem appended {W w1 w2 : World} {n₀ r0 B : Nat} {t e : TypeId} {size : Nat} {v v' : Value} {k m : Nat} {xs ys : List Value}
    (hv : Boxed W B t v) (hte : t ≠ e) (hrow : W.ownsRow r0 e size v k xs) (hn₀ : n₀ ≤ r0) (hr0 : r0 ≤ W.heap.size) (hB : n₀ ≤ B) (hb : Below W.heap.size W w1) (hrow1 : w1.ownsRow r0 e size v k xs)
    (hown' : w2.ownsRow r0 e size v' m ys) (hg : w1.grownBy w2 v.ownBlock) :
    Boxed w2 B t v ∧ Boxed (w2.setCell ⟨B, 0, none⟩ v') B t v' ∧ (w2.setCell ⟨B, 0, none⟩ v').ownsRow r0 e size v' m ys ∧ KeepsOthers W (w2.setCell ⟨B, 0, none⟩ v') ∧ Below n₀ W (w2.setCell ⟨B, 0, none⟩ v') ∧
      (∀ B' t' u, Boxed W B' t' u → B' < r0 → B' ≠ B → Boxed (w2.setCell ⟨B, 0, none⟩ v') B' t' u) := by
  have hgb : W.grownBy w1 none := ⟨hb.os, hb.tape, hb.output, hb.size, fun k hk _ => hb.block k hk⟩
  have hv0 : Boxed w1 B t v := hv.kept hgb (by simp)
  have hv1 : Boxed w2 B t v := hv0.kept hg (hv.not_row hte hrow)
  have hlt : ∀ j, v.ownBlock = some j → r0 ≤ j := fun j hj => (hrow.lt j hj).1
  refine ⟨hv1, hv1.set v', hown'.kept (grownBy_setCell' w2 B v') (.inr (hv1.not_row hte hown').symm), ?_, ?_, ?_⟩
  · refine ((KeepsOthers.of_grownBy hgb fun j o ej hj => (by cases ej)).trans (KeepsOthers.of_grownBy hg fun j o ej hj => ?_)).trans (KeepsOthers.setCell _ _ _)
    rcases hrow1.2 with ⟨rfl, _⟩ | ⟨g, cap, cur, rfl, _, hgb, _⟩
    · simp [Value.ownBlock] at ej
    · obtain rfl : g = j := by simpa [Value.ownBlock] using ej
      rw [hgb] at hj; cases hj; rfl
  · exact ((hb.mono (Nat.le_trans hn₀ hr0)).grown hg (Nat.le_trans (Nat.le_trans hn₀ hr0) hb.size) fun j ej => Nat.le_trans hn₀ (hlt j ej)).setCell (p := ⟨B, 0, none⟩) hB v'
  · intro B' t' u hu hB' hne
    exact ((hu.kept hgb (by simp)).kept hg (fun e => by have := hlt B' e.symm; omega)).other hne _
end Go.Proofs.YtblpooddamkfdaaGreatDoor.AppendIn

/- Layer 7 of the program: Elements. -/
namespace Go.Proofs.YtblpooddamkfdaaGreatDoor.PElems7
open Go.ChangeShapes Go.WideShapes Go.ChangeAt Go.RowKit LexPure Bytes Ret Rows1 Texts FieldsPure Flds R7Get KeptRow R7Elements PAlike PLib PElements PVals PGet AppendIn Mem Go.Shelf
set_option maxRecDepth 100000
attribute [local go_sem] Oper.semAt_some
def elemsV (l : List V) : List (List UInt8) := l.flatMap (fun x => elements x.1)
theorem elemsV_snoc (pre : List V) (x : V) : elemsV (pre ++ [x]) = elemsV pre ++ elements x.1 := by simp [elemsV]
theorem elemsV_len (pre : List V) : (elemsV pre).length ≤ pre.length * 1048577 := by
  induction pre with
  | nil => simp [elemsV]
  | cons x pre ih =>
    rw [show x :: pre = [x] ++ pre from rfl]
    unfold elemsV at *
    rw [List.flatMap_append, List.length_append, List.flatMap_singleton, List.length_append, List.length_singleton, Nat.add_mul]
    have := elements_len x.1
    have := x.2
    omega
theorem elemsV_vs (G : List HField) (hG : ∀ f ∈ G, f.2.length ≤ 1048576) (n : List UInt8) : elemsV (vs G n) = elems G n := by
  induction G with
  | nil => rfl
  | cons f G ih =>
    have h1 := ih (fun g hg => hG g (List.mem_cons_of_mem _ hg))
    rw [show f :: G = [f] ++ G from rfl, vs_append, vs_one]
    unfold elemsV elems at *
    rw [List.flatMap_append, h1, List.filter_append, List.flatMap_append]
    congr 1
    cases h : hit n f
    · simp [h]
    · simp [h, clamp_val (hG f List.mem_cons_self)]
theorem ownsRow_below2 {w w' : World} {base n size : Nat} {e : TypeId} {v : Value} {xs : List Value} (h : w.ownsRow base e size v n xs) (hb : Below w.heap.size w w') : w'.ownsRow base e size v n xs := row_below h hb
set_option maxHeartbeats 3200000 in
theorem pelems_any (v : Value) (G : List HField) (nm : ByteArray) (hG : Few G) (hle2 : G.length ≤ 1048576) (w : World) (hm : MaxInt w) (hF : FL w v G) :
    Calls Tryz.prog 76 #[v, .string nm] w fun e w' => ∃ v', e = .returned v' ∧ w'.ownsRow w.heap.size 9 1 v' (elems G (toL nm)).length (strs (elems G (toL nm))) ∧ Below w.heap.size w w' := by
  obtain ⟨i0, hi, hz0, hz1, hz2⟩ := info_parts infoS
  have HV := Lib.hid (elemsV_vs G (fun f hf => (few_all hG f hf).2) (toL nm))
  obtain ⟨p, cap, hvv, hle, _⟩ := id hF
  subst hvv
  have HF := Lib.hid hF
  have HG := Lib.hid hG
  have HM := Lib.hid hm
  clear hF hG hm
  refine (callsIn_wide (n := 3)).1 ?_
  refine callsIn_of_wp_marks Tryz.func76 rfl trivial ?_ rfl
  simp only [Tryz.ntmps76, List.size_toArray, List.length_cons, List.length_nil, Nat.reduceAdd, Nat.reduceSub, Array.replicate_succ, Array.replicate_zero, List.push_toArray, List.append_toArray, List.nil_append, List.cons_append]
  gi_wp2_with fail
  refine ⟨trivial, ?_⟩
  refine (callsIn_wide.2 (pvalues_any _ _ _ nm _)).mono ?_
  rintro e w' ⟨rfl, rfl⟩
  gi_wp2
  have b0 := ((Boxed.new w 109 (.slice none 0 0)).alloc (.cells #[.slice p G.length cap] 23)).alloc (.cells #[.string nm] 9)
  have b2 := (Boxed.new (w.alloc (.cells #[.slice none 0 0] 109)) 23 (.slice p G.length cap)).alloc (.cells #[.string nm] 9)
  have b3 := Boxed.new ((w.alloc (.cells #[.slice none 0 0] 109)).alloc (.cells #[.slice p G.length cap] 23)) 9 (.string nm)
  have hB0 : Below w.heap.size w (((w.alloc (.cells #[.slice none 0 0] 109)).alloc (.cells #[.slice p G.length cap] 23)).alloc (.cells #[.string nm] 9)) :=
    (((Below.refl _ w).alloc (Nat.le_refl _) _).alloc (by simp) _).alloc (by simp; omega) _
  have hsz : (((w.alloc (.cells #[.slice none 0 0] 109)).alloc (.cells #[.slice p G.length cap] 23)).alloc (.cells #[.string nm] 9)).heap.size = w.heap.size + 1 + 1 + 1 := by simp
  simp only [World.size_alloc] at b2 b3
  generalize (((w.alloc (.cells #[.slice none 0 0] 109)).alloc (.cells #[.slice p G.length cap] 23)).alloc (.cells #[.string nm] 9)) = W0 at *
  have hU := (FL.under HF.out).below hB0
  clear HF
  refine wpIn_rangeFunc_ownG rfl (by omega) (gf := 98) (lb := #[.pointer (some ⟨w.heap.size + 1, 0, none⟩), .pointer (some ⟨w.heap.size + 1 + 1, 0, none⟩)]) rfl trivial (enters_of Tryz.func98 (by kernel_rfl) rfl)
    (vals_stops (3 - 1) (w.heap.size + 1) (w.heap.size + 1 + 1) w.heap.size G HG.out nm (.slice p G.length cap) W0 b2.lt (by omega) b2.cell b3.cell hU) kp_t (kp_b (by omega) b3.lt) (Below.refl _ _) (fun _ => rfl)
    (fun pre W => (∃ v, Boxed W w.heap.size 109 v ∧ W.ownsRow W0.heap.size 9 1 v (elemsV pre).length (strs (elemsV pre)) ∧ True) ∧ Boxed W (w.heap.size + 1 + 1) 9 (.string nm) ∧ W0.heap.size ≤ W.heap.size ∧ Below w.heap.size w W)
    (fun _ _ _ => False)
    (OwnFrom.and (Own.from (holdsRow_own W0.heap.size w.heap.size 109 9 1 (fun pre => (elemsV pre).length) (fun pre => strs (elemsV pre)) (fun _ _ => True)) _) (OwnFrom.and (Own.from (boxed_own _ _ (fun _ => Value.string nm)) _) (OwnFrom.and (fun _ _ _ _ hs hg _ => Nat.le_trans hs hg.size) (ownFrom_below (Nat.le_refl _) (by omega)))))
    (fun _ _ _ _ _ hs _ _ => hs)
    ⟨⟨_, b0, World.ownsRow_nil _ _ _ _, trivial⟩, b3, Nat.le_refl _, hB0⟩
    (fun x => { tmps := #[.slice p G.length cap, .string nm, undef, undef, .slice none 0 0, .pointer (some ⟨w.heap.size, 0, none⟩), .string (ofL x.1), .slice p G.length cap, .string nm, .func (.func 98) #[] #[.pointer (some ⟨w.heap.size + 1, 0, none⟩), .pointer (some ⟨w.heap.size + 1 + 1, 0, none⟩)], .string (ofL x.1), undef, undef, undef, undef, undef], defers := [] }) ?assign ?body ?done ?stop
  case assign =>
    intro l x W K hK
    dsimp only [encV]
    gi_wp2
    exact hK
  case body =>
    rintro l pre x W ⟨⟨v, h0, hrow, _⟩, h3, hW0, hB⟩ hlt
    clear b0 b2 b3 hU HG HV
    have hc := h0.cell
    have hmx : Tryz.prog.follows .mixedOrders = true := by kernel_rfl
    have hE : Calls Tryz.prog 89 #[.string (ofL x.1)] W.drew fun e w' => ∃ v, e = .returned v ∧ w'.ownsRow W.heap.size 9 1 v (elements x.1).length (strs (elements x.1)) ∧ Below W.heap.size W w' := by
      have h := pelements_any (ofL x.1) (by rw [ofL_size]; have := x.2; omega) W.drew (HM.out.below (hB.trans ⟨rfl, rfl, rfl, Nat.le_refl _, fun _ _ => rfl⟩))
      rw [toL_ofL] at h
      refine h.mono ?_
      rintro e w' ⟨v, rfl, hr, hb⟩
      exact ⟨v, rfl, hr, ⟨hb.os, hb.tape, hb.output, hb.size, hb.block⟩⟩
    replace hE := Lib.hid hE
    have hlen : (elemsV pre).length + (elements x.1).length ≤ 1099512676352 := by
      have h1 := elemsV_len (pre ++ [x])
      rw [elemsV_snoc, List.length_append, List.length_append, List.length_singleton] at h1
      have h2 : pre.length + 1 ≤ 1048576 := by omega
      have h3 := Nat.mul_le_mul_right 1048577 h2
      omega
    have hX : Hid (strs (elemsV (pre ++ [x])) = strs (elemsV pre) ++ strs (elements x.1) ∧ (elemsV (pre ++ [x])).length = (elemsV pre).length + (elements x.1).length) := Lib.hid ⟨by rw [elemsV_snoc, strs_append], by rw [elemsV_snoc, List.length_append]⟩
    gi_wp2
    refine wpIn_region_any hmx ?_
    change wpAnyIn _ _ _ _ _ _ _ _ _ (World.drew _)
    refine wpAnyIn_ready (rs := [0, 1]) (by kernel_rfl) (by simp) (AllReadyIn.cons rfl (fun K hK => ?_) (AllReadyIn.cons rfl (fun K hK => ?_) AllReadyIn.nil))
    · go_simp
      refine hK _ _ ?_
      clear hK K
      refine wpAnyIn_ready (rs := [1]) (by kernel_rfl) (by simp) (AllReadyIn.cons rfl (fun K hK => ?_) AllReadyIn.nil)
      go_simp
      refine hK _ _ ?_
      clear hK K
      refine wpAnyIn_ready (rs := [2]) (by kernel_rfl) (by simp) (AllReadyIn.cons rfl (fun K hK => ?_) AllReadyIn.nil)
      go_simp
      refine ⟨trivial, ?_⟩
      refine (CallsIn.inRound l (callsIn_wide.2 hE.out)).mono ?_
      rintro e w' ⟨v3, rfl, hr3, hb3⟩
      refine hK _ _ ?_
      clear hK K
      have hrow1 := ownsRow_below2 hrow hb3
      refine wpAnyIn_ready (rs := [3]) (by kernel_rfl) (by simp) (AllReadyIn.cons rfl (fun K hK => ?_) AllReadyIn.nil)
      rw [if_pos (by rfl)]
      refine wpIn_append_row _ _ 109 rfl W0.heap.size 9 i0 (.string ByteArray.empty) 1 16 Tryz.underlying109 hi hz0 hz1 hz2 rfl (by decide) v _ _ rfl hrow1 v3 W.heap.size _ _ rfl hr3 (strs_cells _) (by simp only [maxLen]; omega) (by omega) (Nat.le_trans hW0 hb3.size) (fun v4 w4 hown4 hg4 => hK _ _ ?_)
      clear hK K
      obtain ⟨q1, q2, q3, q4, q5, q6⟩ := appended (n₀ := w.heap.size) h0 (by decide) hrow (by omega) hW0 (Nat.le_refl _) hb3 hrow1 hown4 hg4
      obtain ⟨p4, cap4, rfl, _⟩ := row_form hown4
      have qc := q1.cell
      have qf := q1.frozen
      have q7 := q6 _ _ _ h3 (by omega) (by omega)
      have HR := Lib.hid (And.intro (q4.from W0.heap.size) (And.intro q5 (And.intro q2 (And.intro q3 q7))))
      clear q1 q2 q3 q4 q5 q6 q7 hown4 hg4 hr3 hb3 hrow1 h0 hrow hc h3
      refine wpAnyIn_ready (rs := [4]) (by kernel_rfl) (by simp) (AllReadyIn.cons rfl (fun K hK => ?_) AllReadyIn.nil)
      go_simp
      refine hK _ _ ?_
      clear hK K
      refine wpAnyIn_done (by kernel_rfl) ?_ _
      gi_wp2
      obtain ⟨r1, r2, r3, r4, r5⟩ := HR.out; exact ⟨r1, ⟨r2, fun _ => r5.cell⟩, ⟨_, r3, by rw [hX.out.1, hX.out.2]; exact r4, trivial⟩, r5, Nat.le_trans hW0 r2.size, hB.trans r2⟩
    · go_simp
      refine hK _ _ ?_
      clear hK K
      refine wpAnyIn_ready (rs := [0, 2]) (by kernel_rfl) (by simp) (AllReadyIn.cons rfl (fun K hK => ?_) (AllReadyIn.cons rfl (fun K hK => ?_) AllReadyIn.nil))
      · go_simp
        refine hK _ _ ?_
        clear hK K
        refine wpAnyIn_ready (rs := [2]) (by kernel_rfl) (by simp) (AllReadyIn.cons rfl (fun K hK => ?_) AllReadyIn.nil)
        go_simp
        refine ⟨trivial, ?_⟩
        refine (CallsIn.inRound l (callsIn_wide.2 hE.out)).mono ?_
        rintro e w' ⟨v3, rfl, hr3, hb3⟩
        refine hK _ _ ?_
        clear hK K
        have hrow1 := ownsRow_below2 hrow hb3
        refine wpAnyIn_ready (rs := [3]) (by kernel_rfl) (by simp) (AllReadyIn.cons rfl (fun K hK => ?_) AllReadyIn.nil)
        rw [if_pos (by rfl)]
        refine wpIn_append_row _ _ 109 rfl W0.heap.size 9 i0 (.string ByteArray.empty) 1 16 Tryz.underlying109 hi hz0 hz1 hz2 rfl (by decide) v _ _ rfl hrow1 v3 W.heap.size _ _ rfl hr3 (strs_cells _) (by simp only [maxLen]; omega) (by omega) (Nat.le_trans hW0 hb3.size) (fun v4 w4 hown4 hg4 => hK _ _ ?_)
        clear hK K
        obtain ⟨q1, q2, q3, q4, q5, q6⟩ := appended (n₀ := w.heap.size) h0 (by decide) hrow (by omega) hW0 (Nat.le_refl _) hb3 hrow1 hown4 hg4
        obtain ⟨p4, cap4, rfl, _⟩ := row_form hown4
        have qc := q1.cell
        have qf := q1.frozen
        have q7 := q6 _ _ _ h3 (by omega) (by omega)
        have HR := Lib.hid (And.intro (q4.from W0.heap.size) (And.intro q5 (And.intro q2 (And.intro q3 q7))))
        clear q1 q2 q3 q4 q5 q6 q7 hown4 hg4 hr3 hb3 hrow1 h0 hrow hc h3
        refine wpAnyIn_ready (rs := [4]) (by kernel_rfl) (by simp) (AllReadyIn.cons rfl (fun K hK => ?_) AllReadyIn.nil)
        go_simp
        refine hK _ _ ?_
        clear hK K
        refine wpAnyIn_done (by kernel_rfl) ?_ _
        gi_wp2
        obtain ⟨r1, r2, r3, r4, r5⟩ := HR.out; exact ⟨r1, ⟨r2, fun _ => r5.cell⟩, ⟨_, r3, by rw [hX.out.1, hX.out.2]; exact r4, trivial⟩, r5, Nat.le_trans hW0 r2.size, hB.trans r2⟩
      · go_simp
        refine ⟨trivial, ?_⟩
        refine (CallsIn.inRound l (callsIn_wide.2 hE.out)).mono ?_
        rintro e w' ⟨v3, rfl, hr3, hb3⟩
        refine hK _ _ ?_
        clear hK K
        have hrow1 := ownsRow_below2 hrow hb3
        have hc3 := (h0.kept (show W.grownBy w' none from ⟨hb3.os, hb3.tape, hb3.output, hb3.size, fun k hk _ => hb3.block k hk⟩) (by simp)).cell
        refine wpAnyIn_ready (rs := [0]) (by kernel_rfl) (by simp) (AllReadyIn.cons rfl (fun K hK => ?_) AllReadyIn.nil)
        go_simp
        refine hK _ _ ?_
        clear hK K
        refine wpAnyIn_ready (rs := [3]) (by kernel_rfl) (by simp) (AllReadyIn.cons rfl (fun K hK => ?_) AllReadyIn.nil)
        rw [if_pos (by rfl)]
        refine wpIn_append_row _ _ 109 rfl W0.heap.size 9 i0 (.string ByteArray.empty) 1 16 Tryz.underlying109 hi hz0 hz1 hz2 rfl (by decide) v _ _ rfl hrow1 v3 W.heap.size _ _ rfl hr3 (strs_cells _) (by simp only [maxLen]; omega) (by omega) (Nat.le_trans hW0 hb3.size) (fun v4 w4 hown4 hg4 => hK _ _ ?_)
        clear hK K
        obtain ⟨q1, q2, q3, q4, q5, q6⟩ := appended (n₀ := w.heap.size) h0 (by decide) hrow (by omega) hW0 (Nat.le_refl _) hb3 hrow1 hown4 hg4
        obtain ⟨p4, cap4, rfl, _⟩ := row_form hown4
        have qc := q1.cell
        have qf := q1.frozen
        have q7 := q6 _ _ _ h3 (by omega) (by omega)
        have HR := Lib.hid (And.intro (q4.from W0.heap.size) (And.intro q5 (And.intro q2 (And.intro q3 q7))))
        clear q1 q2 q3 q4 q5 q6 q7 hown4 hg4 hr3 hb3 hrow1 h0 hrow hc h3
        refine wpAnyIn_ready (rs := [4]) (by kernel_rfl) (by simp) (AllReadyIn.cons rfl (fun K hK => ?_) AllReadyIn.nil)
        go_simp
        refine hK _ _ ?_
        clear hK K
        refine wpAnyIn_done (by kernel_rfl) ?_ _
        gi_wp2
        obtain ⟨r1, r2, r3, r4, r5⟩ := HR.out; exact ⟨r1, ⟨r2, fun _ => r5.cell⟩, ⟨_, r3, by rw [hX.out.1, hX.out.2]; exact r4, trivial⟩, r5, Nat.le_trans hW0 r2.size, hB.trans r2⟩
  case done =>
    rintro D ys W hD rfl ⟨⟨v, h0, hrow, _⟩, h3, _, hB⟩ hK
    have hc := h0.cell
    clear b0 b2 b3 hU HG
    gi_wp2
    refine ⟨by simp, .inl ⟨_, _, rfl, run_takeDeferred hK, ?_⟩⟩
    rw [HV.out] at hrow
    exact ⟨_, results_tmp rfl _ _ _, v, rfl, ownsRow_mono (ownsRow_putObj hrow _ hK rfl) (by omega), hB.trans (belowK_b (w := w) (Nat.le_refl _) W D _ _ (by omega) hK rfl rfl)⟩
  case stop =>
    rintro D c pre W _ _ h _
    exact h.elim
end Go.Proofs.YtblpooddamkfdaaGreatDoor.PElems7

/- Elements joined again. No program is named. -/
namespace Go.Proofs.YtblpooddamkfdaaGreatDoor.LexFlat
open LexPure Bytes LexList
/-- one element, dressed -/
def dress (e : List UInt8) : List UInt8 := [32, 44] ++ e ++ [9, 44]
def flat (G : List (List UInt8)) : List UInt8 := G.flatMap dress
theorem flat_snoc (G : List (List UInt8)) (e : List UInt8) : flat (G ++ [e]) = flat G ++ dress e := by simp [flat]
theorem trim_blank {e : List UInt8} (h : trim e = e) (hne : e.isEmpty = false) : trim (e ++ [9]) = e := by
  have h1 : ∀ c r, e = c :: r → blankB c = false := fun c r he => trim_head (s := e) c r (by rw [h]; exact he)
  have h2 : ∀ c r, e.reverse = c :: r → blankB c = false := fun c r he => trim_last (s := e) c r (by rw [h]; exact he)
  unfold trim
  have e1 : (e ++ [9]).dropWhile blankB = e ++ [9] := dropWhile_id (fun c r he => by
    cases e with
    | nil => simp at hne
    | cons d t => simp only [List.cons_append, List.cons.injEq] at he; rw [← he.1]; exact h1 d t rfl)
  rw [e1, List.reverse_append, List.reverse_singleton, List.singleton_append, List.dropWhile_cons, if_pos (by decide), dropWhile_id h2, List.reverse_reverse]
theorem elements_dress {e r : List UInt8} (h : trim e = e) (hne : e.isEmpty = false) (hc : noComma e = true) : elements (dress e ++ r) = e :: elements r := by
  have e1 : dress e ++ r = [32] ++ 44 :: ((e ++ [9]) ++ 44 :: r) := by simp [dress]
  have hc2 : noComma (e ++ [9]) = true := noComma_snoc hc (by decide)
  rw [e1, elements_cut (p := [32]) (by decide), elements_cut hc2]
  have o1 : one [32] = [] := by decide
  have o2 : one (e ++ [9]) = [e] := by unfold one; rw [trim_blank h hne, hne]; rfl
  rw [o1, o2]
  rfl
theorem elements_flat : ∀ {G : List (List UInt8)}, (∀ e ∈ G, e.isEmpty = false ∧ trim e = e ∧ noComma e = true) → elements (flat G) = G
  | [], _ => by decide
  | e :: G, h => by
    have h0 := h e (by simp)
    show elements (dress e ++ flat G) = _
    rw [elements_dress h0.2.1 h0.1 h0.2.2, elements_flat (fun x hx => h x (by simp [hx]))]
theorem pieces_count : ∀ s : List UInt8, (pieces s).length ≤ s.length + 1
  | [] => by simp [pieces]
  | c :: s => by
    have := pieces_count s
    rw [pieces]
    split
    · simp; omega
    · split
      · simp
      · rename_i p ps hp
        rw [hp] at this
        simp at this ⊢
        omega
theorem pieces_short : ∀ {s p : List UInt8}, p ∈ pieces s → p.length ≤ s.length
  | [], p, h => by
    simp only [pieces, List.mem_singleton] at h
    subst h
    simp
  | c :: s, p, h => by
    rw [pieces] at h
    split at h
    · rw [List.mem_cons] at h
      rcases h with rfl | h
      · simp
      · have := pieces_short h
        simp
        omega
    · split at h
      · rw [List.mem_singleton] at h
        subst h
        simp
      · rename_i q qs hp
        rw [List.mem_cons] at h
        rcases h with rfl | h
        · have := pieces_short (s := s) (p := q) (by rw [hp]; simp)
          simp
          omega
        · have := pieces_short (s := s) (p := p) (by rw [hp]; simp [h])
          simp
          omega
theorem elements_count (s : List UInt8) : (elements s).length ≤ s.length + 1 := by
  have h1 := List.length_filter_le (fun e : List UInt8 => !e.isEmpty) ((pieces s).map trim)
  rw [List.length_map] at h1
  have := pieces_count s
  unfold elements
  omega
theorem elements_short {s e : List UInt8} (h : e ∈ elements s) : e.length ≤ s.length := by
  unfold elements at h
  rw [List.mem_filter, List.mem_map] at h
  obtain ⟨⟨p, hp, rfl⟩, _⟩ := h
  have h1 := trim_length p
  have h2 := pieces_short hp
  omega
theorem flat_length {n : Nat} : ∀ {G : List (List UInt8)}, (∀ e ∈ G, e.length ≤ n) → (flat G).length ≤ G.length * (n + 4)
  | [], _ => by simp [flat]
  | e :: G, h => by
    have h0 := h e (by simp)
    have h1 := flat_length (G := G) (fun x hx => h x (by simp [hx]))
    show (dress e ++ flat G).length ≤ _
    rw [List.length_append, List.length_cons, Nat.add_mul, Nat.one_mul]
    have : (dress e).length = e.length + 4 := by simp [dress]
    omega
theorem pieces_total : ∀ s : List UInt8, (pieces s).flatten.length ≤ s.length
  | [] => by simp [pieces]
  | c :: s => by
    have := pieces_total s
    rw [pieces]
    split
    · simp at this ⊢; omega
    · split
      · simp
      · rename_i p ps hp
        rw [hp] at this
        simp at this ⊢
        omega
theorem flat_total : ∀ L : List (List UInt8), (flat ((L.map trim).filter (fun e => !e.isEmpty))).length ≤ L.flatten.length + 4 * L.length
  | [] => by simp [flat]
  | p :: L => by
    have ih := flat_total L
    have ht := trim_length p
    rw [List.map_cons, List.filter_cons]
    split
    · show (dress (trim p) ++ flat _).length ≤ _
      rw [List.length_append]
      have : (dress (trim p)).length = (trim p).length + 4 := by simp [dress]
      simp only [List.flatten_cons, List.length_append, List.length_cons]
      omega
    · simp only [List.flatten_cons, List.length_append, List.length_cons]
      omega
theorem elements_total (s : List UInt8) : (flat (elements s)).length ≤ 5 * s.length + 4 := by
  have h1 := flat_total (pieces s)
  have h2 := pieces_total s
  have h3 := pieces_count s
  unfold elements
  omega
theorem flat_take (G : List (List UInt8)) (k : Nat) : (flat (G.take k)).length ≤ (flat G).length := by
  have h : flat G = flat (G.take k) ++ flat (G.drop k) := by
    unfold flat
    rw [← List.flatMap_append, List.take_append_drop]
  rw [h, List.length_append]
  omega
end Go.Proofs.YtblpooddamkfdaaGreatDoor.LexFlat

/- Layer 7, the document's own Has. -/
namespace Go.Proofs.YtblpooddamkfdaaGreatDoor.R7Has
open Go.ChangeShapes Go.WideShapes Go.ChangeAt Go.RowKit LexPure Bytes Ret Rows1 Texts FieldsPure Flds RAlike7 R7Get KeptRow R7Elements LexFlat Mem
set_option maxRecDepth 20000
theorem elems_short (G : List HField) (n : List UInt8) (hG : Few G) : ∀ (j : Nat) (h : j < (elems G n).length), (elems G n)[j].length ≤ 1048576 := by
  intro j h
  have hm := List.getElem_mem h
  unfold elems at hm
  obtain ⟨f, hf, he⟩ := List.mem_flatMap.1 hm
  obtain ⟨i, hi, rfl⟩ := List.mem_iff_getElem.1 (List.mem_filter.1 hf).1
  exact Nat.le_trans (elements_short he) (hG i hi).2
set_option maxHeartbeats 1600000 in
theorem r7has_any (v : Value) (G : List HField) (n x : ByteArray) (hn : n.size ≤ 1048576) (hx : x.size ≤ 1048576) (hG : Few G) (hle2 : G.length ≤ 1048576) (w : World) (hF : FL w v G) :
    Calls Tryz.prog 41 #[v, .string n, .string x] w fun e w' => e = .returned (.bool (hasE G (toL n) (toL x))) ∧ Below w.heap.size w w' := by
  have HR := Lib.hid (r7elements_any v G n hn hG hle2 w hF)
  have hS := Lib.hid (elems_short G (toL n) hG)
  clear hF hG hle2
  have HV : Hid (hasE G (toL n) (toL x) = (elems G (toL n)).any (fun y => alike y (toL x))) := Lib.hid rfl
  obtain ⟨b, hb⟩ : ∃ b, b = hasE G (toL n) (toL x) := ⟨_, rfl⟩
  rw [← hb] at HV ⊢
  replace hb := Lib.hid hb
  generalize elems G (toL n) = E at *
  go_enter Tryz.func41, Tryz.ntmps41
  go_wp2_with fail
  refine HR.out.mono ?_
  rintro e w2 ⟨v2, rfl, hrow, hb2⟩
  obtain ⟨p, cap, rfl, hle, hc⟩ := texts_of hrow
  replace hc := Lib.hid hc
  have HB0 := Lib.hid hb2
  clear HR hrow hb2
  go_wp2_with fail
  go_loopw [8] (fun i wr => ∃ k : Nat, k ≤ E.length ∧ i = .int .i64 k ∧ Hid ((E.take k).any (fun y => alike y (toL x)) = false) ∧ Hid (Below w2.heap.size w2 wr)) (fun i _ => E.length - (intOf i).toNat)
  case atStart => exact ⟨0, Nat.zero_le _, rfl, Lib.hid rfl, Lib.hid (Below.refl _ _)⟩
  case round =>
    obtain ⟨k, hk, rfl, ha, HB⟩ := hrel
    by_cases hlt : k < E.length
    · obtain ⟨g, o, rfl, hgl, hcell⟩ := hc.out (by omega)
      have c1 := (HB.out.cell (p := ⟨g, o + k, none⟩) hgl).trans (hcell k hlt)
      have hki : (k : Int) < (E.length : Int) := by omega
      have s1 := hS.out k hlt
      have HA := Lib.hid (fun w => ralike7_any (ofL E[k]) x (by rw [ofL_size]; omega) (by omega) w)
      rw [toL_ofL] at HA
      clear hcell
      cases hh : alike E[k] (toL x)
      · have HN : Hid ((E.take (k + 1)).any (fun y => alike y (toL x)) = false) := Lib.hid (by
          rw [List.take_add_one, List.getElem?_eq_getElem hlt, List.any_append, ha.out]
          simp [hh])
        rw [hh] at HA
        clear hh ha
        go_wp2_with fail
        refine (HA.out _).mono ?_
        rintro e w3 ⟨rfl, hb3⟩
        have HB3 := Lib.hid (below_chain HB.out hb3)
        clear hb3 c1
        go_wp2_with fail
        go_roundw
        case rel => exact ⟨k + 1, by omega, by go_num, HN, HB3⟩
        case measure => simp [intOf]; omega
      · have HV2 : Hid (b = true) := Lib.hid (by
          rw [HV.out, List.any_eq_true]
          exact ⟨E[k], List.getElem_mem hlt, hh⟩)
        rw [hh] at HA
        clear hh ha
        go_wp2_with fail
        refine (HA.out _).mono ?_
        rintro e w3 ⟨rfl, hb3⟩
        have HB3 := Lib.hid (below_chain HB0.out (below_chain HB.out hb3))
        clear hb3 c1
        go_wp2_with fail
        go_ret
        exact ⟨ret_bool HV2.out.symm, HB3.out⟩
    · have HV2 : Hid (b = false) := Lib.hid (by
        have h := ha.out
        rw [List.take_of_length_le (by omega)] at h
        rw [HV.out, h])
      have HB3 := Lib.hid (below_chain HB0.out HB.out)
      clear ha
      go_wp2_with fail
      go_ret
      exact ⟨ret_bool HV2.out.symm, HB3.out⟩
end Go.Proofs.YtblpooddamkfdaaGreatDoor.R7Has

/- Layer 7 of the program: Strip. -/
namespace Go.Proofs.YtblpooddamkfdaaGreatDoor.PStrip
open Go.ChangeShapes Go.WideShapes Go.ChangeAt Go.RowKit LexPure Bytes Ret Rows1 Texts FieldsPure Flds R7Get KeptRow PWithout PStrip1 PLower PLib PElems7 PGet R7Elements Mem Go.Maps Go.Shelf Go.WideMaps
set_option maxRecDepth 100000
/-- the keys of the first k elements -/
def keysOf (E : List (List UInt8)) : List Lit := E.map (fun e => .string (lower e))
def DOf (E : List (List UInt8)) : DataW Unit := setOf (.agg []) (keysOf E)
theorem DOf_snoc (E : List (List UInt8)) (e : List UInt8) : DOf (E ++ [e]) = (DOf E).put (.string (lower e)) (.agg []) := by
  unfold DOf keysOf
  rw [List.map_append]
  exact setOf_snoc _ _ _
theorem has_DOf (E : List (List UInt8)) (L : List UInt8) : Maps.has (DOf E) (.string L) = E.any (fun e => lower e == L) := by
  unfold DOf
  rw [has_setOf _ _ _ (fun x hx => by
    unfold keysOf at hx
    obtain ⟨e, _, rfl⟩ := List.mem_map.1 hx
    trivial)]
  unfold keysOf
  rw [List.any_map]
  rfl
theorem fixed_low : ∀ x ∈ fixed, lower x = x := by
  have : fixed.all (fun x => lower x == x) = true := by decide
  intro x hx
  exact beq_iff_eq.1 (List.all_eq_true.1 this x hx)
theorem one_keys (G : List HField) (n m : List UInt8) (hm : alike m CONNECTION = true) : (Maps.has (DOf (elems G m)) (.string (lower n)) || fixed.contains (lower n)) = one G n := by
  rw [has_DOf, elems_congr hm, Bool.or_comm]
  unfold one hasE alike
  congr 1
  rw [Bool.eq_iff_iff, List.contains_iff_mem, List.any_eq_true]
  constructor
  · intro h
    exact ⟨_, h, beq_iff_eq.2 (fixed_low _ h)⟩
  · rintro ⟨x, hx, he⟩
    rw [← beq_iff_eq.1 he, fixed_low x hx]
    exact hx
theorem wp_mapUpdate {H : Type} {P : Program} {ops : Array Oper} {o : Oper} {a : Act} {w : World} {K : Act → World → Prop} {Q : Exit → Act → World → Prop} {E : Prop}
    (hg : o.guard = none) (m x v : Operand) (t : TypeId) (hop : o.op = Op.mapUpdate t m x v)
    (k e : TypeId) (KK : Keyed P k) (ht : P.underlying t = some (.map k e)) (R : Value → Option (DataW H × List MemPlace)) (b n : Nat) (D : DataW H)
    (hm : a.eval m = .map (some b)) (hown : w.ownsMap P k R b n D) (hn : n < maxLen) (key val : Value) (kl : Lit) (hx : a.eval x = key) (hv : a.eval v = val) (hkey : keyOf P k key = some kl)
    (d : DataW H) (ps : List MemPlace) (hval : R val = some (d, ps))
    (hK : ∀ w', w'.ownsMap P k R b (n + 1) (D.put kl d) → w.grownBy w' (some b) → K (a.put o.dst undef) w') :
    if Region.wanted o (yielded ops a.tmps) = true then Oper.wp P o a w K Q else E := by
  have hw : Region.wanted o (yielded ops a.tmps) = true := by simp [Region.wanted, hg]
  rw [if_pos hw]
  obtain ⟨w', hrun, r1, r2⟩ := hown.update KK ht hn hkey hval
  unfold Oper.wp
  simp [execOp, hop, hm, hx, hv, hrun, Result.andThen]
  exact hK w' r1 r2
/-- ahead of a round: the map, and all else as it lay -/
structure SInv (w w2 : World) (mb : Nat) (E : List (List UInt8)) (k : Nat) (wr : World) : Prop where
  own : wr.ownsMap Tryz.prog 9 unitElem mb k (DOf (E.take k))
  grown : w2.grownBy wr (some mb)
theorem alikeConn : alike (toL ⟨#[67, 111, 110, 110, 101, 99, 116, 105, 111, 110]⟩) CONNECTION = true := by decide
set_option maxHeartbeats 3200000 in
theorem pstrip_any (v : Value) (G : List HField) (hG : Few G) (hle2 : G.length ≤ 1048576) (w : World) (hm : MaxInt w) (hF : FL w v G) :
    Calls Tryz.prog 60 #[v] w fun e w' => ∃ v', e = .returned v' ∧ w'.ownsRow w.heap.size 36 2 v' (strip G).length (encFs (strip G)) ∧ Below w.heap.size w w' := by
  have hmx : Tryz.prog.follows .mixedOrders = true := by kernel_rfl
  have hmm := @run_makeMap Tryz.prog
  have hb0 := ((Below.refl w.heap.size w).alloc (Nat.le_refl _) (.map #[] 0)).alloc (by simp) (.cells #[.map (some w.heap.size)] 129)
  have hE := pelems_any v G ⟨#[67, 111, 110, 110, 101, 99, 116, 105, 111, 110]⟩ hG hle2 _ (hm.below hb0) (hF.below hb0)
  have hone := one_keys G
  have hnE : (elems G (toL ⟨#[67, 111, 110, 110, 101, 99, 116, 105, 111, 110]⟩)).length ≤ 1099512676352 := by
    have := elems_len G (toL ⟨#[67, 111, 110, 110, 101, 99, 116, 105, 111, 110]⟩) 1048577 (fun f hf => Nat.succ_le_succ (few_all hG f hf).2)
    have h3 := Nat.mul_le_mul_right 1048577 hle2
    omega
  have hsh := R7Has.elems_short G (toL ⟨#[67, 111, 110, 110, 101, 99, 116, 105, 111, 110]⟩) hG
  have hone2 : ∀ n, (Maps.has (DOf (elems G (toL ⟨#[67, 111, 110, 110, 101, 99, 116, 105, 111, 110]⟩))) (.string (lower n)) || fixed.contains (lower n)) = one G n := fun n => one_keys G n _ alikeConn
  generalize elems G (toL ⟨#[67, 111, 110, 110, 101, 99, 116, 105, 111, 110]⟩) = E at *
  have HE := Lib.hid hE
  have HO := Lib.hid hone2
  have HS := Lib.hid hsh
  have HF := Lib.hid hF
  have HG := Lib.hid hG
  have hown0 := (World.ownsMap_made w Tryz.prog 9 (unitElem (H := Unit))).alloc (.cells #[.map (some w.heap.size)] 129)
  have hbx0 := (Has.new (w.alloc (.map #[] 0)) 129 #[.map (some w.heap.size)]).cell 0
  rw [World.size_alloc] at hbx0
  have hsz0 : ((w.alloc (.map #[] 0)).alloc (.cells #[.map (some w.heap.size)] 129)).heap.size = w.heap.size + 1 + 1 := by simp
  obtain ⟨p, cap, rfl, hle, _⟩ := hF
  have HB0 := Lib.hid hb0
  have HOwn := Lib.hid hown0
  have HX := Lib.hid hbx0
  clear hE hone2 hsh hG hm hb0 hown0 hbx0 hone
  go_enter Tryz.func60, Tryz.ntmps60
  go_wp2_with fail
  refine HE.out.mono ?_
  rintro e w2 ⟨v2, rfl, hrow, hb2⟩
  have hT := texts_of hrow
  have hown2 := HOwn.out.kept (show World.grownBy _ w2 none from ⟨hb2.os, hb2.tape, hb2.output, hb2.size, fun k hk _ => hb2.block k hk⟩) (by simp)
  have hx2 := (hb2.cell (p := ⟨w.heap.size + 1, 0, none⟩) (by rw [hsz0]; exact Nat.lt_succ_self _)).trans HX.out
  have HB2 := Lib.hid (below_chain HB0.out hb2)
  have hmb2 : ∀ r, some w.heap.size = some r → ∃ o : Obj, w2.heap[r]? = some o ∧ o.isCells = false := fun r e => by
    cases e
    obtain ⟨es, clock, h, _⟩ := hown2
    exact ⟨_, h, rfl⟩
  obtain ⟨p2, cap2, rfl, hl2, hc2⟩ := hT
  have HC := Lib.hid hc2
  have HM := Lib.hid hmb2
  have HX2 := Lib.hid hx2
  have HI0 : Hid (SInv w w2 w.heap.size E 0 w2) := Lib.hid ⟨hown2, World.grownBy.refl _ _⟩
  clear hrow hb2 hown2 hx2 hmb2 hc2 HE HOwn HX HB0
  go_wp2_with fail
  go_loopw [10] (fun i wr => ∃ k : Nat, k ≤ E.length ∧ i = .int .i64 k ∧ Hid (SInv w w2 w.heap.size E k wr)) (fun i _ => E.length - (intOf i).toNat)
  case atStart => exact ⟨0, Nat.zero_le _, rfl, HI0⟩
  case round =>
    obtain ⟨k, hk, rfl, HI⟩ := hrel
    clear HI0
    by_cases hlt : k < E.length
    · obtain ⟨g, o, rfl, hgl, hcell⟩ := HC.out (by omega)
      have c1 := cell_kept (hcell k hlt) HI.out.grown HM.out
      have hki : (k : Int) < (E.length : Int) := by omega
      have s1 := HS.out k hlt
      have cx := cell_kept HX2.out HI.out.grown HM.out
      have HT : Hid (DOf (E.take (k + 1)) = (DOf (E.take k)).put (.string (lower E[k])) (.agg [])) := Lib.hid (by rw [List.take_add_one, List.getElem?_eq_getElem hlt]; exact DOf_snoc _ _)
      have hkey : keyOf Tryz.prog 9 (.string (ofL (lower E[k]))) = some (.string (lower E[k])) := by
        have h := keyOf_string_mk (P := Tryz.prog) (k := 9) Tryz.underlying9 (s := ofL (lower E[k])) (by rw [ofL_size, lower_length]; unfold maxLen; omega)
        rw [h]
        rfl
      have hL := plower_any (ofL E[k]) (by rw [ofL_size]; unfold maxLen; omega) wr.drew
      rw [toL_ofL] at hL
      have HL := Lib.hid hL
      clear hcell hL
      go_wp2_with fail
      refine wp_region_any hmx ?_
      change wpAny _ _ _ _ _ _ _ (World.drew _)
      refine wpAny_take (i := 1) (v := .string (ofL E[k])) rfl (by kernel_rfl) (by kernel_rfl) (by kernel_rfl) (fun _ _ _ h => h) (Or.inl ⟨by rfl, fun w => by go_simp⟩) ?_
      refine wpAny_take (i := 3) (v := .agg #[]) rfl (by kernel_rfl) (by kernel_rfl) (by kernel_rfl) (fun _ _ _ h => h) (Or.inl ⟨by rfl, fun w => by go_simp⟩) ?_
      refine wpAny_ready (rs := [0, 2]) (by kernel_rfl) (by simp) (AllReady.cons rfl (fun K hK => ?_) (AllReady.cons rfl (fun K hK => ?_) AllReady.nil))
      · go_simp
        refine hK _ _ ?_
        clear hK K
        refine wpAny_ready (rs := [2]) (by kernel_rfl) (by simp) (AllReady.cons rfl (fun K hK => ?_) AllReady.nil)
        go_simp
        refine HL.out.mono ?_
        rintro e w4 ⟨rfl, hb4⟩
        refine hK _ _ ?_
        clear hK K
        have hown2 := HI.out.own.kept (show wr.grownBy w4 none from ⟨hb4.os, hb4.tape, hb4.output, hb4.size, fun k hk _ => hb4.block k hk⟩) (by simp)
        refine wpAny_ready (rs := [4]) (by kernel_rfl) (by simp) (AllReady.cons rfl (fun K hK => ?_) AllReady.nil)
        refine wp_mapUpdate rfl _ _ _ 129 rfl 9 130 lawS Tryz.underlying129 (unitElem (H := Unit)) w.heap.size k (DOf (E.take k)) rfl hown2 (by unfold maxLen; omega) _ _ _ rfl rfl hkey _ [] unitElem_mk ?_
        intro w5 hown5 hg5
        refine hK _ _ ?_
        clear hK K
        have HI5 : Hid (SInv w w2 w.heap.size E (k + 1) w5) := Lib.hid ⟨by rw [HT.out]; exact hown5, (HI.out.grown.trans (show wr.grownBy w4 (some w.heap.size) from ⟨hb4.os, hb4.tape, hb4.output, hb4.size, fun k hk _ => hb4.block k hk⟩)).trans hg5⟩
        clear hown5 hg5 hown2 hb4 HI HL c1 cx hkey HT
        refine wpAny_done (by kernel_rfl) ?_ _
        go_wp2_with fail
        go_roundw
        case rel => exact ⟨k + 1, by omega, by go_num, HI5⟩
        case measure => simp [intOf]; omega
      · go_simp
        refine HL.out.mono ?_
        rintro e w4 ⟨rfl, hb4⟩
        refine hK _ _ ?_
        clear hK K
        have cx4 := (hb4.cell (p := ⟨w.heap.size + 1, 0, none⟩) (World.block_lt_of_cell? _ _ cx)).trans cx
        refine wpAny_ready (rs := [0]) (by kernel_rfl) (by simp) (AllReady.cons rfl (fun K hK => ?_) AllReady.nil)
        go_simp
        refine hK _ _ ?_
        clear hK K
        have hown2 := HI.out.own.kept (show wr.grownBy w4 none from ⟨hb4.os, hb4.tape, hb4.output, hb4.size, fun k hk _ => hb4.block k hk⟩) (by simp)
        refine wpAny_ready (rs := [4]) (by kernel_rfl) (by simp) (AllReady.cons rfl (fun K hK => ?_) AllReady.nil)
        refine wp_mapUpdate rfl _ _ _ 129 rfl 9 130 lawS Tryz.underlying129 (unitElem (H := Unit)) w.heap.size k (DOf (E.take k)) rfl hown2 (by unfold maxLen; omega) _ _ _ rfl rfl hkey _ [] unitElem_mk ?_
        intro w5 hown5 hg5
        refine hK _ _ ?_
        clear hK K
        have HI5 : Hid (SInv w w2 w.heap.size E (k + 1) w5) := Lib.hid ⟨by rw [HT.out]; exact hown5, (HI.out.grown.trans (show wr.grownBy w4 (some w.heap.size) from ⟨hb4.os, hb4.tape, hb4.output, hb4.size, fun k hk _ => hb4.block k hk⟩)).trans hg5⟩
        clear hown5 hg5 hown2 hb4 HI HL c1 cx hkey HT
        refine wpAny_done (by kernel_rfl) ?_ _
        go_wp2_with fail
        go_roundw
        case rel => exact ⟨k + 1, by omega, by go_num, HI5⟩
        case measure => simp [intOf]; omega
    · have hall : E.take k = E := List.take_of_length_le (by omega)
      have cx := cell_kept HX2.out HI.out.grown HM.out
      have hown := HI.out.own
      rw [hall] at hown
      have hb := HB2.out.grown HI.out.grown HB2.out.size (fun j e => by cases e; exact Nat.le_refl _)
      have hbx := World.block_lt_of_cell? _ _ cx
      have HW := Lib.hid (pwithout_any 79 (w.heap.size + 1) (enters_of Tryz.func79 (by kernel_rfl) rfl) (fun f => one G f.1) _ G (by omega) wr (HF.out.below hb) (fun j hj W hW => by
        have h := pstrip1_any (ofL G[j].1) (ofL G[j].2) (by rw [ofL_size]; exact (HG.out j hj).1) (w.heap.size + 1) w.heap.size k (DOf E) W ((hW.cell (p := ⟨w.heap.size + 1, 0, none⟩) hbx).trans cx) (hown.kept (show wr.grownBy W none from ⟨hW.os, hW.tape, hW.output, hW.size, fun k hk _ => hW.block k hk⟩) (by simp))
        rw [toL_ofL, HO.out] at h
        exact h))
      have HB := Lib.hid hb
      clear hall cx hown hb hbx HI
      go_wp2_with fail
      refine HW.out.mono ?_
      rintro e w5 ⟨v5, rfl, hrow5, hb5⟩
      have HR : Hid (w5.ownsRow w.heap.size 36 2 v5 (strip G).length (encFs (strip G)) ∧ Below w.heap.size w w5) := Lib.hid ⟨row_mono hrow5 HB.out.size, below_chain HB.out hb5⟩
      clear hrow5 hb5 HW HB
      go_wp2_with fail
      go_ret
      exact ⟨_, rfl, HR.out⟩
end Go.Proofs.YtblpooddamkfdaaGreatDoor.PStrip

/- Layer 13 of the program: pass: what is told on. -/
namespace Go.Proofs.YtblpooddamkfdaaGreatDoor.PEmPass
open Go.ChangeShapes Go.WideShapes Go.ChangeAt Go.RowKit Bytes LexPure FieldsPure EmitPure Texts Flds Mem Step InEmb PEmTx PLib
set_option maxRecDepth 100000
set_option linter.unusedVariables false
set_option linter.unusedSimpArgs false
theorem row_at {w : World} {base : Nat} {v : Value} {G : List HField} (h : w.ownsRow base 36 2 v G.length (encFs G)) :
    ∃ p cap, v = .slice p G.length cap ∧ (0 < G.length → ∃ g, p = some ⟨g, 0, none⟩ ∧ base ≤ g ∧ g < w.heap.size ∧ ∀ j (hj : j < G.length), w.cell? ⟨g, j * 2, none⟩ = some (.string (ofL G[j].1)) ∧ w.cell? ⟨g, j * 2 + 1, none⟩ = some (.string (ofL G[j].2))) := by
  rcases h.2 with ⟨hv, hn⟩ | ⟨g, cap, cur, hv, hb, hg, hcap, rest⟩
  · exact ⟨none, 0, by rw [hv, hn], fun h0 => by omega⟩
  · refine ⟨_, cap, hv, fun _ => ⟨g, rfl, hb, (Array.getElem?_eq_some_iff.1 hg).1, fun j hj => ?_⟩⟩
    have hc := h.cells (g := g) (by rw [hv]; rfl)
    obtain ⟨h1, h2⟩ := encFs_at G j G[j] (List.getElem?_eq_getElem hj)
    have a1 := hc _ _ h1
    have a2 := hc _ _ h2
    have e : ∀ i : Nat, (⟨g, 0, none⟩ : Addr).add i = ⟨g, i, none⟩ := fun i => by unfold Addr.add; split <;> simp_all
    rw [e] at a1 a2
    exact ⟨a1, a2⟩
/-- is a field left out -/
def lft (L : List (List UInt8)) (f : HField) : Bool := L.any (fun n => alike f.1 n)
/-- the lines of what is told on -/
def told (L : List (List UInt8)) (S : List HField) : List UInt8 := (S.filter (fun f => !lft L f)).flatMap lineE
theorem told_snoc (L : List (List UInt8)) (S : List HField) (f : HField) : told L (S ++ [f]) = told L S ++ if lft L f then [] else lineE f := by
  unfold told
  rw [List.filter_append, List.flatMap_append]
  cases h : lft L f <;> simp [h]
theorem take_told {L : List (List UInt8)} {S : List HField} {k : Nat} (hk : k < S.length) : told L (S.take (k + 1)) = told L (S.take k) ++ if lft L S[k] then [] else lineE S[k] := by
  rw [List.take_add_one, List.getElem?_eq_getElem hk]
  exact told_snoc L _ _
theorem flat_sub {α : Type} (f : α → List UInt8) {a b : List α} (h : a.Sublist b) : (a.flatMap f).length ≤ (b.flatMap f).length := by
  induction h with
  | slnil => exact Nat.le_refl _
  | cons x _ ih => rw [List.flatMap_cons, List.length_append]; omega
  | cons_cons x _ ih => rw [List.flatMap_cons, List.flatMap_cons, List.length_append, List.length_append]; omega
theorem told_le (L : List (List UInt8)) (G : List HField) (k : Nat) : (told L ((strip G).take k)).length ≤ (G.flatMap lineE).length := by
  refine flat_sub lineE (((List.filter_sublist).trans (List.take_sublist _ _)).trans ?_)
  unfold strip
  exact List.filter_sublist
/-- in the loop over the fields -/
def PI (w : World) (b : Nat) (v : Value) (l : List UInt8) (L : List (List UInt8)) (S : List HField) (k : Nat) (wr : World) : Prop := ∃ v', Tx wr b v' (l ++ told L (S.take k)) ∧ Step w wr (own b v) (own b v')
theorem any_take {L : List (List UInt8)} {f : HField} {j : Nat} (hj : j < L.length) : lft (L.take (j + 1)) f = (lft (L.take j) f || alike f.1 L[j]) := by
  unfold lft
  rw [List.take_add_one, List.getElem?_eq_getElem hj, List.any_append]
  simp
theorem any_hit {L : List (List UInt8)} {f : HField} {j : Nat} (hj : j < L.length) (h : alike f.1 L[j] = true) : lft L f = true := List.any_eq_true.2 ⟨_, List.getElem_mem hj, h⟩
set_option maxHeartbeats 3200000 in
theorem pass_any {w : World} {b : Nat} {v : Value} {l : List UInt8} {vl : Value} {G : List HField} {B cap : Nat} {L : List (List UInt8)} (h : Tx w b v l) (hm : MaxInt w) (hG : Few G) (hle : G.length ≤ 1048576) (hF : FL w vl G)
    (hH : Has w B 9 (Texts.strs L).toArray) (hL : L.length ≤ 1000) (hs : l.length + (G.flatMap lineE).length ≤ 211106232532992) :
    Calls Tryz.prog 34 #[.pointer (some ⟨b, 0, none⟩), vl, .slice (some ⟨B, 0, none⟩) L.length cap] w fun e w' => e = .returned (.tuple #[]) ∧ ∃ v', Tx w' b v' (l ++ told L (strip G)) ∧ Step w w' (own b v) (own b v') := by
  have HP := Lib.hid (PStrip.pstrip_any vl G hG hle w hm hF)
  have HT := Lib.hid h
  have HH := Lib.hid hH
  have HS : Hid (∀ k, l.length + (told L ((strip G).take k)).length ≤ 211106232532992) := Lib.hid (fun k => by have := told_le L G k; omega)
  have HN : Hid (∀ k (hk : k < (strip G).length), (strip G)[k].1.length ≤ 1048576) := Lib.hid (fun k hk => by
    have hmem := (List.mem_filter.1 (show (strip G)[k] ∈ G.filter _ from List.getElem_mem hk)).1
    obtain ⟨j, hj, e⟩ := List.mem_iff_getElem.1 hmem
    rw [← e]
    exact (hG j hj).1)
  have HLS : Hid ((strip G).length ≤ 1048576) := Lib.hid (Nat.le_trans (List.length_filter_le _ _) hle)
  have hLi : (L.length : Int) ≤ 1000 := by omega
  clear h hH hs hm hG hle hF hL
  generalize strip G = S at *
  go_enter Tryz.func34, Tryz.ntmps34
  go_wp2_with fail
  go_step3
  go_wp2_with fail
  go_step3
  go_wp2_with fail
  refine HP.out.mono ?_
  rintro e w2 ⟨vS, rfl, hrow, hb2⟩
  clear HP
  obtain ⟨p, cS, rfl, hc⟩ := row_at hrow
  have HC := Lib.hid hc
  have HB := Lib.hid hb2
  have HT2 := Lib.hid (HT.out.below hb2)
  have HH2 := Lib.hid (HH.out.below hb2 HH.out.lt)
  have HI : Hid (PI w2 b v l L S 0 w2) := Lib.hid ⟨v, by simpa [told] using HT2.out, Step.refl w2 _⟩
  clear hrow hc hb2
  have hSi : (S.length : Int) ≤ 1048576 := by have := HLS.out; omega
  go_wp2_with fail
  go_loopw [13] (fun i wr => ∃ (k : Nat), k ≤ S.length ∧ i = .int .i64 k ∧ Hid (PI w2 b v l L S k wr)) (fun i _ => S.length - (intOf i).toNat)
  case atStart => exact ⟨0, Nat.zero_le _, rfl, HI⟩
  case round =>
    obtain ⟨k, hk, rfl, HJ⟩ := hrel
    clear HI
    by_cases hlt : k < S.length
    · obtain ⟨g, rfl, hbg, hgl, hcell⟩ := HC.out (by omega)
      obtain ⟨c1, c2⟩ := hcell k hlt
      obtain ⟨v1, hT1, hS1⟩ := HJ.out
      have hng : ¬ own b v g := fun hk => by have := HT.out.lt hk; omega
      replace c1 := (hS1.cell (i := k * 2) hgl hng).trans c1
      replace c2 := (hS1.cell (i := k * 2 + 1) hgl hng).trans c2
      have hki : (k : Int) < (S.length : Int) := by omega
      have hn1 := HN.out k hlt
      have HX : Hid (PI w2 b v l L S k (wr.alloc (.cells #[.string (ofL S[k].1), .string (ofL S[k].2)] 36))) := Lib.hid ⟨v1, hT1.below ((Below.refl _ wr).alloc (Nat.le_refl _) _), hS1.trans (Step.alloc wr _ _)⟩
      have d := (Has.new wr 36 #[.string (ofL S[k].1), .string (ofL S[k].2)]).cell
      have d0 := d 0
      have d1 := d 1
      have hsz : wr.heap.size < (wr.alloc (.cells #[.string (ofL S[k].1), .string (ofL S[k].2)] 36)).heap.size := by simp
      clear hcell d hT1 hS1 hng hgl hbg HJ
      obtain ⟨f, hf⟩ : ∃ f, f = S[k] := ⟨_, rfl⟩
      have HF := Lib.hid hf
      rw [← hf] at c1 c2 hn1 HX d0 d1 hsz
      clear hf
      go_wp2_with fail
      generalize wr.alloc (.cells #[.string (ofL f.1), .string (ofL f.2)] 36) = W1 at HX d0 d1 hsz ⊢
      generalize wr.heap.size = fb at d0 d1 hsz ⊢
      have HD : Hid (W1.cell? ⟨fb, 0, none⟩ = some (.string (ofL f.1)) ∧ W1.cell? ⟨fb, 1, none⟩ = some (.string (ofL f.2)) ∧ fb < W1.heap.size) := Lib.hid ⟨d0, d1, hsz⟩
      have HL0 : Hid (lft (L.take 0) f = false ∧ Below W1.heap.size W1 W1) := Lib.hid ⟨rfl, Below.refl _ _⟩
      clear c1 c2 d0 d1 hsz
      go_loopw [19] (fun i wx => ∃ (j : Nat), j ≤ L.length ∧ i = .int .i64 j ∧ Hid (lft (L.take j) f = false ∧ Below W1.heap.size W1 wx)) (fun i _ => L.length - (intOf i).toNat)
      case atStart => exact ⟨0, Nat.zero_le _, rfl, HL0⟩
      case round =>
        obtain ⟨j, hj, rfl, HM⟩ := hrel
        clear HL0
        obtain ⟨hm1, hm2⟩ := HM.out
        obtain ⟨x0, x1, x2⟩ := HD.out
        have y0 := (hm2.cell (p := ⟨fb, 0, none⟩) x2).trans x0
        have y1 := (hm2.cell (p := ⟨fb, 1, none⟩) x2).trans x1
        obtain ⟨v1, hT1, hS1⟩ := HX.out
        have hT2 := hT1.below hm2
        by_cases hjl : j < L.length
        · have hB := (hS1.has HH2.out (HT2.out.apart HH2.out (by decide) (by decide))).below hm2 (Has.lt (hS1.has HH2.out (HT2.out.apart HH2.out (by decide) (by decide))))
          have c1 : wr.cell? ⟨B, j, none⟩ = some (.string (ofL L[j])) := by
            rw [hB.cell j]
            simp [Texts.strs, List.getElem?_eq_getElem hjl]
          have hji : (j : Int) < (L.length : Int) := by omega
          have hA := PAlike.palike_any (ofL f.1) (ofL L[j]) (by rw [ofL_size]; unfold maxLen; omega) wr
          rw [toL_ofL, toL_ofL] at hA
          have HTk := Lib.hid (any_take (f := f) hjl)
          have HHit := Lib.hid (any_hit (f := f) hjl)
          clear hB x0 x1 x2 hT1 hS1 hT2
          cases hh : alike f.1 L[j]
          · rw [hh] at hA
            have HA := Lib.hid hA
            have HM2 : Hid (∀ wy, Below wr.heap.size wr wy → lft (L.take (j + 1)) f = false ∧ Below W1.heap.size W1 wy) := Lib.hid (fun wy hb => ⟨by rw [HTk.out, hm1, hh]; rfl, below_chain hm2 hb⟩)
            clear hA hh HTk HHit hm1 hm2 HM
            go_wp2_with fail
            refine HA.out.mono ?_
            rintro e w5 ⟨rfl, hb5⟩
            have HM3 := Lib.hid (HM2.out w5 hb5)
            clear HM2 HA hb5 y0 y1 c1
            go_wp2_with fail
            exact ⟨⟨j + 1, by omega, by simp, HM3⟩, by simp [intOf]; omega⟩
          · rw [hh] at hA
            have HA := Lib.hid hA
            have HM2 : Hid (∀ wy, Below wr.heap.size wr wy → PI w2 b v l L S (k + 1) wy) := Lib.hid (fun wy hb => by
              obtain ⟨v1, hT1, hS1⟩ := HX.out
              refine ⟨v1, ?_, hS1.trans (Step.of_below (below_chain hm2 hb) _)⟩
              rw [take_told hlt, if_pos (by rw [← HF.out]; exact HHit.out hh), List.append_nil]
              exact hT1.below (below_chain hm2 hb))
            clear hA hh HTk HHit hm1 hm2 HM
            go_wp2_with fail
            refine HA.out.mono ?_
            rintro e w5 ⟨rfl, hb5⟩
            have HM3 := Lib.hid (HM2.out w5 hb5)
            clear HM2 HA hb5 y0 y1 c1
            go_wp2_with fail
            exact ⟨⟨k + 1, by omega, by simp, HM3⟩, by simp [intOf]; omega⟩
        · have hall : L.take j = L := List.take_of_length_le (by omega)
          rw [hall] at hm1
          have hji : ¬ (j : Int) < (L.length : Int) := by omega
          have HA : Hid (Calls Tryz.prog 32 #[.pointer (some ⟨b, 0, none⟩), .string (ofL f.1), .string (ofL f.2)] wr fun e w' => e = Ending.returned (.tuple #[]) ∧ Hid (PI w2 b v l L S (k + 1) w')) := Lib.hid ((field_any hT2 f.1 f.2 (by
            have h1 := HS.out (k + 1)
            rw [take_told hlt, if_neg (by rw [← HF.out, hm1]; decide), ← HF.out] at h1
            simp [lineE] at h1 ⊢
            omega)).mono (fun e w' ⟨x1, v', x2, x3⟩ => ⟨x1, Lib.hid ⟨v', by
              rw [take_told hlt, if_neg (by rw [← HF.out, hm1]; decide), ← HF.out, ← List.append_assoc]
              exact x2, (hS1.trans (Step.of_below hm2 _)).trans x3⟩⟩))
          clear hm1 hm2 HM x0 x1 x2 hT1 hS1 hT2
          go_wp2_with fail
          refine HA.out.mono ?_
          rintro e w5 ⟨rfl, HM3⟩
          clear HA y0 y1
          go_wp2_with fail
          exact ⟨⟨k + 1, by omega, by simp, HM3⟩, by simp [intOf]; omega⟩
    · have hall : S.take k = S := List.take_of_length_le (by omega)
      have hE := HJ.out
      unfold PI at hE
      rw [hall] at hE
      have HE : Hid (∃ v', Tx wr b v' (l ++ told L S) ∧ Step w wr (own b v) (own b v')) := Lib.hid (by
        obtain ⟨v', h1, h2⟩ := hE
        exact ⟨v', h1, (Step.of_below HB.out _).trans h2⟩)
      have hki : ¬ (k : Int) < (S.length : Int) := by omega
      clear hE HJ hall
      go_wp2_with fail
      go_end0
      exact ⟨rfl, HE.out⟩
end Go.Proofs.YtblpooddamkfdaaGreatDoor.PEmPass

/-
  DERIVED: THE SHELF's CONTRACTS AT THIS DUMP, IN PLAIN WORDS (tools/lay-plain.mjs out of 'YtblpooddamkfdaaGreatDoorJoinLaysT.lean', which tools/lay-shelf.mjs wrote): THE SAME DECLARATIONS UNDER THE SAME NAMES: 'import', 'namespace', 'open', 'def', 'theorem' AND NOTHING ELSE: no command of the shelf's: FOR A HAND-IN. Each laying: the table of numbers ('.._ren') and one theorem, a field a fact of the dump's own or the kernel's comparison; each contract: ONE APPLICATION.
-/
namespace Go.Proofs
open Go.Shelf
def Tryz.lays156_ren : Go.Shelf.Ren := ⟨fun | 156 => 62 | 165 => 82 | 166 => 38 | 169 => 39 | 240 => 64 | 241 => 90 | 276 => 84 | 277 => 101 | n => n, fun | 31 => 109 | 9 => 9 | 3 => 3 | 4 => 4 | 0 => 0 | 20 => 20 | 72 => 78 | 76 => 90 | 70 => 75 | 37 => 76 | 75 => 89 | 127 => 116 | 164 => 137 | 5 => 5 | 80 => 53 | n => n, fun | n => n⟩
theorem Tryz.lays156 : Go.Proofs.Lays.n156 Tryz.prog Tryz.lays156_ren := {
  mixed := by kernel_rfl
  f156 := Tryz.func62.trans (congrArg some (by kernel_rfl))
  f165 := Tryz.func82.trans (congrArg some (by kernel_rfl))
  f166 := Tryz.func38.trans (congrArg some (by kernel_rfl))
  f169 := Tryz.func39.trans (congrArg some (by kernel_rfl))
  f240 := Tryz.func64.trans (congrArg some (by kernel_rfl))
  f241 := Tryz.func90.trans (congrArg some (by kernel_rfl))
  f276 := Tryz.func84.trans (congrArg some (by kernel_rfl))
  f277 := Tryz.func101.trans (congrArg some (by kernel_rfl))
  t0 := Tryz.underlying0
  a0 := Tryz.isAgg0
  z0 := Tryz.sizeOf0
  v0 := Tryz.zeroValue0
  t3 := Tryz.underlying3
  a3 := Tryz.isAgg3
  z3 := Tryz.sizeOf3
  v3 := Tryz.zeroValue3
  t4 := Tryz.underlying4
  a4 := Tryz.isAgg4
  z4 := Tryz.sizeOf4
  v4 := Tryz.zeroValue4
  t9 := Tryz.underlying9
  a9 := Tryz.isAgg9
  z9 := Tryz.sizeOf9
  v9 := Tryz.zeroValue9
  t20 := Tryz.underlying20
  a20 := Tryz.isAgg20
  z20 := Tryz.sizeOf20
  v20 := Tryz.zeroValue20
  t31 := Tryz.underlying109
  a31 := Tryz.isAgg109
  z31 := Tryz.sizeOf109
  v31 := Tryz.zeroValue109
  t37 := Tryz.underlying76
  a37 := Tryz.isAgg76
  z37 := Tryz.sizeOf76
  v37 := Tryz.zeroValue76
  t70 := Tryz.underlying75
  a70 := Tryz.isAgg75
  z70 := Tryz.sizeOf75
  v70 := Tryz.zeroValue75
  t72 := Tryz.underlying78
  a72 := Tryz.isAgg78
  z72 := Tryz.sizeOf78
  v72 := Tryz.zeroValue78
  t75 := Tryz.underlying89
  a75 := Tryz.isAgg89
  z75 := Tryz.sizeOf89
  v75 := Tryz.zeroValue89
  t76 := Tryz.underlying90
  a76 := Tryz.isAgg90
  z76 := Tryz.sizeOf90
  v76 := Tryz.zeroValue90
  t127 := Tryz.underlying116
  a127 := Tryz.isAgg116
  z127 := Tryz.sizeOf116
  v127 := Tryz.zeroValue116
  t164 := Tryz.underlying137
  a164 := Tryz.isAgg137
  z164 := Tryz.sizeOf137
  v164 := Tryz.zeroValue137 }
end Go.Proofs

/-
  DERIVED: THE SHELF's CONTRACTS AT THIS DUMP, IN PLAIN WORDS (tools/lay-plain.mjs out of 'YtblpooddamkfdaaGreatDoorItoaLaysT.lean', which tools/lay-shelf.mjs wrote): THE SAME DECLARATIONS UNDER THE SAME NAMES: 'import', 'namespace', 'open', 'def', 'theorem' AND NOTHING ELSE: no command of the shelf's: FOR A HAND-IN. Each laying: the table of numbers ('.._ren') and one theorem, a field a fact of the dump's own or the kernel's comparison; each contract: ONE APPLICATION.
-/
namespace Go.Proofs
open Go.Shelf
def Tryz.lays171_ren : Go.Shelf.Ren := ⟨fun | 171 => 36 | 243 => 63 | 246 => 83 | 283 => 91 | 284 => 92 | 285 => 93 | 286 => 94 | 129 => 103 | 317 => 102 | 318 => 104 | 319 => 105 | 320 => 106 | 337 => 109 | 338 => 110 | n => n, fun | 3 => 3 | 9 => 9 | 2 => 2 | 4 => 4 | 171 => 145 | 0 => 0 | 53 => 146 | 37 => 76 | 5 => 5 | 173 => 149 | 212 => 155 | 51 => 156 | 20 => 20 | 213 => 157 | 46 => 159 | 232 => 173 | 233 => 174 | n => n, fun | 17 => 0 | 18 => 2 | 19 => 3 | n => n⟩
theorem Tryz.lays171 : Go.Proofs.LaysM.n171 Tryz.prog Tryz.lays171_ren := {
  mixed := by kernel_rfl
  f129 := Tryz.func103.trans (congrArg some (by kernel_rfl))
  f171 := Tryz.func36.trans (congrArg some (by kernel_rfl))
  f243 := Tryz.func63.trans (congrArg some (by kernel_rfl))
  f246 := Tryz.func83.trans (congrArg some (by kernel_rfl))
  f283 := Tryz.func91.trans (congrArg some (by kernel_rfl))
  f284 := Tryz.func92.trans (congrArg some (by kernel_rfl))
  f285 := Tryz.func93.trans (congrArg some (by kernel_rfl))
  f286 := Tryz.func94.trans (congrArg some (by kernel_rfl))
  f317 := Tryz.func102.trans (congrArg some (by kernel_rfl))
  f318 := Tryz.func104.trans (congrArg some (by kernel_rfl))
  f319 := Tryz.func105.trans (congrArg some (by kernel_rfl))
  f320 := Tryz.func106.trans (congrArg some (by kernel_rfl))
  f337 := Tryz.func109.trans (congrArg some (by kernel_rfl))
  f338 := Tryz.func110.trans (congrArg some (by kernel_rfl))
  t0 := Tryz.underlying0
  a0 := Tryz.isAgg0
  z0 := Tryz.sizeOf0
  v0 := Tryz.zeroValue0
  t2 := Tryz.underlying2
  a2 := Tryz.isAgg2
  z2 := Tryz.sizeOf2
  v2 := Tryz.zeroValue2
  t3 := Tryz.underlying3
  a3 := Tryz.isAgg3
  z3 := Tryz.sizeOf3
  v3 := Tryz.zeroValue3
  t4 := Tryz.underlying4
  a4 := Tryz.isAgg4
  z4 := Tryz.sizeOf4
  v4 := Tryz.zeroValue4
  t5 := Tryz.underlying5
  a5 := Tryz.isAgg5
  z5 := Tryz.sizeOf5
  v5 := Tryz.zeroValue5
  t9 := Tryz.underlying9
  a9 := Tryz.isAgg9
  z9 := Tryz.sizeOf9
  v9 := Tryz.zeroValue9
  t20 := Tryz.underlying20
  a20 := Tryz.isAgg20
  z20 := Tryz.sizeOf20
  v20 := Tryz.zeroValue20
  t37 := Tryz.underlying76
  a37 := Tryz.isAgg76
  z37 := Tryz.sizeOf76
  v37 := Tryz.zeroValue76
  t46 := Tryz.underlying159
  a46 := Tryz.isAgg159
  z46 := Tryz.sizeOf159
  v46 := Tryz.zeroValue159
  t51 := Tryz.underlying156
  a51 := Tryz.isAgg156
  z51 := Tryz.sizeOf156
  v51 := Tryz.zeroValue156
  t53 := Tryz.underlying146
  a53 := Tryz.isAgg146
  z53 := Tryz.sizeOf146
  v53 := Tryz.zeroValue146
  t171 := Tryz.underlying145
  a171 := Tryz.isAgg145
  z171 := Tryz.sizeOf145
  v171 := Tryz.zeroValue145
  t173 := Tryz.underlying149
  a173 := Tryz.isAgg149
  z173 := Tryz.sizeOf149
  v173 := Tryz.zeroValue149
  t212 := Tryz.underlying155
  a212 := Tryz.isAgg155
  z212 := Tryz.sizeOf155
  v212 := Tryz.zeroValue155
  t213 := Tryz.underlying157
  a213 := Tryz.isAgg157
  z213 := Tryz.sizeOf157
  t232 := Tryz.underlying173
  a232 := Tryz.isAgg173
  z232 := Tryz.sizeOf173
  v232 := Tryz.zeroValue173
  t233 := Tryz.underlying174
  a233 := Tryz.isAgg174
  z233 := Tryz.sizeOf174
  v233 := Tryz.zeroValue174
  g17 := by kernel_rfl
  g18 := by kernel_rfl
  g19 := by kernel_rfl
  i0 := by kernel_rfl
  i2 := by kernel_rfl
  i3 := by kernel_rfl
  i4 := by kernel_rfl
  i5 := by kernel_rfl
  i9 := by kernel_rfl
  i20 := by kernel_rfl
  i37 := by kernel_rfl
  i46 := by kernel_rfl
  i51 := by kernel_rfl
  i53 := by kernel_rfl
  i171 := by kernel_rfl
  i173 := by kernel_rfl
  i212 := by kernel_rfl
  i232 := by kernel_rfl
  i233 := by kernel_rfl
  m17 := by kernel_rfl
  m18 := by kernel_rfl
  m19 := by kernel_rfl }
end Go.Proofs

/- Layer 13 of the program: joined, authority, digits. -/
namespace Go.Proofs.YtblpooddamkfdaaGreatDoor.PEmJoin
open Go.ChangeShapes Go.WideShapes Go.ChangeAt Go.RowKit Bytes LexPure FieldsPure EmitPure DecN Texts Flds Mem Rows1 Ret
set_option maxRecDepth 100000
set_option linter.unusedVariables false
set_option linter.unusedSimpArgs false
/-! ### digits -/
/-- what strconv's table says -/
def Pow (w : World) : Prop := Lib.TabIs Tryz.prog w "internal/strconv.uint64pow10" .u64 Lib.pow10Tab
theorem Pow.below {w w' : World} (h : Pow w) (hb : Below w.heap.size w w') : Pow w' :=
  Go.Joins.tab_stays (g := 0) (by kernel_rfl) h hb (Nat.le_refl _)
theorem dec_say (n : Nat) : Lib.decDigits n = decN n := by
  induction n using Nat.strongRecOn with
  | ind n ih =>
    by_cases h : n < 10
    · rw [decN_small h, Lib.decDigits, dif_pos h]
      rfl
    · rw [decN_more h, Lib.decDigits, dif_neg h, ih (n / 10) (by omega)]
      rfl
theorem itoa_say (n : Int) : Lib.itoa n = decZ n := by
  unfold Lib.itoa decZ
  rw [dec_say, dec_say]
  split
  · rfl
  · rw [show n.toNat = n.natAbs by omega]
theorem decZ_len {n : Int} (h0 : -9223372036854775808 ≤ n) (h1 : n ≤ 9223372036854775807) : (decZ n).length ≤ 20 := by
  have h := decN_len 18 n.natAbs (by omega)
  unfold decZ
  split
  · rw [List.length_cons]; omega
  · omega
theorem pitoa (n : Int) (h0 : -9223372036854775808 ≤ n) (h1 : n ≤ 9223372036854775807) (w : World) (hp : Pow w) :
    Calls Tryz.prog 36 #[.int .i64 n] w fun e w' => e = .returned (.string (ofL (decZ n))) ∧ Below w.heap.size w w' := by
  refine (Any.strconv_Itoa Tryz.lays171 n h0 h1 w hp).mono ?_
  rintro e w' ⟨rfl, k, os, rfl⟩
  rw [itoa_say]
  exact ⟨rfl, rfl, rfl, rfl, by simp [Sort.grow], fun i hi => by simp [Sort.grow, Array.getElem?_append_left, hi]⟩
theorem authority_any (h : List UInt8) (hs : h.length ≤ 1048576) (p : Int) (h0 : -9223372036854775808 ≤ p) (h1 : p ≤ 9223372036854775807) (w : World) (hp : Pow w) :
    Calls Tryz.prog 33 #[.string (ofL h), .int .i64 p] w fun e w' => e = .returned (.string (ofL (h ++ (if 0 < p then 58 :: decZ p else [])))) ∧ Below w.heap.size w w' := by
  have HI := Lib.hid (pitoa p h0 h1 w hp)
  have e1 : (ofL h).size + 1 ≤ 9223372036854775807 := by rw [ofL_size]; omega
  have e2 : (ofL h).size + 1 + (ofL (decZ p)).size ≤ 9223372036854775807 := by
    have := decZ_len h0 h1
    rw [ofL_size, ofL_size]; omega
  have e3 : (ofL h ++ ⟨#[58]⟩ ++ ofL (decZ p)) = ofL (h ++ 58 :: decZ p) := by
    rw [show (⟨#[58]⟩ : ByteArray) = ofL [58] from rfl, PEmTx.str_app, PEmTx.str_app]
    simp
  by_cases hpos : 0 < p
  · rw [if_pos hpos, ← e3]
    clear e3 hs
    generalize ofL h = H at *
    generalize ofL (decZ p) = D at *
    go_enter Tryz.func33, Tryz.ntmps33
    go_wp2_with fail
    refine HI.out.mono ?_
    rintro e w1 ⟨rfl, hb⟩
    clear HI
    go_wp2_with fail
    go_ret
    exact ⟨rfl, hb⟩
  · rw [if_neg hpos, List.append_nil]
    clear e3 hs HI e1 e2
    go_enter Tryz.func33, Tryz.ntmps33
    go_wp2_with fail
    go_ret
    exact ⟨rfl, Below.refl _ _⟩
/-! ### joined -/
theorem extra156 : Builder.Extra Tryz.prog Tryz.lays156_ren := {
  sizeBuilder := by kernel_rfl
  liesBuilder := by kernel_rfl
  t5 := Tryz.underlying5
  a5 := Tryz.isAgg5
  z5 := Tryz.sizeOf5
  v5 := Tryz.zeroValue5
  infoByte := by kernel_rfl
  cellsByte := by kernel_rfl
  sizeByte := by kernel_rfl
  neB5 := by decide }
theorem joinTail_say (r : List (List UInt8)) (s : List UInt8) : Lib.joinTail [44, 32] (r ++ [s]) = [44, 32] ++ Lib.join (r ++ [s]) [44, 32] := by
  cases r with
  | nil => simp [Lib.joinTail, Lib.join_cons]
  | cons x r => simp [Lib.joinTail, Lib.join_cons]
theorem join_all (G : List (List UInt8)) (s : List UInt8) : Lib.join (G ++ [s]) [44, 32] = G.flatMap (fun x => x ++ [44, 32]) ++ s := by
  induction G with
  | nil => simp [Lib.join_cons, Lib.joinTail]
  | cons x G ih =>
    rw [List.cons_append, Lib.join_cons, joinTail_say, ih]
    simp
theorem map_ofL (G : List (List UInt8)) : (G.map ofL).map (·.data.toList) = G := by
  rw [List.map_map]
  conv => rhs; rw [← List.map_id G]
  exact List.map_congr_left (fun x _ => toL_ofL x)
theorem lib_join2 {w : World} {base : Nat} {v : Value} {G : List (List UInt8)} (h : w.ownsRow base 9 1 v G.length (Texts.strs G)) (hG : G ≠ []) (hl : (Lib.join G [44, 32]).length ≤ 140737488355328) (hn : G.length ≤ 140737488355328) :
    Calls Tryz.prog 62 #[v, .string ⟨#[44, 32]⟩] w fun e w' => e = .returned (.string (ofL (Lib.join G [44, 32]))) ∧ Below w.heap.size w w' := by
  obtain ⟨p, cap, hv, hcap, hc⟩ := row_cells h
  subst hv
  have h0 : 0 < G.length := List.length_pos_iff.2 hG
  obtain ⟨g, rfl, _, hg, _, hcell⟩ := hc h0
  have H := Any.strings_Join Tryz.lays156 extra156 g 0 cap (G.map ofL) ⟨#[44, 32]⟩ w (fun j x hx => by
    rw [List.getElem?_map] at hx
    cases hj : G[j]? with
    | none => rw [hj] at hx; cases hx
    | some y =>
      rw [hj] at hx
      have hx' : ofL y = x := by simpa using hx
      have hlt : j < G.length := (List.getElem?_eq_some_iff.1 hj).1
      rw [Nat.zero_add, hcell j hlt]
      simp [Texts.strs, hj, hx']) hg (by rw [List.length_map]; exact hn) (by rw [List.length_map]; exact hcap) (by
    rw [map_ofL, show (⟨#[44, 32]⟩ : ByteArray).data.toList = [44, 32] from rfl]; exact hl)
  rw [map_ofL, show (⟨#[44, 32]⟩ : ByteArray).data.toList = [44, 32] from rfl, List.length_map] at H
  exact H
/-- the values of a name -/
def vals (G : List HField) (n : List UInt8) : List (List UInt8) := (G.filter (hit n)).map (·.2)
theorem vals_snoc (G : List HField) (n : List UInt8) (f : HField) : vals (G ++ [f]) n = if alike f.1 n then vals G n ++ [f.2] else vals G n := by
  unfold vals
  rw [List.filter_append, List.map_append]
  by_cases h : alike f.1 n = true
  · rw [if_pos h]; simp [hit, h]
  · rw [if_neg h]; simp [hit, h]
theorem take_vals {G : List HField} {n : List UInt8} {k : Nat} (hk : k < G.length) : vals (G.take (k + 1)) n = if alike G[k].1 n then vals (G.take k) n ++ [G[k].2] else vals (G.take k) n := by
  rw [List.take_add_one, List.getElem?_eq_getElem hk]
  exact vals_snoc _ _ _
theorem vals_join (G : List HField) (n s : List UInt8) : Lib.join (vals G n ++ [s]) [44, 32] = joinV G n s := by
  rw [join_all]
  unfold vals joinV
  rw [List.flatMap_map]
theorem flat_len {α : Type} (f : α → List UInt8) (m : Nat) : ∀ l : List α, (∀ x ∈ l, (f x).length ≤ m) → (l.flatMap f).length ≤ l.length * m
  | [], _ => by simp
  | x :: l, h => by
    have h1 := h x List.mem_cons_self
    have h2 := flat_len f m l (fun y hy => h y (List.mem_cons_of_mem _ hy))
    rw [List.flatMap_cons, List.length_append, List.length_cons, Nat.add_mul]
    omega
theorem few_mem {G : List HField} (hG : Few G) {f : HField} (hf : f ∈ G) : f.1.length ≤ 1048576 ∧ f.2.length ≤ 1048576 := by
  obtain ⟨j, hj, e⟩ := List.mem_iff_getElem.1 hf
  rw [← e]
  exact hG j hj
theorem joinV_len {G : List HField} (hG : Few G) (hle : G.length ≤ 1048576) (n s : List UInt8) : (joinV G n s).length ≤ 1099513724928 + s.length := by
  unfold joinV
  have h1 := flat_len (fun f : HField => f.2 ++ [44, 32]) 1048578 (G.filter (hit n)) (fun f hf => by
    have := (few_mem hG (List.mem_filter.1 hf).1).2
    rw [List.length_append]
    show _ + 2 ≤ _
    omega)
  have h2 := List.length_filter_le (hit n) G
  have h3 := Nat.mul_le_mul_right 1048578 (Nat.le_trans h2 hle)
  rw [List.length_append]
  omega
/-- ahead of a round -/
structure JI (w : World) (G : List HField) (n : List UInt8) (k : Nat) (v : Value) (wr : World) : Prop where
  row : wr.ownsRow w.heap.size 9 1 v (vals (G.take k) n).length (Texts.strs (vals (G.take k) n))
  below : Below w.heap.size w wr
set_option maxHeartbeats 3200000 in
theorem joined_any {w : World} {vl : Value} {G : List HField} (hG : Few G) (hle : G.length ≤ 1048576) (hF : FL w vl G) (n s : List UInt8) (hs : s.length ≤ 1048576) :
    Calls Tryz.prog 35 #[vl, .string (ofL n), .string (ofL s)] w fun e w' => e = .returned (.string (ofL (joinV G n s))) ∧ Below w.heap.size w w' := by
  obtain ⟨i0, hi, hz0, hz1, hz2⟩ := info_parts infoS
  have hgi : (G.length : Int) ≤ 1048576 := by omega
  obtain ⟨p, cap, rfl, _, hc⟩ := hF
  have HC := Lib.hid hc
  have HG := Lib.hid hG
  have HJ : Hid (JI w G n 0 (.slice none 0 0) w) := Lib.hid ⟨World.ownsRow_nil _ _ _ _, Below.refl _ _⟩
  have HV := Lib.hid (vals_join G n s)
  have HLn := Lib.hid (joinV_len hG hle n s)
  have hle2 := Lib.hid hle
  have hs2 := Lib.hid hs
  clear hc hG hle hs
  generalize joinV G n s = RES at *
  go_enter Tryz.func35, Tryz.ntmps35
  go_wp2_with fail
  go_loopw [7, 12] (fun x i wr => ∃ (k : Nat), k ≤ G.length ∧ i = .int .i64 k ∧ Hid (JI w G n k x wr)) (fun _ i _ => G.length - (intOf i).toNat)
  case atStart => exact ⟨0, Nat.zero_le _, rfl, HJ⟩
  case round =>
    obtain ⟨k, hk, rfl, HI⟩ := hrel
    clear HJ
    obtain ⟨hrow, hbw⟩ := HI.out
    obtain ⟨pv, cv, rfl, _⟩ := row_form hrow
    have hvl : (vals (G.take k) n).length ≤ 1048576 := by
      have h1 := List.length_filter_le (hit n) (G.take k)
      have h2 := List.length_take_le k G
      have h3 := hle2.out
      unfold vals
      rw [List.length_map]
      omega
    by_cases hlt : k < G.length
    · obtain ⟨g, o, rfl, hgl, hcell⟩ := HC.out (by omega)
      obtain ⟨c1, c2⟩ := hcell k hlt
      replace c1 := (hbw.cell (p := ⟨g, o + k * 2, none⟩) hgl).trans c1
      replace c2 := (hbw.cell (p := ⟨g, o + k * 2 + 1, none⟩) hgl).trans c2
      have hki : (k : Int) < (G.length : Int) := by omega
      have hf1 := (HG.out k hlt).1
      have hTk := take_vals (n := n) hlt
      obtain ⟨f, hf⟩ : ∃ f, f = G[k] := ⟨_, rfl⟩
      rw [← hf] at c1 c2 hf1 hTk
      have d := (Has.new wr 36 #[.string (ofL f.1), .string (ofL f.2)]).cell
      have d0 := d 0
      have d1 := d 1
      have hsz : wr.heap.size < (wr.alloc (.cells #[.string (ofL f.1), .string (ofL f.2)] 36)).heap.size := by simp
      have hba := (Below.refl wr.heap.size wr).alloc (Nat.le_refl _) (.cells #[.string (ofL f.1), .string (ofL f.2)] 36)
      have hA := PAlike.palike_any (ofL f.1) (ofL n) (by rw [ofL_size]; unfold maxLen; omega) (wr.alloc (.cells #[.string (ofL f.1), .string (ofL f.2)] 36))
      rw [toL_ofL, toL_ofL] at hA
      have HR := Lib.hid hrow
      have HW := Lib.hid hbw
      have HA := Lib.hid hA
      have HBA := Lib.hid hba
      clear hcell d hrow hbw hA hba hf HI
      cases hh : alike f.1 n
      · rw [hh] at HA hTk
        have HT : Hid (vals (G.take (k + 1)) n = vals (G.take k) n) := Lib.hid (by rw [hTk]; rfl)
        clear hh hTk
        go_wp2_with fail
        refine HA.out.mono ?_
        rintro e w2 ⟨rfl, hb2⟩
        have HJ2 : Hid (JI w G n (k + 1) (.slice pv (vals (G.take k) n).length cv) w2) := Lib.hid (by
          have hb3 := below_chain HBA.out hb2
          refine ⟨?_, below_chain HW.out hb3⟩
          rw [HT.out]
          exact KeptRow.row_below HR.out hb3)
        clear hb2 HA d0 d1 hsz c1 c2 HBA HR HT
        go_wp2_with fail
        exact ⟨⟨k + 1, by omega, by simp, HJ2⟩, by simp [intOf]; omega⟩
      · rw [hh] at HA hTk
        have HT : Hid (vals (G.take (k + 1)) n = vals (G.take k) n ++ [f.2]) := Lib.hid (by rw [hTk]; rfl)
        clear hh hTk
        go_wp2_with fail
        refine HA.out.mono ?_
        rintro e w2 ⟨rfl, hb2⟩
        have e0 := (hb2.cell (p := ⟨wr.heap.size, 0, none⟩) hsz).trans d0
        have e1 := (hb2.cell (p := ⟨wr.heap.size, 1, none⟩) hsz).trans d1
        have HB3 := Lib.hid (below_chain HBA.out hb2)
        have hrow2 := (KeptRow.row_below HR.out HB3.out)
        have hrow3 := KeptRow.row_below hrow2 ((Below.refl _ w2).alloc (Nat.le_refl _) (.cells #[.string (ofL f.2)] 9))
        have hN : ∀ (j : Nat) (u : Value), [Value.string (ofL f.2)][j]? = some u → (w2.alloc (.cells #[.string (ofL f.2)] 9)).cell? ((⟨w2.heap.size, 0, none⟩ : Addr).add j) = some u :=
          World.news_of_block (heap_alloc_new w2 (.cells #[.string (ofL f.2)] 9))
        have hsz2 : w.heap.size ≤ (w2.alloc (.cells #[.string (ofL f.2)] 9)).heap.size := by
          have h1 := (below_chain HW.out HB3.out).size
          simp
          omega
        have HN := Lib.hid hN
        clear hb2 HA d0 d1 hsz c1 c2 HBA hrow2 hN
        go_wp2_with (at_builtin; refine wpList_append_own_at _ rfl (.tmp 20) (.tmp 23) 109 rfl w.heap.size 9 i0 (.string ByteArray.empty) 1 16 Tryz.underlying109 hi hz0 hz1 hz2 rfl (by decide) _ _ _ rfl hrow3 ⟨w2.heap.size, 0, none⟩ 1 1 [.string (ofL f.2)] rfl rfl HN.out (fun x hx => by simp at hx; subst hx; rfl) (by unfold maxLen; omega) (by omega) hsz2 ?_; intro v4 w4 hown4 hg4 _ hat4)
        have HJ2 : Hid (JI w G n (k + 1) v4 w4) := Lib.hid (by
          refine ⟨?_, ?_⟩
          · rw [HT.out, List.length_append, show Texts.strs (vals (G.take k) n ++ [f.2]) = Texts.strs (vals (G.take k) n) ++ [.string (ofL f.2)] from by simp [Texts.strs]]
            exact hown4
          · exact Below.grown ((below_chain HW.out HB3.out).alloc (below_chain HW.out HB3.out).size _) hg4 hsz2 (fun j hj => (hrow3.lt j hj).1))
        clear hown4 hg4 hat4 hrow3 HN e0 e1 HR HT
        go_wp2_with fail
        exact ⟨⟨k + 1, by omega, by simp, HJ2⟩, by simp [intOf]; omega⟩
    · have hall : G.take k = G := List.take_of_length_le (by omega)
      rw [hall] at hrow hvl
      have hki : ¬ (k : Int) < (G.length : Int) := by omega
      have hrow3 := KeptRow.row_below hrow ((Below.refl _ wr).alloc (Nat.le_refl _) (.cells #[.string (ofL s)] 9))
      have HN : Hid (∀ (j : Nat) (u : Value), [Value.string (ofL s)][j]? = some u → (wr.alloc (.cells #[.string (ofL s)] 9)).cell? ((⟨wr.heap.size, 0, none⟩ : Addr).add j) = some u) :=
        Lib.hid (World.news_of_block (heap_alloc_new wr (.cells #[.string (ofL s)] 9)))
      have hsz2 : w.heap.size ≤ (wr.alloc (.cells #[.string (ofL s)] 9)).heap.size := by
        have h1 := hbw.size
        simp
        omega
      have HW := Lib.hid hbw
      rw [hall]
      clear hrow hbw hall HI
      go_wp2_with (at_builtin; refine wpList_append_own_at _ rfl (.tmp 26) (.tmp 28) 109 rfl w.heap.size 9 i0 (.string ByteArray.empty) 1 16 Tryz.underlying109 hi hz0 hz1 hz2 rfl (by decide) _ _ _ rfl hrow3 ⟨wr.heap.size, 0, none⟩ 1 1 [.string (ofL s)] rfl rfl HN.out (fun x hx => by simp at hx; subst hx; rfl) (by unfold maxLen; omega) (by omega) hsz2 ?_; intro v4 w4 hown4 hg4 _ hat4)
      have hown5 : w4.ownsRow w.heap.size 9 1 v4 (vals G n ++ [s]).length (Texts.strs (vals G n ++ [s])) := by
        rw [List.length_append, show Texts.strs (vals G n ++ [s]) = Texts.strs (vals G n) ++ [.string (ofL s)] from by simp [Texts.strs]]
        exact hown4
      have hb4 : Below w.heap.size w w4 := Below.grown (HW.out.alloc HW.out.size _) hg4 hsz2 (fun j hj => (hrow3.lt j hj).1)
      have HJn := Lib.hid (lib_join2 hown5 (by simp) (by rw [HV.out]; have := HLn.out; have := hs2.out; omega) (by rw [List.length_append]; show _ + 1 ≤ _; omega))
      rw [HV.out] at HJn
      have HB4 := Lib.hid hb4
      clear hown4 hg4 hat4 hrow3 HN hown5 hb4
      go_wp2_with fail
      refine HJn.out.mono ?_
      rintro e w5 ⟨rfl, hb5⟩
      have HE := Lib.hid (below_chain HB4.out hb5)
      clear HJn hb5 HB4
      go_wp2_with fail
      go_ret
      exact ⟨rfl, HE.out⟩
end Go.Proofs.YtblpooddamkfdaaGreatDoor.PEmJoin

/- Layer 13 of the program: a call that writes: its argument's box, its text. -/
namespace Go.Proofs.YtblpooddamkfdaaGreatDoor.PEmObj
open Go.ChangeShapes Go.WideShapes Go.ChangeAt Go.RowKit Bytes LexPure FieldsPure EmitPure Texts Flds Mem Step InEmb PEmTx PEmPass PEmJoin PLib
set_option maxRecDepth 100000
set_option linter.unusedVariables false
set_option linter.unusedSimpArgs false
/-- the call began in w; its argument lies in the first new block, the text in the second and holds l, n bytes at most -/
structure Em (w : World) (T : TypeId) (cs : Array Value) (n : Nat) (l : List UInt8) (wr : World) : Prop where
  box : Has wr w.heap.size T cs
  text : ∃ v, Tx wr (w.heap.size + 1) v l ∧ ∀ k, own (w.heap.size + 1) v k → w.heap.size ≤ k
  below : Below w.heap.size w wr
  few : l.length ≤ n
section
variable {w wr : World} {T : TypeId} {cs : Array Value} {n : Nat} {l : List UInt8}
theorem Em.start (w : World) (T : TypeId) (cs : Array Value) : Em w T cs 0 [] ((w.alloc (.cells cs T)).alloc (.cells #[.pointer none, .slice none 0 0] TT)) := by
  refine ⟨(Has.new w T cs).alloc _, ⟨.slice none 0 0, ?_, ?_⟩, ((Below.refl _ w).alloc (Nat.le_refl _) _).alloc (by simp) _, Nat.le_refl _⟩
  · have := Tx.start (w.alloc (.cells cs T))
    rw [World.size_alloc] at this
    exact this
  · rintro k (rfl | hk)
    · omega
    · cases hk
theorem Em.turn (h : Em w T cs n l wr) (hT1 : T ≠ TT) (hT2 : T ≠ 5) {w1 : World} {v v' : Value} {m : List UInt8} (hx : Tx wr (w.heap.size + 1) v l) (hv : ∀ k, own (w.heap.size + 1) v k → w.heap.size ≤ k)
    (hy : Tx w1 (w.heap.size + 1) v' (l ++ m)) (hs : Step wr w1 (own (w.heap.size + 1) v) (own (w.heap.size + 1) v')) {k : Nat} (hm : m.length ≤ k) : Em w T cs (n + k) (l ++ m) w1 := by
  refine ⟨hs.has h.box (hx.apart h.box hT1 hT2), ⟨v', hy, fun j hj => ?_⟩, ?_, ?_⟩
  · rcases hs.grow j hj with q | ⟨q, _⟩
    · exact hv j q
    · exact Nat.le_trans h.below.size q
  · have hb := hs.below h.below.size hv
    exact ⟨hb.os.trans h.below.os, hb.tape.trans h.below.tape, hb.output.trans h.below.output, Nat.le_trans h.below.size hb.size, fun j hj => (hb.block j hj).trans (h.below.block j hj)⟩
  · have := h.few
    rw [List.length_append]
    omega
theorem Em.call (h : Em w T cs n l wr) {w1 : World} (hb : Below wr.heap.size wr w1) : Em w T cs n l w1 := by
  obtain ⟨v, hx, hv⟩ := h.text
  exact ⟨h.box.below hb h.box.lt, ⟨v, hx.below hb, hv⟩, below_chain h.below hb, h.few⟩
theorem Em.alloc (h : Em w T cs n l wr) (o : Obj) : Em w T cs n l (wr.alloc o) := h.call ((Below.refl _ wr).alloc (Nat.le_refl _) o)
theorem Em.line (h : Em w T cs n l wr) (hT1 : T ≠ TT) (hT2 : T ≠ 5) {vs : Value} {L : List (List UInt8)} (hp : Parts wr vs L) (hL : L.length ≤ 1000) {k : Nat} (hk : L.flatten.length + 2 ≤ k) (hs : n + k ≤ 211106232532992) :
    Calls Tryz.prog 31 #[.pointer (some ⟨w.heap.size + 1, 0, none⟩), vs] wr fun e w' => e = .returned (.tuple #[]) ∧ Hid (Em w T cs (n + k) (l ++ (L.flatten ++ [13, 10])) w') := by
  obtain ⟨v, hx, hv⟩ := h.text
  have hf := h.few
  exact (line_any hx hp (by omega) (by omega)).mono (fun e w' ⟨x1, v', x2, x3⟩ => ⟨x1, Lib.hid (h.turn hT1 hT2 hx hv x2 x3 (by rw [List.length_append]; exact hk))⟩)
theorem Em.field (h : Em w T cs n l wr) (hT1 : T ≠ TT) (hT2 : T ≠ 5) (a x : List UInt8) {k : Nat} (hk : a.length + x.length + 4 ≤ k) (hs : n + k ≤ 211106232532992) :
    Calls Tryz.prog 32 #[.pointer (some ⟨w.heap.size + 1, 0, none⟩), .string (ofL a), .string (ofL x)] wr fun e w' => e = .returned (.tuple #[]) ∧ Hid (Em w T cs (n + k) (l ++ lineE (a, x)) w') := by
  obtain ⟨v, hx, hv⟩ := h.text
  have hf := h.few
  exact (field_any hx a x (by omega)).mono (fun e w' ⟨x1, v', x2, x3⟩ => ⟨x1, Lib.hid (h.turn hT1 hT2 hx hv x2 x3 (by simp [lineE]; omega))⟩)
theorem Em.offer (h : Em w T cs n l wr) (hT1 : T ≠ TT) (hT2 : T ≠ 5) (x : List UInt8) {k : Nat} (hk : x.length + 40 ≤ k) (hs : n + k ≤ 211106232532992) :
    Calls Tryz.prog 37 #[.pointer (some ⟨w.heap.size + 1, 0, none⟩), .string (ofL x)] wr fun e w' => e = .returned (.tuple #[]) ∧ Hid (Em w T cs (n + k) (l ++ (lineE (CONN, UPV) ++ lineE (UPN, x))) w') := by
  obtain ⟨v, hx, hv⟩ := h.text
  have hf := h.few
  exact (offer_any hx x (by omega)).mono (fun e w' ⟨x1, v', x2, x3⟩ => ⟨x1, Lib.hid (h.turn hT1 hT2 hx hv x2 x3 (by
    rw [List.length_append, show (lineE (CONN, UPV)).length = 21 from rfl]
    simp [lineE, UPN]
    omega))⟩)
theorem flat_few {G : List HField} (hG : Few G) (hle : G.length ≤ 1048576) : (G.flatMap lineE).length ≤ 2199027449856 := by
  have h1 := flat_len lineE 2097156 G (fun f hf => by
    have := few_mem hG hf
    simp [lineE]
    omega)
  have h3 := Nat.mul_le_mul_right 2097156 hle
  omega
theorem Em.pass (h : Em w T cs n l wr) (hT1 : T ≠ TT) (hT2 : T ≠ 5) {vl : Value} {G : List HField} {B cap : Nat} {L : List (List UInt8)} (hm : MaxInt w) (hG : Few G) (hle : G.length ≤ 1048576) (hF : FL w vl G)
    (hH : Has wr B 9 (Texts.strs L).toArray) (hL : L.length ≤ 1000) (hs : n + 2199027449856 ≤ 211106232532992) {m : Nat} (hm2 : m = L.length) :
    Calls Tryz.prog 34 #[.pointer (some ⟨w.heap.size + 1, 0, none⟩), vl, .slice (some ⟨B, 0, none⟩) m cap] wr fun e w' => e = .returned (.tuple #[]) ∧ Hid (Em w T cs (n + 2199027449856) (l ++ told L (strip G)) w') := by
  subst hm2
  obtain ⟨v, hx, hv⟩ := h.text
  have hf := h.few
  have hfl := flat_few hG hle
  exact (pass_any hx (hm.below h.below) hG hle (hF.below h.below) hH hL (by omega)).mono (fun e w' ⟨x1, v', x2, x3⟩ => ⟨x1, Lib.hid (h.turn hT1 hT2 hx hv x2 x3 (by
    have := told_le L G (strip G).length
    rw [List.take_length] at this
    omega))⟩)
theorem Em.join (h : Em w T cs n l wr) {vl : Value} {G : List HField} (hG : Few G) (hle : G.length ≤ 1048576) (hF : FL w vl G) (a s : List UInt8) (hs : s.length ≤ 1048576) :
    Calls Tryz.prog 35 #[vl, .string (ofL a), .string (ofL s)] wr fun e w' => e = .returned (.string (ofL (joinV G a s))) ∧ Hid (Em w T cs n l w') :=
  (joined_any hG hle (hF.below h.below) a s hs).mono (fun e w' ⟨x1, x2⟩ => ⟨x1, Lib.hid (h.call x2)⟩)
theorem Em.itoa (h : Em w T cs n l wr) (hp : Pow w) (z : Int) (h0 : -9223372036854775808 ≤ z) (h1 : z ≤ 9223372036854775807) :
    Calls Tryz.prog 36 #[.int .i64 z] wr fun e w' => e = .returned (.string (ofL (decZ z))) ∧ Hid (Em w T cs n l w') :=
  (pitoa z h0 h1 wr (hp.below h.below)).mono (fun e w' ⟨x1, x2⟩ => ⟨x1, Lib.hid (h.call x2)⟩)
theorem Em.tell (h : Em w T cs n l wr) :
    Calls Tryz.prog 39 #[.pointer (some ⟨w.heap.size + 1, 0, none⟩)] wr fun e w' => e = .returned (.string (ofL l)) ∧ Below w.heap.size w w' := by
  obtain ⟨v, hx, hv⟩ := h.text
  exact (tx_text hx).mono (fun e w' ⟨x1, x3⟩ => ⟨x1, by
    have hb := x3.below h.below.size hv
    exact ⟨hb.os.trans h.below.os, hb.tape.trans h.below.tape, hb.output.trans h.below.output, Nat.le_trans h.below.size hb.size, fun j hj => (hb.block j hj).trans (h.below.block j hj)⟩⟩)
theorem Em.write (h : Em w T cs n l wr) (hT1 : T ≠ TT) (hT2 : T ≠ 5) (x : List UInt8) {k : Nat} (hk : x.length ≤ k) (hs : n + k ≤ 211106232532992) :
    Calls Tryz.prog 38 #[.pointer (some ⟨w.heap.size + 1, 0, none⟩), .string (ofL x)] wr fun e w' => e = .returned (.tuple #[.int .i64 (ofL x).size, .nilIface]) ∧ Hid (Em w T cs (n + k) (l ++ x) w') := by
  obtain ⟨v, hx, hv⟩ := h.text
  have hf := h.few
  exact (tx_write hx (ofL x) (by rw [ofL_size]; omega)).mono (fun e w' ⟨x1, v', x2, x3⟩ => ⟨x1, Lib.hid (h.turn hT1 hT2 hx hv (by rw [toL_ofL] at x2; exact x2) x3 hk)⟩)
end
end Go.Proofs.YtblpooddamkfdaaGreatDoor.PEmObj

/- Layer 13 of the program: Request. -/
namespace Go.Proofs.YtblpooddamkfdaaGreatDoor.PEmReq
open Go.ChangeShapes Go.WideShapes Go.ChangeAt Go.RowKit Bytes LexPure FieldsPure EmitPure Texts Flds Mem Step InEmb PEmTx PEmPass PEmJoin PEmObj PLib Ret HeadLines
set_option maxRecDepth 100000
set_option linter.unusedVariables false
set_option linter.unusedSimpArgs false
abbrev AT : TypeId := 41
def acells (a : AskP) (vl : Value) : Array Value := #[.string (ofL a.method), .string (ofL a.target), .string (ofL a.host), .int .i64 a.port, vl, .string (ofL a.body), .bool a.sized, .string (ofL a.from_), .string (ofL a.up)]
def EXPP : List UInt8 := [69, 120, 112, 101, 99, 116]
def V11 : List UInt8 := [72, 84, 84, 80, 47, 49, 46, 49]
theorem told_ask (G : List HField) : PEmPass.told [CLN, VIAN, HOSTN, EXPP, XFFN] (strip G) = (onE true G).flatMap lineE := by
  unfold PEmPass.told onE
  congr 1
  apply List.filter_congr
  intro f _
  have e : alike f.1 EXPP = alike f.1 EXPN := by
    unfold alike
    rw [show lower EXPP = lower EXPN from by decide]
  simp [lft, skipE, e, Bool.and_assoc]
/-- what Request asks of its argument -/
structure Fit (a : AskP) : Prop where
  fields : Few a.fields
  len : a.fields.length ≤ 1048576
  method : a.method.length ≤ 1048576
  target : a.target.length ≤ 1048576
  host : a.host.length ≤ 1048576
  body : a.body.length ≤ 1048576
  from_ : a.from_.length ≤ 1048576
  up : a.up.length ≤ 1048576
  p0 : -9223372036854775808 ≤ a.port
  p1 : a.port ≤ 9223372036854775807
section
variable {w wr : World} {a : AskP} {vl : Value} {n : Nat} {l : List UInt8}
theorem ask_cells (h : Em w AT (acells a vl) n l wr) : wr.cell? ⟨w.heap.size, 0, none⟩ = some (.string (ofL a.method)) ∧ wr.cell? ⟨w.heap.size, 1, none⟩ = some (.string (ofL a.target)) ∧ wr.cell? ⟨w.heap.size, 2, none⟩ = some (.string (ofL a.host)) ∧
    wr.cell? ⟨w.heap.size, 3, none⟩ = some (.int .i64 a.port) ∧ wr.cell? ⟨w.heap.size, 4, none⟩ = some vl ∧ wr.cell? ⟨w.heap.size, 5, none⟩ = some (.string (ofL a.body)) ∧ wr.cell? ⟨w.heap.size, 6, none⟩ = some (.bool a.sized) ∧
    wr.cell? ⟨w.heap.size, 7, none⟩ = some (.string (ofL a.from_)) ∧ wr.cell? ⟨w.heap.size, 8, none⟩ = some (.string (ofL a.up)) :=
  ⟨h.box.cell 0, h.box.cell 1, h.box.cell 2, h.box.cell 3, h.box.cell 4, h.box.cell 5, h.box.cell 6, h.box.cell 7, h.box.cell 8⟩
end
set_option maxHeartbeats 6400000 in
theorem request_any (a : AskP) (vl : Value) (hA : Fit a) (w : World) (hm : MaxInt w) (hp : Pow w) (hF : FL w vl a.fields) :
    Calls Tryz.prog 10 #[.agg (acells a vl)] w fun e w' => e = .returned (.string (ofL (requestE a))) ∧ Below w.heap.size w w' := by
  have hF0 := hF
  obtain ⟨pl, cl, rfl, _, _⟩ := hF0
  have hE : ∃ W2, W2 = (w.alloc (.cells #[.string (ofL a.method), .string (ofL a.target), .string (ofL a.host), .int .i64 a.port, .slice pl a.fields.length cl, .string (ofL a.body), .bool a.sized, .string (ofL a.from_), .string (ofL a.up)] AT)).alloc (.cells #[.pointer none, .slice none 0 0] TT) ∧ Em w AT (acells a (.slice pl a.fields.length cl)) 0 [] W2 := ⟨_, rfl, Em.start w AT _⟩
  obtain ⟨W2, hW2, hE⟩ := hE
  have HW2 := Lib.hid hW2
  have HE := Lib.hid hE
  have HA := Lib.hid hA
  have HM := Lib.hid hm
  have HP := Lib.hid hp
  have HF := Lib.hid hF
  clear hA hm hp hF hE hW2
  unfold acells
  go_enter Tryz.func10, Tryz.ntmps10
  iterate 20 go_step
  rw [← HW2.out]
  clear HW2
  obtain ⟨c0, c1, _⟩ := ask_cells HE.out
  have HX := Lib.hid ((HE.out.alloc (.cells #[.string (ofL a.method), .string ⟨#[32]⟩, .string (ofL a.target), .string ⟨#[32]⟩, .string ⟨#[72, 84, 84, 80, 47, 49, 46, 49]⟩] 9)).line (k := 2097170) (by decide) (by decide) (Parts.new _ [a.method, [32], a.target, [32], V11] _ 5 5 rfl rfl) (by simp) (by
    have h1 := HA.out.method
    have h2 := HA.out.target
    simp [V11]
    omega) (by decide))
  clear HE
  go_wp2_with fail
  refine HX.out.mono ?_
  rintro e w1 ⟨rfl, HE⟩
  clear HX c0 c1
  obtain ⟨_, _, c2, c3, _⟩ := ask_cells HE.out
  have HX : Hid (Calls Tryz.prog 33 #[.string (ofL a.host), .int .i64 a.port] w1 fun e w' => e = .returned (.string (ofL (hostE a))) ∧ Hid (Em w AT (acells a (.slice pl a.fields.length cl)) (0 + 2097170) ([] ++ ([a.method, [32], a.target, [32], V11].flatten ++ [13, 10])) w')) := Lib.hid ((authority_any a.host HA.out.host a.port HA.out.p0 HA.out.p1 w1 (HP.out.below HE.out.below)).mono (fun e w' ⟨x1, x2⟩ => ⟨x1, Lib.hid (HE.out.call x2)⟩))
  clear HE
  go_wp2_with fail
  refine HX.out.mono ?_
  rintro e w2 ⟨rfl, HE⟩
  clear HX c2 c3
  have HX := Lib.hid (HE.out.field (k := 2097170) (by decide) (by decide) HOSTN (hostE a) (by
    have h1 := HA.out.host
    have h2 := decZ_len HA.out.p0 HA.out.p1
    have h3 : (hostE a).length ≤ a.host.length + 21 := by
      unfold hostE
      rw [List.length_append]
      split
      · rw [List.length_cons]; omega
      · simp
    simp [HOSTN]
    omega) (by decide))
  clear HE
  go_wp2_with fail
  refine HX.out.mono ?_
  rintro e w3 ⟨rfl, HE⟩
  clear HX
  obtain ⟨_, _, _, _, c4, _⟩ := ask_cells HE.out
  have HX := Lib.hid ((HE.out.alloc (.cells #[.string ⟨#[67, 111, 110, 116, 101, 110, 116, 45, 76, 101, 110, 103, 116, 104]⟩, .string ⟨#[86, 105, 97]⟩, .string ⟨#[72, 111, 115, 116]⟩, .string ⟨#[69, 120, 112, 101, 99, 116]⟩, .string ⟨#[88, 45, 70, 111, 114, 119, 97, 114, 100, 101, 100, 45, 70, 111, 114]⟩] 9)).pass (L := [CLN, VIAN, HOSTN, EXPP, XFFN]) (cap := 5) (by decide) (by decide) HM.out HA.out.fields HA.out.len HF.out (Has.new w3 9 _) (by decide) (by decide) (m := 5) rfl)
  rw [told_ask] at HX
  clear HE
  go_wp2_with fail
  refine HX.out.mono ?_
  rintro e w4 ⟨rfl, HE⟩
  clear HX c4
  obtain ⟨_, _, _, _, c4, _, _, c7, _⟩ := ask_cells HE.out
  have HX := Lib.hid (HE.out.join HA.out.fields HA.out.len HF.out XFFN a.from_ HA.out.from_)
  clear HE
  go_wp2_with fail
  refine HX.out.mono ?_
  rintro e w5 ⟨rfl, HE⟩
  clear HX c4 c7
  have HX := Lib.hid (HE.out.field (k := 1099515822080) (by decide) (by decide) XFFN (joinV a.fields XFFN a.from_) (by
    have h1 := joinV_len HA.out.fields HA.out.len XFFN a.from_
    have h2 := HA.out.from_
    rw [show XFFN.length = 15 from rfl]
    omega) (by decide))
  clear HE
  go_wp2_with fail
  refine HX.out.mono ?_
  rintro e w6 ⟨rfl, HE⟩
  clear HX
  obtain ⟨_, _, _, _, c4, _⟩ := ask_cells HE.out
  have HX := Lib.hid (HE.out.join HA.out.fields HA.out.len HF.out VIAN BARB (by decide))
  clear HE
  go_wp2_with fail
  refine HX.out.mono ?_
  rintro e w7 ⟨rfl, HE⟩
  clear HX c4
  have HX := Lib.hid (HE.out.field (k := 1099515822080) (by decide) (by decide) VIAN (joinV a.fields VIAN BARB) (by
    have h1 := joinV_len HA.out.fields HA.out.len VIAN BARB
    rw [show BARB.length = 12 from rfl] at h1
    rw [show VIAN.length = 3 from rfl]
    omega) (by decide))
  clear HE
  go_wp2_with fail
  refine HX.out.mono ?_
  rintro e w8 ⟨rfl, HE⟩
  clear HX
  have htail : ∀ (W : World) (n : Nat) (l : List UInt8), Em w AT (acells a (.slice pl a.fields.length cl)) n l W → n ≤ 35184372088832 → Hid (Calls Tryz.prog 31 #[.pointer (some ⟨w.heap.size + 1, 0, none⟩), .slice none 0 0] W fun e w' => e = .returned (.tuple #[]) ∧ Hid (Em w AT (acells a (.slice pl a.fields.length cl)) (n + 2) (l ++ ([].flatten ++ [13, 10])) w')) := fun W n l h hn => Lib.hid (h.line (by decide) (by decide) (Parts.nil W) (by decide) (Nat.le_refl _) (by omega))
  have htail2 : ∀ (W : World) (n : Nat) (l : List UInt8), Em w AT (acells a (.slice pl a.fields.length cl)) n l W → n ≤ 35184372088834 → Hid (Calls Tryz.prog 38 #[.pointer (some ⟨w.heap.size + 1, 0, none⟩), .string (ofL a.body)] W fun e w' => e = .returned (.tuple #[.int .i64 (ofL a.body).size, .nilIface]) ∧ Hid (Em w AT (acells a (.slice pl a.fields.length cl)) (n + 1048576) (l ++ a.body) w')) := fun W n l h hn => Lib.hid (h.write (by decide) (by decide) a.body HA.out.body (by omega))
  have HT1 := Lib.hid htail
  have HT2 := Lib.hid htail2
  clear htail htail2
  obtain ⟨_, _, _, _, _, _, c6, _⟩ := ask_cells HE.out
  have eu : (ofL a.up).toList = a.up := by rw [ByteArray.toList_eq]; exact toL_ofL _
  have hcs : (∃ b, (ofL a.up).toList.isEmpty = b ∧ b = false ∧ ¬ (ofL a.up).toList = [] ∧ Hid (¬ a.up = [])) ∨ ((ofL a.up).toList.isEmpty = true ∧ (ofL a.up).toList = [] ∧ Hid (a.up = [])) := by
    rw [eu]
    by_cases h0 : a.up = []
    · exact .inr ⟨by rw [h0]; rfl, h0, Lib.hid h0⟩
    · refine .inl ⟨false, ?_, rfl, h0, Lib.hid h0⟩
      cases hx : a.up with
      | nil => exact absurd hx h0
      | cons => rfl
  clear eu
  cases hs : a.sized with
  | true =>
    have HS := Lib.hid hs
    rw [hs] at c6
    clear hs
    obtain ⟨_, _, _, _, _, c5, _⟩ := ask_cells HE.out
    have HX := Lib.hid (HE.out.itoa HP.out ((ofL a.body).size : Int) (by omega) (by rw [ofL_size]; have := HA.out.body; omega))
    clear HE
    go_wp2_with fail
    refine HX.out.mono ?_
    rintro e w9 ⟨rfl, HE⟩
    clear HX c5 c6
    have HX := Lib.hid (HE.out.field (k := 40) (by decide) (by decide) CLN (decZ ((ofL a.body).size : Int)) (by
      have h1 : (decZ ((ofL a.body).size : Int)).length ≤ 20 := decZ_len (by omega) (by rw [ofL_size]; have := HA.out.body; omega)
      rw [show CLN.length = 14 from rfl]
      omega) (by decide))
    clear HE
    go_wp2_with fail
    refine HX.out.mono ?_
    rintro e w9 ⟨rfl, HE⟩
    clear HX
    rcases hcs with ⟨b, t1, rfl, t2, HU⟩ | ⟨t1, t2, HU⟩
    · obtain ⟨_, _, _, _, _, _, _, _, c8⟩ := ask_cells HE.out
      have HX := Lib.hid (HE.out.offer (k := 1048616) (by decide) (by decide) a.up (by have := HA.out.up; omega) (by decide))
      clear HE
      go_wp2_with fail
      refine HX.out.mono ?_
      rintro e w10 ⟨rfl, HE⟩
      clear HX c8 t1 t2
      have HX := HT1.out _ _ _ HE.out (by decide)
      clear HE
      go_wp2_with fail
      refine HX.out.mono ?_
      rintro e w11 ⟨rfl, HE⟩
      clear HX
      obtain ⟨_, _, _, _, _, c5, _⟩ := ask_cells HE.out
      have HX := HT2.out _ _ _ HE.out (by decide)
      clear HE
      go_wp2_with fail
      refine HX.out.mono ?_
      rintro e w12 ⟨rfl, HE⟩
      clear HX c5
      have HX := Lib.hid HE.out.tell
      clear HE
      go_wp2_with fail
      refine HX.out.mono ?_
      rintro e w13 ⟨rfl, hb⟩
      clear HX
      go_wp2_with fail
      go_ret
      refine ⟨ret_string (congrArg ofL ?_), hb⟩
      have hs := HS.out
      have hu := HU.out
      simp [requestE, askF, startL, HeadWrit.HTTP11, hs, hu, V11, lineE, ofL_size]
    · obtain ⟨_, _, _, _, _, _, _, _, c8⟩ := ask_cells HE.out
      have HX := HT1.out _ _ _ HE.out (by decide)
      clear HE
      go_wp2_with fail
      refine HX.out.mono ?_
      rintro e w11 ⟨rfl, HE⟩
      clear HX c8 t1 t2
      obtain ⟨_, _, _, _, _, c5, _⟩ := ask_cells HE.out
      have HX := HT2.out _ _ _ HE.out (by decide)
      clear HE
      go_wp2_with fail
      refine HX.out.mono ?_
      rintro e w12 ⟨rfl, HE⟩
      clear HX c5
      have HX := Lib.hid HE.out.tell
      clear HE
      go_wp2_with fail
      refine HX.out.mono ?_
      rintro e w13 ⟨rfl, hb⟩
      clear HX
      go_wp2_with fail
      go_ret
      refine ⟨ret_string (congrArg ofL ?_), hb⟩
      have hs := HS.out
      have hu := HU.out
      simp [requestE, askF, startL, HeadWrit.HTTP11, hs, hu, V11, lineE, ofL_size]
  | false =>
    have HS := Lib.hid hs
    rw [hs] at c6
    clear hs
    rcases hcs with ⟨b, t1, rfl, t2, HU⟩ | ⟨t1, t2, HU⟩
    · obtain ⟨_, _, _, _, _, _, _, _, c8⟩ := ask_cells HE.out
      have HX := Lib.hid (HE.out.offer (k := 1048616) (by decide) (by decide) a.up (by have := HA.out.up; omega) (by decide))
      clear HE
      go_wp2_with fail
      refine HX.out.mono ?_
      rintro e w10 ⟨rfl, HE⟩
      clear HX c8 t1 t2
      have HX := HT1.out _ _ _ HE.out (by decide)
      clear HE
      go_wp2_with fail
      refine HX.out.mono ?_
      rintro e w11 ⟨rfl, HE⟩
      clear HX
      obtain ⟨_, _, _, _, _, c5, _⟩ := ask_cells HE.out
      have HX := HT2.out _ _ _ HE.out (by decide)
      clear HE
      go_wp2_with fail
      refine HX.out.mono ?_
      rintro e w12 ⟨rfl, HE⟩
      clear HX c5
      have HX := Lib.hid HE.out.tell
      clear HE
      go_wp2_with fail
      refine HX.out.mono ?_
      rintro e w13 ⟨rfl, hb⟩
      clear HX
      go_wp2_with fail
      go_ret
      refine ⟨ret_string (congrArg ofL ?_), hb⟩
      have hs := HS.out
      have hu := HU.out
      simp [requestE, askF, startL, HeadWrit.HTTP11, hs, hu, V11, lineE, ofL_size]
    · obtain ⟨_, _, _, _, _, _, _, _, c8⟩ := ask_cells HE.out
      have HX := HT1.out _ _ _ HE.out (by decide)
      clear HE
      go_wp2_with fail
      refine HX.out.mono ?_
      rintro e w11 ⟨rfl, HE⟩
      clear HX c8 t1 t2
      obtain ⟨_, _, _, _, _, c5, _⟩ := ask_cells HE.out
      have HX := HT2.out _ _ _ HE.out (by decide)
      clear HE
      go_wp2_with fail
      refine HX.out.mono ?_
      rintro e w12 ⟨rfl, HE⟩
      clear HX c5
      have HX := Lib.hid HE.out.tell
      clear HE
      go_wp2_with fail
      refine HX.out.mono ?_
      rintro e w13 ⟨rfl, hb⟩
      clear HX
      go_wp2_with fail
      go_ret
      refine ⟨ret_string (congrArg ofL ?_), hb⟩
      have hs := HS.out
      have hu := HU.out
      simp [requestE, askF, startL, HeadWrit.HTTP11, hs, hu, V11, lineE, ofL_size]
end Go.Proofs.YtblpooddamkfdaaGreatDoor.PEmReq
