/- Texts of this seat, one behind another: EmitStripsW. -/

import Derived.Test.YtblpooddamkfdaaGreatDoorC
import Derived.Test.YtblpooddamkfdaaGreatDoorA3
import Derived.Test.YtblpooddamkfdaaGreatDoorB7
import Derived.Test.YtblpooddamkfdaaGreatDoorA1
/- Of what one connection alone concerns nothing goes on, in a request or in a head: EmitStrips returns true, for a list of bulk at most 1048576. -/
namespace Go.Proofs.YtblpooddamkfdaaGreatDoor.EmitStripsW
open Go.ChangeShapes Go.WideShapes Go.ChangeAt Go.RowKit Bytes LexPure FieldsPure HeadPure FramePure EmitPure EmitStripP Flds HBox Mem PEmJoin PLib FRow KeptRow L13Base Held
set_option maxRecDepth 100000
set_option linter.unusedVariables false
set_option linter.unusedSimpArgs false
/-! ### what is said of the two readings -/
theorem getN_congr {n m : List UInt8} (h : lower n = lower m) (F : List HField) : getN F n = getN F m := by
  have e : hit n = hit m := by
    funext f
    unfold hit alike
    rw [h]
  unfold getN
  rw [e]
theorem getN_told' (F : List HField) (n : List UInt8) : getN (F.map EmitPure.told) n = getN F n := by
  unfold getN
  rw [List.countP_map]
  rfl
theorem ownB_own (n : List UInt8) (up : Bool) (u : List UInt8) (hu : up = !u.isEmpty) : L13Own.ownB n up = own n u := by
  unfold L13Own.ownB own
  rw [hu]
/-- what the law asks of a head -/
structure Says (G F : List HField) (u : List UInt8) : Prop where
  strip : ∀ n, one G n = true → own n u = false → getN F n = 0
  conn : getN F [99, 111, 110, 110, 101, 99, 116, 105, 111, 110] = (if u = [] then 0 else 1)
  len : getN F [99, 111, 110, 116, 101, 110, 116, 45, 108, 101, 110, 103, 116, 104] = 0
  via : getN F [118, 105, 97] = 1
theorem getN_le (F : List HField) (n : List UInt8) : getN F n ≤ F.length := List.countP_le_length
def A1 (G : List HField) (u : List UInt8) : List HField := (askF (askS G u)).map EmitPure.told
def A2 (G : List HField) (u : List UInt8) : List HField := (replyF (replyS G u)).map EmitPure.told
theorem says_ask (G : List HField) (u : List UInt8) : Says G (A1 G u) u ∧ getN (A1 G u) [104, 111, 115, 116] = 1 := by
  obtain ⟨h1, h2, h3, h4⟩ := ask_own (a := askS G u) rfl
  refine ⟨⟨fun n hn ho => ?_, ?_, ?_, ?_⟩, ?_⟩
  · unfold A1; rw [getN_told']; exact ask_strip (a := askS G u) rfl hn ho
  · unfold A1; rw [getN_told', getN_congr (m := CONNECTION) (by decide), h1]; rfl
  · unfold A1; rw [getN_told', getN_congr (m := CLEN) (by decide), h2]
  · unfold A1; rw [getN_told', getN_congr (m := VIAN) (by decide), h3]
  · unfold A1; rw [getN_told', getN_congr (m := HOSTN) (by decide), h4]
theorem says_reply (G : List HField) (u : List UInt8) : Says G (A2 G u) u := by
  obtain ⟨h1, h2, h3⟩ := reply_own (r := replyS G u) rfl rfl
  refine ⟨fun n hn ho => ?_, ?_, ?_, ?_⟩
  · unfold A2; rw [getN_told']; exact reply_strip (r := replyS G u) rfl rfl hn ho
  · unfold A2; rw [getN_told', getN_congr (m := CONNECTION) (by decide), h1]; rfl
  · unfold A2; rw [getN_told', getN_congr (m := CLEN) (by decide), h2]
  · unfold A2; rw [getN_told', getN_congr (m := VIAN) (by decide), h3]
theorem total_take (G : List HField) (k : Nat) (hk : k < G.length) : total (G.take (k + 1)) = total (G.take k) + (G[k].1.length + G[k].2.length) := by
  unfold total
  rw [List.take_add_one, List.getElem?_eq_getElem hk, List.map_append, List.sum_append]
  simp
theorem check_zero {G : List HField} (h : check G = 0) : (∀ f ∈ G, right f = true) ∧ G.length ≤ 32 := by
  unfold check at h
  split at h
  · rename_i ha
    split at h
    · rename_i hl
      exact ⟨fun f hf => List.all_eq_true.1 ha f hf, hl⟩
    · cases h
  · cases h
theorem right_len {f : HField} (h : right f = true) : f.1.length + f.2.length ≤ 512 := by
  unfold right at h
  simp only [Bool.and_eq_true, decide_eq_true_eq] at h
  exact h.2
theorem right_token {f : HField} (h : right f = true) : token f.1 = true := by
  unfold right at h
  simp only [Bool.and_eq_true] at h
  exact h.1.1
def H1 (G : List HField) (u : List UInt8) : H8 := ⟨[71, 69, 84], [47], 0, [], 1, A1 G u⟩
def H2 (G : List HField) (u : List UInt8) : H8 := ⟨[], [], 200, reasonL 200, 1, A2 G u⟩
/-- all that is held -/
structure Q (w : World) (gA : Nat) (vl v1 v2 : Value) (G F1 : List HField) (h1 h2 : H8) (wr : World) : Prop where
  fl : FL wr vl G
  l1 : FL wr v1 h1.fields
  l2 : FL wr v2 h2.fields
  bx : HBox wr gA h1 v1
  lt : gA < wr.heap.size
  below : Below w.heap.size w wr
theorem Q.call {w : World} {gA : Nat} {vl v1 v2 : Value} {G F1 : List HField} {h1 h2 : H8} {wr w1 : World} (h : Q w gA vl v1 v2 G F1 h1 h2 wr) (hb : Below wr.heap.size wr w1) : Q w gA vl v1 v2 G F1 h1 h2 w1 :=
  ⟨h.fl.below hb, h.l1.below hb, h.l2.below hb, h.bx.below hb h.lt, Nat.lt_of_lt_of_le h.lt hb.size, below_chain h.below hb⟩
/-- beside it the round's head -/
structure R (w : World) (gA gh : Nat) (vl v1 v2 v : Value) (G F1 : List HField) (h1 h2 h : H8) (wr : World) : Prop where
  q : Q w gA vl v1 v2 G F1 h1 h2 wr
  box : HBox wr gh h v
  list : FL wr v h.fields
  low : gh < wr.heap.size
theorem R.new {w : World} {gA : Nat} {vl v1 v2 v : Value} {G F1 : List HField} {h1 h2 h : H8} {wr : World} (x : Q w gA vl v1 v2 G F1 h1 h2 wr) (hl : FL wr v h.fields) : R w gA wr.heap.size vl v1 v2 v G F1 h1 h2 h (wr.alloc (.cells (hc h v) 25)) :=
  ⟨x.call ((Below.refl _ wr).alloc (Nat.le_refl _) _), ⟨Has.new wr _ _⟩, hl.below ((Below.refl _ wr).alloc (Nat.le_refl _) _), by simp⟩
theorem R.call {w : World} {gA gh : Nat} {vl v1 v2 v : Value} {G F1 : List HField} {h1 h2 h : H8} {wr w1 : World} (x : R w gA gh vl v1 v2 v G F1 h1 h2 h wr) (hb : Below wr.heap.size wr w1) : R w gA gh vl v1 v2 v G F1 h1 h2 h w1 :=
  ⟨x.q.call hb, x.box.below hb x.low, x.list.below hb, Nat.lt_of_lt_of_le x.low hb.size⟩
theorem few_read {resp : Bool} {s : List UInt8} {h : H8} {n : Nat} (hr : read8 resp s = .done h n) : Few h.fields := by
  cases resp with
  | true => exact (OutFew.resp_few hr).2.2
  | false =>
    intro j hj
    have := (HeadFew.read_few hr).2.2 _ (List.getElem_mem hj)
    exact ⟨Nat.le_trans this.1 (by decide), Nat.le_trans this.2 (by decide)⟩
def A12 (h1 h2 : H8) (v1 v2 : Value) : Value := .agg #[.string (ofL h1.method), .string (ofL h1.target), .int .i64 h1.status, .string (ofL h1.reason), .int .i64 h1.minor, v1, .string (ofL h2.method), .string (ofL h2.target), .int .i64 h2.status, .string (ofL h2.reason), .int .i64 h2.minor, v2]
theorem idxa (h1 h2 : H8) (p1 p2 : Option Addr) (n1 n2 c1 c2 : Nat) (W : World) : (Instr.index 60 (A12 h1 h2 (.slice p1 n1 c1) (.slice p2 n2 c2)) (.int .i64 0)).run Tryz.prog W = .ok (hv h1 (.slice p1 n1 c1)) W := by
  simp [A12, hv, Instr.index, run_underlying (P := Tryz.prog) Tryz.underlying60, asIntOf, go_sem, Tryz.sizeOf25]
theorem idxb (h1 h2 : H8) (p1 p2 : Option Addr) (n1 n2 c1 c2 : Nat) (W : World) : (Instr.index 60 (A12 h1 h2 (.slice p1 n1 c1) (.slice p2 n2 c2)) (.int .i64 1)).run Tryz.prog W = .ok (hv h2 (.slice p2 n2 c2)) W := by
  simp [A12, hv, Instr.index, run_underlying (P := Tryz.prog) Tryz.underlying60, asIntOf, go_sem, Tryz.sizeOf25]
/-- a head that is read whole -/
theorem read_whole (S : ByteArray) (hs : S.size ≤ 140737488351232) (resp : Bool) (h : H8) (hr : read8 resp (toL S) = .done h S.size) (w : World) :
    Calls Tryz.prog 20 #[.string S, .bool resp] w fun e w' => ∃ p cap, e = .returned (.tuple #[.agg #[.string (ofL h.method), .string (ofL h.target), .int .i64 h.status, .string (ofL h.reason), .int .i64 h.minor, .slice p h.fields.length cap], .int .i64 S.size, .int .i64 0]) ∧ FL w' (.slice p h.fields.length cap) h.fields ∧ h.fields.length ≤ 32 ∧ Few h.fields ∧ Below w.heap.size w w' := by
  have H := R8Read.r8read_any S hs resp w
  rw [hr] at H
  refine H.mono ?_
  rintro e w' ⟨v, rfl, hrow, hb⟩
  have hf := fl_of hrow.1 (Nat.le_trans hrow.2 (by decide))
  obtain ⟨p, cap, rfl, _, _⟩ := id hf
  exact ⟨p, cap, rfl, hf, hrow.2, few_read hr, hb⟩
theorem fit_ask {G : List HField} {u : List UInt8} (hG : Few G) (hle : G.length ≤ 1048576) (hu : u.length ≤ 20) : PEmReq.Fit (askS G u) :=
  ⟨hG, hle, show (3 : Nat) ≤ 1048576 by decide, show (1 : Nat) ≤ 1048576 by decide, show (1 : Nat) ≤ 1048576 by decide, Nat.zero_le _, show (1 : Nat) ≤ 1048576 by decide, Nat.le_trans hu (by decide), show (-9223372036854775808 : Int) ≤ 0 by decide, show (0 : Int) ≤ 9223372036854775807 by decide⟩
theorem fit_reply {G : List HField} {u : List UInt8} (hG : Few G) (hle : G.length ≤ 1048576) (hu : u.length ≤ 20) : PEmHead.FitR (replyS G u) :=
  ⟨hG, hle, Nat.zero_le _, Nat.le_trans hu (by decide), show (-9223372036854775808 : Int) ≤ 200 by decide, show (200 : Int) ≤ 9223372036854775807 by decide, show (-9223372036854775808 : Int) ≤ 0 by decide, show (0 : Int) ≤ 9223372036854775807 by decide⟩
set_option maxHeartbeats 12800000 in
theorem walkIn (G : List HField) (vl : Value) (up : Bool) (hG : Few G) (hle : G.length ≤ 1048576) (hy : Nice vl G.length) (w : World) (hF : FL w vl G) (hm : MaxInt w) (hp : Pow w) :
    Calls Tryz.prog 5 #[vl, .bool up] w fun e w' => e = .returned (.bool true) ∧ Below w.heap.size w w' := by
  obtain ⟨pl, cl, rfl, -, -⟩ := id hF
  have HAn := Lib.hid (anchor_any w hm hp)
  have HCk := Lib.hid (fun w' h => R7Check.r7check_any (.slice pl G.length cl) G hG w' h)
  have HM := Lib.hid hm
  have HP := Lib.hid hp
  have HF := Lib.hid hF
  have HG := Lib.hid hG
  have HY := Lib.hid hy
  have hgi : (G.length : Int) ≤ 1048576 := by omega
  clear hm hp hF hG hy
  go_enter Tryz.func5, Tryz.ntmps5
  go_wp2_with fail
  refine HAn.out.mono ?_
  rintro e w1 ⟨rfl, hb1⟩
  have HB1 := Lib.hid hb1
  have HC1 := Lib.hid (HCk.out w1 (HF.out.below hb1))
  clear HAn hb1 HCk
  go_wp2_with fail
  refine HC1.out.mono ?_
  rintro e w2 ⟨rfl, hb2⟩
  have HB2 := Lib.hid (below_chain HB1.out hb2)
  clear HC1 HB1 hb2
  by_cases hck : check G = 0
  case neg =>
    have hcb : (check G != 0) = true := bne_iff_ne.2 hck
    generalize check G = c at *
    go_wp2_with fail
    go_ret
    exact ⟨rfl, HB2.out⟩
  rw [hck]
  have HR := Lib.hid (check_zero hck)
  clear hck
  by_cases h20 : G.length ≤ 20
  case neg =>
    have hcb : (20 : Int) < (G.length : Int) := by omega
    go_wp2_with fail
    go_ret
    exact ⟨rfl, HB2.out⟩
  have hcb : ¬ (20 : Int) < (G.length : Int) := by omega
  obtain ⟨_, _, heq, -, hcell⟩ := HF.out
  injection heq with e1 e2 e3
  subst e1
  subst e3
  have HC := Lib.hid hcell
  have HT0 : Hid (total (G.take 0) = 0 ∧ Below w.heap.size w w2) := Lib.hid ⟨rfl, HB2.out⟩
  clear hcell e2
  go_wp2_with fail
  go_loopw [5, 43] (fun t i wr => ∃ (k n : Nat), k ≤ G.length ∧ n ≤ k * 512 ∧ i = .int .i64 k ∧ t = .int .i64 n ∧ Hid (total (G.take k) = n ∧ Below w.heap.size w wr)) (fun _ i _ => G.length - (intOf i).toNat)
  case atStart => exact ⟨0, 0, Nat.zero_le _, Nat.zero_le _, rfl, rfl, HT0⟩
  case round =>
    obtain ⟨k, n, hk, hn, rfl, rfl, HJ⟩ := hrel
    clear HT0
    by_cases hlt : k < G.length
    · obtain ⟨g, o, rfl, hgl, hcell⟩ := HC.out (by omega)
      obtain ⟨c1, c2⟩ := hcell k hlt
      replace c1 := (HJ.out.2.cell (p := ⟨g, o + k * 2, none⟩) hgl).trans c1
      replace c2 := (HJ.out.2.cell (p := ⟨g, o + k * 2 + 1, none⟩) hgl).trans c2
      have hki : (k : Int) < (G.length : Int) := by omega
      have hrl := right_len (HR.out.1 G[k] (List.getElem_mem hlt))
      have htt := total_take G k hlt
      obtain ⟨f, hf⟩ : ∃ f, f = G[k] := ⟨_, rfl⟩
      rw [← hf] at c1 c2 hrl htt
      have z1 : (ofL f.1).size = f.1.length := ofL_size _
      have z2 : (ofL f.2).size = f.2.length := ofL_size _
      obtain ⟨s1, hs1⟩ : ∃ s1, s1 = (ofL f.1).size := ⟨_, rfl⟩
      obtain ⟨s2, hs2⟩ : ∃ s2, s2 = (ofL f.2).size := ⟨_, rfl⟩
      have b1 : (ofL f.1).size + (ofL f.2).size ≤ 512 := by omega
      have HJ2 : Hid (total (G.take (k + 1)) = n + ((ofL f.1).size + (ofL f.2).size) ∧ Below w.heap.size w (wr.alloc (.cells #[.string (ofL f.1), .string (ofL f.2)] 36))) := Lib.hid ⟨by rw [htt, HJ.out.1, z1, z2], HJ.out.2.alloc HJ.out.2.size _⟩
      have d := (Has.new wr 36 #[.string (ofL f.1), .string (ofL f.2)]).cell
      have d0 := d 0
      have d1 := d 1
      clear hcell hf hrl htt z1 z2 hs1 hs2 d HJ
      go_wp2_with fail
      exact ⟨⟨k + 1, n + ((ofL f.1).size + (ofL f.2).size), by omega, by omega, by simp, by simp, HJ2⟩, by simp [intOf]; omega⟩
    · have hall : G.take k = G := List.take_of_length_le (by omega)
      have HT : Hid (total G = n ∧ Below w.heap.size w wr) := Lib.hid (by have := HJ.out; rw [hall] at this; exact this)
      have hki : ¬ (k : Int) < (G.length : Int) := by omega
      clear hall HJ
      by_cases h3 : 300 < n
      · have h3i : (300 : Int) < (n : Int) := by omega
        go_wp2_with fail
        go_ret
        exact ⟨rfl, HT.out.2⟩
      have h3i : ¬ (300 : Int) < (n : Int) := by omega
      have HTot : Hid (total G ≤ 300) := Lib.hid (by rw [HT.out.1]; omega)
      have key : ∀ u : List UInt8, u.all plainB = true → u.length ≤ 20 → Hid (read8 false (requestE (askS G u)) = .done (H1 G u) (requestE (askS G u)).length ∧ read8 true (headE (replyS G u)) = .done (H2 G u) (headE (replyS G u)).length) := fun u h1 h2 =>
        Lib.hid ⟨strip_ask HR.out.1 (by omega) HTot.out h1 h2, strip_reply HR.out.1 (by omega) HTot.out h1 h2⟩
      have HB := Lib.hid HT.out.2
      have HKey := Lib.hid key
      have hbound : ∀ u : List UInt8, u.length ≤ 20 → Hid ((ofL (requestE (askS G u))).size ≤ 140737488351232 ∧ (ofL (headE (replyS G u))).size ≤ 140737488351232) := fun u hu => Lib.hid ⟨by
        rw [ofL_size]
        exact Nat.le_trans (PEmLen.req_len (fit_ask HG.out hle hu)) (by decide), by
        rw [ofL_size]
        exact Nat.le_trans (PEmLocal.head_len (fit_reply HG.out hle hu)) (by decide)⟩
      have HBd := Lib.hid hbound
      clear HT HTot key HC hn hlt hbound
      cases up with
      | true =>
        obtain ⟨R1, R2⟩ := (HKey.out [119, 115] (by decide) (by decide)).out
        obtain ⟨D1, D2⟩ := (HBd.out [119, 115] (by decide)).out
        have hfa := fit_ask (u := [119, 115]) HG.out hle (by decide)
        have hfr := fit_reply (u := [119, 115]) HG.out hle (by decide)
        have HQ1 := Lib.hid (fun v w' m p h => PEmReq.request_any (askS G [119, 115]) v hfa w' m p h)
        have HQ2 := Lib.hid (fun v w' m p h => PEmHead.head_any (replyS G [119, 115]) v hfr w' m p h)
        obtain ⟨S1, hS1⟩ : ∃ S1, S1 = ofL (requestE (askS G [119, 115])) := ⟨_, rfl⟩
        obtain ⟨S2, hS2⟩ : ∃ S2, S2 = ofL (headE (replyS G [119, 115])) := ⟨_, rfl⟩
        have t1 : toL S1 = requestE (askS G [119, 115]) := by rw [hS1, toL_ofL]
        have t2 : toL S2 = headE (replyS G [119, 115]) := by rw [hS2, toL_ofL]
        rw [← t1, toL_length] at R1
        rw [← t2, toL_length] at R2
        rw [← hS1] at HQ1 D1
        rw [← hS2] at HQ2 D2
        have F1 : (H1 G [119, 115]).fields = A1 G [119, 115] := rfl
        have F2 : (H2 G [119, 115]).fields = A2 G [119, 115] := rfl
        have Y1 := says_ask G [119, 115]
        have Y2 := says_reply G [119, 115]
        rw [← F1] at Y1
        rw [← F2] at Y2
        have HR1 := Lib.hid (fun w' => read_whole S1 D1 false _ R1 w')
        have HR2 := Lib.hid (fun w' => read_whole S2 D2 true _ R2 w')
        have HY1 := Lib.hid Y1
        have HY2 := Lib.hid Y2
        have HC1 := Lib.hid (fun w' h => copied_any (.slice pl G.length cl) G (by omega) HY.out w' h)
        clear R1 R2 D1 D2 hfa hfr hS1 hS2 t1 t2 F1 F2 Y1 Y2 HKey HBd
        generalize H1 G [119, 115] = h1 at *
        generalize H2 G [119, 115] = h2 at *
        unfold PEmReq.acells askS at HQ1
        unfold PEmHead.rcells replyS at HQ2
        go_wp2_with fail
        refine (HC1.out wr (HF.out.below HB.out)).mono ?_
        rintro e w3 ⟨v2, rfl, hrow, hb3⟩
        obtain ⟨p2, c2, rfl, -, -⟩ := id (fl_of hrow (by omega))
        have HX1 := Lib.hid (HQ1.out _ w3 (HM.out.below (below_chain HB.out hb3)) (HP.out.below (below_chain HB.out hb3)) (fl_of hrow (by omega)))
        have HB3 := Lib.hid (below_chain HB.out hb3)
        clear hrow hb3 HQ1
        go_wp2_with fail
        refine HX1.out.mono ?_
        rintro e w4 ⟨rfl, hb4⟩
        have HB4 := Lib.hid (below_chain HB3.out hb4)
        clear hb4 HX1 HB3
        go_wp2_with fail
        refine (HC1.out w4 (HF.out.below HB4.out)).mono ?_
        rintro e w5 ⟨v3, rfl, hrow, hb5⟩
        obtain ⟨p3, c3, rfl, -, -⟩ := id (fl_of hrow (by omega))
        have HX2 := Lib.hid (HQ2.out _ w5 (HM.out.below (below_chain HB4.out hb5)) (HP.out.below (below_chain HB4.out hb5)) (fl_of hrow (by omega)))
        have HB5 := Lib.hid (below_chain HB4.out hb5)
        clear hrow hb5 HQ2 HC1
        go_wp2_with fail
        refine HX2.out.mono ?_
        rintro e w6 ⟨rfl, hb6⟩
        have HB6 := Lib.hid (below_chain HB5.out hb6)
        clear hb6 HX2 HB5 HB4
        go_wp2_with fail
        refine (HR1.out w6).mono ?_
        rintro e w7 ⟨pa, ca, rfl, hfa, hla, hwa, hb7⟩
        have BX := (⟨Has.new w7 _ _⟩ : HBox (w7.alloc (.cells (hc h1 (.slice pa h1.fields.length ca)) 25)) w7.heap.size h1 (.slice pa h1.fields.length ca))
        have hal := (Below.refl w7.heap.size w7).alloc (Nat.le_refl _) (.cells (hc h1 (.slice pa h1.fields.length ca)) 25)
        have Q1 : Hid (FL (w7.alloc (.cells (hc h1 (.slice pa h1.fields.length ca)) 25)) (.slice pa h1.fields.length ca) h1.fields ∧ HBox (w7.alloc (.cells (hc h1 (.slice pa h1.fields.length ca)) 25)) w7.heap.size h1 (.slice pa h1.fields.length ca) ∧ w7.heap.size < (w7.alloc (.cells (hc h1 (.slice pa h1.fields.length ca)) 25)).heap.size ∧ Below w.heap.size w (w7.alloc (.cells (hc h1 (.slice pa h1.fields.length ca)) 25))) := Lib.hid
          ⟨hfa.below hal, BX, by simp, below_chain (below_chain HB6.out hb7) hal⟩
        have HWa := Lib.hid (And.intro hwa hla)
        clear BX hal hfa hb7 HR1 HB6 hwa hla
        unfold hc at Q1
        go_wp2_with fail
        generalize w7.alloc (.cells #[.string (ofL h1.method), .string (ofL h1.target), .int .i64 h1.status, .string (ofL h1.reason), .int .i64 h1.minor, .slice pa h1.fields.length ca] 25) = W7 at Q1 ⊢
        generalize w7.heap.size = gA at Q1 ⊢
        refine (HR2.out W7).mono ?_
        rintro e w8 ⟨pb, cb, rfl, hfb, hlb, hwb, hb8⟩
        have HQ : Hid (Q w gA (.slice pl G.length cl) (.slice pa h1.fields.length ca) (.slice pb h2.fields.length cb) G [] h1 h2 w8) := Lib.hid
          ⟨HF.out.below (below_chain Q1.out.2.2.2 hb8), Q1.out.1.below hb8, hfb, Q1.out.2.1.below hb8 Q1.out.2.2.1, Nat.lt_of_lt_of_le Q1.out.2.2.1 hb8.size, below_chain Q1.out.2.2.2 hb8⟩
        have HWb := Lib.hid (And.intro hwb hlb)
        clear hfb hb8 HR2 Q1 hwb hlb
        have Q2 := HQ.out.call ((Below.refl w8.heap.size w8).alloc (Nat.le_refl _) (.cells #[.string (ofL h2.method), .string (ofL h2.target), .int .i64 h2.status, .string (ofL h2.reason), .int .i64 h2.minor, .slice pb h2.fields.length cb] 25))
        obtain ⟨k0, k1, k2, k3, k4, k5⟩ := Q2.bx.cells
        have bx2 := (Has.new w8 25 #[.string (ofL h2.method), .string (ofL h2.target), .int .i64 h2.status, .string (ofL h2.reason), .int .i64 h2.minor, .slice pb h2.fields.length cb]).cell
        have j0 := bx2 0
        have j1 := bx2 1
        have j2 := bx2 2
        have j3 := bx2 3
        have j4 := bx2 4
        have j5 := bx2 5
        have HQ2 := Lib.hid Q2
        clear HQ Q2 bx2
        go_wp2_with fail
        have I0 := idxa h1 h2 pa pb h1.fields.length h2.fields.length ca cb
        have I1 := idxb h1 h2 pa pb h1.fields.length h2.fields.length ca cb
        unfold A12 hv at I0 I1
        clear k0 k1 k2 k3 k4 k5 j0 j1 j2 j3 j4 j5
        go_loopw [103] (fun i wr => (i = .int .i64 0 ∨ i = .int .i64 1 ∨ i = .int .i64 2) ∧ Hid (Q w gA (.slice pl G.length cl) (.slice pa h1.fields.length ca) (.slice pb h2.fields.length cb) G [] h1 h2 wr)) (fun i _ => 2 - (intOf i).toNat)
        case atStart => exact ⟨.inl rfl, HQ2⟩
        case round =>
          clear HQ2
          rcases hrel with ⟨rfl | rfl | rfl, HJ⟩
          · have HR0 : Hid (R w gA wr.heap.size (.slice pl G.length cl) (.slice pa h1.fields.length ca) (.slice pb h2.fields.length cb) (.slice pa h1.fields.length ca) G [] h1 h2 h1 (wr.alloc (.cells (hc h1 (.slice pa h1.fields.length ca)) 25))) := Lib.hid (R.new (v := .slice pa h1.fields.length ca) (h := h1) HJ.out (Q.l1 HJ.out))
            unfold hc at HR0
            clear HJ
            go_wp2_with fail
            generalize wr.alloc (.cells #[.string (ofL h1.method), .string (ofL h1.target), .int .i64 h1.status, .string (ofL h1.reason), .int .i64 h1.minor, .slice pa h1.fields.length ca] 25) = WA at HR0 ⊢
            generalize wr.heap.size = gh at HR0 ⊢
            go_loopw [108] (fun i wr => ∃ (j : Nat), j ≤ G.length ∧ i = .int .i64 j ∧ Hid (R w gA gh (.slice pl G.length cl) (.slice pa h1.fields.length ca) (.slice pb h2.fields.length cb) (.slice pa h1.fields.length ca) G [] h1 h2 h1 wr)) (fun i _ => G.length - (intOf i).toNat)
            case atStart => exact ⟨0, Nat.zero_le _, rfl, HR0⟩
            case round =>
              obtain ⟨j, hj, rfl, HM2⟩ := hrel
              clear HR0
              by_cases hlt : j < G.length
              · obtain ⟨_, _, he9, -, hcell⟩ := HM2.out.q.fl
                injection he9 with e1 e2 e3
                subst e1
                subst e3
                obtain ⟨g, o, rfl, hgl, hcell2⟩ := hcell (by omega)
                obtain ⟨c1, c2⟩ := hcell2 j hlt
                have hji : (j : Int) < (G.length : Int) := by omega
                have hrt := HR.out.1 G[j] (List.getElem_mem hlt)
                obtain ⟨f, hf⟩ : ∃ f, f = G[j] := ⟨_, rfl⟩
                rw [← hf] at c1 c2 hrt
                have hrl := right_len hrt
                have htk := right_token hrt
                have bal := (Below.refl wr.heap.size wr).alloc (Nat.le_refl _) (.cells #[.string (ofL f.1), .string (ofL f.2)] 36)
                have R2 := HM2.out.call bal
                have d0 := (Has.new wr 36 #[.string (ofL f.1), .string (ofL f.2)]).cell 0
                have b5 := R2.box.cells.2.2.2.2.2
                have hsz : wr.heap.size < (wr.alloc (.cells #[.string (ofL f.1), .string (ofL f.2)] 36)).heap.size := by simp
                have HGt := R7Get.rget_any (.slice pa h1.fields.length ca) h1.fields (ofL f.1) (by rw [ofL_size]; omega) HWa.out.1 _ R2.list
                rw [toL_ofL] at HGt
                have HG1 := Lib.hid HGt
                have HO := Lib.hid (fun w' h => R7One.r7one_any (.slice (some ⟨g, o, none⟩) G.length cl) G (ofL f.1) (by rw [ofL_size]; omega) HG.out hle w' h)
                rw [toL_ofL] at HO
                have HW := Lib.hid (fun w' => L13Own.own_any f.1 htk (by omega) true w')
                have HS := Lib.hid (fun h1 h2 => HY1.out.1.strip f.1 h1 h2)
                have hgn := Lib.hid (getN_le h1.fields f.1)
                have RH := Lib.hid R2
                clear hcell hcell2 e2 hgl hf hrt hrl htk bal R2 HGt HM2
                have hgn2 := hgn.out
                obtain ⟨m, hm0⟩ : ∃ m, m = getN h1.fields f.1 := ⟨_, rfl⟩
                have HMm := Lib.hid hm0
                rw [← hm0] at HG1 HS hgn2
                clear hm0 hgn
                have hml : (m : Int) ≤ 32 := by have := HWa.out.2; omega
                clear hgn2
                go_wp2_with fail
                refine HG1.out.mono ?_
                rintro e w10 ⟨rfl, hb10⟩
                have e0 := (hb10.cell (p := ⟨wr.heap.size, 0, none⟩) hsz).trans d0
                have hsz2 := Nat.lt_of_lt_of_le hsz hb10.size
                have R3 := RH.out.call hb10
                have HO1 := Lib.hid (HO.out w10 R3.q.fl)
                have RH3 := Lib.hid R3
                clear hb10 d0 hsz HG1 RH R3 HO b5 c1 c2
                cases ho : one G f.1 with
                | false =>
                  rw [ho] at HO1
                  clear ho HS HW
                  go_wp2_with fail
                  refine HO1.out.mono ?_
                  rintro e w11 ⟨rfl, hb11⟩
                  have RH4 := Lib.hid (RH3.out.call hb11)
                  clear hb11 HO1 RH3 e0 hsz2
                  go_wp2_with fail
                  go_roundw
                  case rel => exact ⟨j + 1, by omega, by go_num, RH4⟩
                  case measure => simp [intOf]; omega
                | true =>
                  rw [ho] at HO1
                  have HS1 := Lib.hid (HS.out ho)
                  clear ho HS
                  by_cases hm1 : m = 0
                  · subst hm1
                    clear HS1 HW
                    go_wp2_with fail
                    refine HO1.out.mono ?_
                    rintro e w11 ⟨rfl, hb11⟩
                    have RH4 := Lib.hid (RH3.out.call hb11)
                    clear hb11 HO1 RH3 e0 hsz2
                    go_wp2_with fail
                    go_roundw
                    case rel => exact ⟨j + 1, by omega, by go_num, RH4⟩
                    case measure => simp [intOf]; omega
                  · have hmi : ((m : Int) != 0) = true := by simp [hm1]
                    have hown : L13Own.ownB f.1 true = true := by
                      rw [ownB_own f.1 true [119, 115] rfl]
                      cases hx : own f.1 [119, 115] with
                      | true => rfl
                      | false => exact absurd (HS1.out hx) hm1
                    rw [hown] at HW
                    clear HS1 hown hm1
                    go_wp2_with fail
                    refine HO1.out.mono ?_
                    rintro e w11 ⟨rfl, hb11⟩
                    have e1 := (hb11.cell (p := ⟨wr.heap.size, 0, none⟩) hsz2).trans e0
                    have RH4 := Lib.hid (RH3.out.call hb11)
                    have HW1 := Lib.hid (HW.out w11)
                    clear hb11 HO1 RH3 e0 hsz2 HW
                    go_wp2_with fail
                    refine HW1.out.mono ?_
                    rintro e w12 ⟨rfl, hb12⟩
                    have RH5 := Lib.hid (RH4.out.call hb12)
                    clear hb12 HW1 RH4 e1
                    go_wp2_with fail
                    go_roundw
                    case rel => exact ⟨j + 1, by omega, by go_num, RH5⟩
                    case measure => simp [intOf]; omega
              · have hji : ¬ (j : Int) < (G.length : Int) := by omega
                have b5 := HM2.out.box.cells.2.2.2.2.2
                have K1 := R7Get.rget_any (.slice pa h1.fields.length ca) h1.fields ⟨#[99, 111, 110, 110, 101, 99, 116, 105, 111, 110]⟩ (by decide) HWa.out.1 wr HM2.out.list
                have K2 := Lib.hid (fun w' h => R7Get.rget_any (.slice pa h1.fields.length ca) h1.fields ⟨#[99, 111, 110, 116, 101, 110, 116, 45, 108, 101, 110, 103, 116, 104]⟩ (by decide) HWa.out.1 w' h)
                have K3 := Lib.hid (fun w' h => R7Get.rget_any (.slice pa h1.fields.length ca) h1.fields ⟨#[118, 105, 97]⟩ (by decide) HWa.out.1 w' h)
                rw [show toL ⟨#[99, 111, 110, 110, 101, 99, 116, 105, 111, 110]⟩ = [99, 111, 110, 110, 101, 99, 116, 105, 111, 110] from rfl, HY1.out.1.conn, if_neg (by decide)] at K1
                rw [show toL ⟨#[99, 111, 110, 116, 101, 110, 116, 45, 108, 101, 110, 103, 116, 104]⟩ = [99, 111, 110, 116, 101, 110, 116, 45, 108, 101, 110, 103, 116, 104] from rfl, HY1.out.1.len] at K2
                rw [show toL ⟨#[118, 105, 97]⟩ = [118, 105, 97] from rfl, HY1.out.1.via] at K3
                have K1 := Lib.hid K1
                clear hlt
                go_wp2_with fail
                refine K1.out.mono ?_
                rintro e w13 ⟨rfl, hb13⟩
                have R3 := HM2.out.call hb13
                have b6 := R3.box.cells.2.2.2.2.2
                have K4 := Lib.hid (K2.out w13 R3.list)
                have RH3 := Lib.hid R3
                clear hb13 K1 K2 R3 HM2 b5
                go_wp2_with fail
                refine K4.out.mono ?_
                rintro e w14 ⟨rfl, hb14⟩
                have R3 := RH3.out.call hb14
                have b7 := R3.box.cells.2.2.2.2.2
                have K5 := Lib.hid (K3.out w14 R3.list)
                have RH4 := Lib.hid R3
                clear hb14 K4 K3 R3 RH3 b6
                go_wp2_with fail
                refine K5.out.mono ?_
                rintro e w15 ⟨rfl, hb15⟩
                have HQ9 := Lib.hid (RH4.out.call hb15).q
                clear hb15 K5 RH4 b7
                go_wp2_with fail
                go_roundw
                case rel => exact ⟨.inr (.inl (by go_num)), HQ9⟩
                case measure => simp [intOf]
          · have HR0 : Hid (R w gA wr.heap.size (.slice pl G.length cl) (.slice pa h1.fields.length ca) (.slice pb h2.fields.length cb) (.slice pb h2.fields.length cb) G [] h1 h2 h2 (wr.alloc (.cells (hc h2 (.slice pb h2.fields.length cb)) 25))) := Lib.hid (R.new (v := .slice pb h2.fields.length cb) (h := h2) HJ.out (Q.l2 HJ.out))
            unfold hc at HR0
            clear HJ
            go_wp2_with fail
            generalize wr.alloc (.cells #[.string (ofL h2.method), .string (ofL h2.target), .int .i64 h2.status, .string (ofL h2.reason), .int .i64 h2.minor, .slice pb h2.fields.length cb] 25) = WA at HR0 ⊢
            generalize wr.heap.size = gh at HR0 ⊢
            go_loopw [108] (fun i wr => ∃ (j : Nat), j ≤ G.length ∧ i = .int .i64 j ∧ Hid (R w gA gh (.slice pl G.length cl) (.slice pa h1.fields.length ca) (.slice pb h2.fields.length cb) (.slice pb h2.fields.length cb) G [] h1 h2 h2 wr)) (fun i _ => G.length - (intOf i).toNat)
            case atStart => exact ⟨0, Nat.zero_le _, rfl, HR0⟩
            case round =>
              obtain ⟨j, hj, rfl, HM2⟩ := hrel
              clear HR0
              by_cases hlt : j < G.length
              · obtain ⟨_, _, he9, -, hcell⟩ := HM2.out.q.fl
                injection he9 with e1 e2 e3
                subst e1
                subst e3
                obtain ⟨g, o, rfl, hgl, hcell2⟩ := hcell (by omega)
                obtain ⟨c1, c2⟩ := hcell2 j hlt
                have hji : (j : Int) < (G.length : Int) := by omega
                have hrt := HR.out.1 G[j] (List.getElem_mem hlt)
                obtain ⟨f, hf⟩ : ∃ f, f = G[j] := ⟨_, rfl⟩
                rw [← hf] at c1 c2 hrt
                have hrl := right_len hrt
                have htk := right_token hrt
                have bal := (Below.refl wr.heap.size wr).alloc (Nat.le_refl _) (.cells #[.string (ofL f.1), .string (ofL f.2)] 36)
                have R2 := HM2.out.call bal
                have d0 := (Has.new wr 36 #[.string (ofL f.1), .string (ofL f.2)]).cell 0
                have b5 := R2.box.cells.2.2.2.2.2
                have hsz : wr.heap.size < (wr.alloc (.cells #[.string (ofL f.1), .string (ofL f.2)] 36)).heap.size := by simp
                have HGt := R7Get.rget_any (.slice pb h2.fields.length cb) h2.fields (ofL f.1) (by rw [ofL_size]; omega) HWb.out.1 _ R2.list
                rw [toL_ofL] at HGt
                have HG1 := Lib.hid HGt
                have HO := Lib.hid (fun w' h => R7One.r7one_any (.slice (some ⟨g, o, none⟩) G.length cl) G (ofL f.1) (by rw [ofL_size]; omega) HG.out hle w' h)
                rw [toL_ofL] at HO
                have HW := Lib.hid (fun w' => L13Own.own_any f.1 htk (by omega) true w')
                have HS := Lib.hid (fun h1 h2 => HY2.out.strip f.1 h1 h2)
                have hgn := Lib.hid (getN_le h2.fields f.1)
                have RH := Lib.hid R2
                clear hcell hcell2 e2 hgl hf hrt hrl htk bal R2 HGt HM2
                have hgn2 := hgn.out
                obtain ⟨m, hm0⟩ : ∃ m, m = getN h2.fields f.1 := ⟨_, rfl⟩
                have HMm := Lib.hid hm0
                rw [← hm0] at HG1 HS hgn2
                clear hm0 hgn
                have hml : (m : Int) ≤ 32 := by have := HWb.out.2; omega
                clear hgn2
                go_wp2_with fail
                refine HG1.out.mono ?_
                rintro e w10 ⟨rfl, hb10⟩
                have e0 := (hb10.cell (p := ⟨wr.heap.size, 0, none⟩) hsz).trans d0
                have hsz2 := Nat.lt_of_lt_of_le hsz hb10.size
                have R3 := RH.out.call hb10
                have HO1 := Lib.hid (HO.out w10 R3.q.fl)
                have RH3 := Lib.hid R3
                clear hb10 d0 hsz HG1 RH R3 HO b5 c1 c2
                cases ho : one G f.1 with
                | false =>
                  rw [ho] at HO1
                  clear ho HS HW
                  go_wp2_with fail
                  refine HO1.out.mono ?_
                  rintro e w11 ⟨rfl, hb11⟩
                  have RH4 := Lib.hid (RH3.out.call hb11)
                  clear hb11 HO1 RH3 e0 hsz2
                  go_wp2_with fail
                  go_roundw
                  case rel => exact ⟨j + 1, by omega, by go_num, RH4⟩
                  case measure => simp [intOf]; omega
                | true =>
                  rw [ho] at HO1
                  have HS1 := Lib.hid (HS.out ho)
                  clear ho HS
                  by_cases hm1 : m = 0
                  · subst hm1
                    clear HS1 HW
                    go_wp2_with fail
                    refine HO1.out.mono ?_
                    rintro e w11 ⟨rfl, hb11⟩
                    have RH4 := Lib.hid (RH3.out.call hb11)
                    clear hb11 HO1 RH3 e0 hsz2
                    go_wp2_with fail
                    go_roundw
                    case rel => exact ⟨j + 1, by omega, by go_num, RH4⟩
                    case measure => simp [intOf]; omega
                  · have hmi : ((m : Int) != 0) = true := by simp [hm1]
                    have hown : L13Own.ownB f.1 true = true := by
                      rw [ownB_own f.1 true [119, 115] rfl]
                      cases hx : own f.1 [119, 115] with
                      | true => rfl
                      | false => exact absurd (HS1.out hx) hm1
                    rw [hown] at HW
                    clear HS1 hown hm1
                    go_wp2_with fail
                    refine HO1.out.mono ?_
                    rintro e w11 ⟨rfl, hb11⟩
                    have e1 := (hb11.cell (p := ⟨wr.heap.size, 0, none⟩) hsz2).trans e0
                    have RH4 := Lib.hid (RH3.out.call hb11)
                    have HW1 := Lib.hid (HW.out w11)
                    clear hb11 HO1 RH3 e0 hsz2 HW
                    go_wp2_with fail
                    refine HW1.out.mono ?_
                    rintro e w12 ⟨rfl, hb12⟩
                    have RH5 := Lib.hid (RH4.out.call hb12)
                    clear hb12 HW1 RH4 e1
                    go_wp2_with fail
                    go_roundw
                    case rel => exact ⟨j + 1, by omega, by go_num, RH5⟩
                    case measure => simp [intOf]; omega
              · have hji : ¬ (j : Int) < (G.length : Int) := by omega
                have b5 := HM2.out.box.cells.2.2.2.2.2
                have K1 := R7Get.rget_any (.slice pb h2.fields.length cb) h2.fields ⟨#[99, 111, 110, 110, 101, 99, 116, 105, 111, 110]⟩ (by decide) HWb.out.1 wr HM2.out.list
                have K2 := Lib.hid (fun w' h => R7Get.rget_any (.slice pb h2.fields.length cb) h2.fields ⟨#[99, 111, 110, 116, 101, 110, 116, 45, 108, 101, 110, 103, 116, 104]⟩ (by decide) HWb.out.1 w' h)
                have K3 := Lib.hid (fun w' h => R7Get.rget_any (.slice pb h2.fields.length cb) h2.fields ⟨#[118, 105, 97]⟩ (by decide) HWb.out.1 w' h)
                rw [show toL ⟨#[99, 111, 110, 110, 101, 99, 116, 105, 111, 110]⟩ = [99, 111, 110, 110, 101, 99, 116, 105, 111, 110] from rfl, HY2.out.conn, if_neg (by decide)] at K1
                rw [show toL ⟨#[99, 111, 110, 116, 101, 110, 116, 45, 108, 101, 110, 103, 116, 104]⟩ = [99, 111, 110, 116, 101, 110, 116, 45, 108, 101, 110, 103, 116, 104] from rfl, HY2.out.len] at K2
                rw [show toL ⟨#[118, 105, 97]⟩ = [118, 105, 97] from rfl, HY2.out.via] at K3
                have K1 := Lib.hid K1
                clear hlt
                go_wp2_with fail
                refine K1.out.mono ?_
                rintro e w13 ⟨rfl, hb13⟩
                have R3 := HM2.out.call hb13
                have b6 := R3.box.cells.2.2.2.2.2
                have K4 := Lib.hid (K2.out w13 R3.list)
                have RH3 := Lib.hid R3
                clear hb13 K1 K2 R3 HM2 b5
                go_wp2_with fail
                refine K4.out.mono ?_
                rintro e w14 ⟨rfl, hb14⟩
                have R3 := RH3.out.call hb14
                have b7 := R3.box.cells.2.2.2.2.2
                have K5 := Lib.hid (K3.out w14 R3.list)
                have RH4 := Lib.hid R3
                clear hb14 K4 K3 R3 RH3 b6
                go_wp2_with fail
                refine K5.out.mono ?_
                rintro e w15 ⟨rfl, hb15⟩
                have HQ9 := Lib.hid (RH4.out.call hb15).q
                clear hb15 K5 RH4 b7
                go_wp2_with fail
                go_roundw
                case rel => exact ⟨.inr (.inr (by go_num)), HQ9⟩
                case measure => simp [intOf]
          · have b5 := HJ.out.bx.cells.2.2.2.2.2
            have K1 := R7Get.rget_any (.slice pa h1.fields.length ca) h1.fields ⟨#[104, 111, 115, 116]⟩ (by decide) HWa.out.1 wr HJ.out.l1
            rw [show toL ⟨#[104, 111, 115, 116]⟩ = [104, 111, 115, 116] from rfl, HY1.out.2] at K1
            have K2 := Lib.hid K1
            clear K1
            go_wp2_with fail
            refine K2.out.mono ?_
            rintro e w13 ⟨rfl, hb13⟩
            have HB9 := Lib.hid (below_chain HJ.out.below hb13)
            clear hb13 K2 b5
            go_wp2_with fail
            go_ret
            exact ⟨rfl, HB9.out⟩
      | false =>
        obtain ⟨R1, R2⟩ := (HKey.out [] (by decide) (by decide)).out
        obtain ⟨D1, D2⟩ := (HBd.out [] (by decide)).out
        have hfa := fit_ask (u := []) HG.out hle (by decide)
        have hfr := fit_reply (u := []) HG.out hle (by decide)
        have HQ1 := Lib.hid (fun v w' m p h => PEmReq.request_any (askS G []) v hfa w' m p h)
        have HQ2 := Lib.hid (fun v w' m p h => PEmHead.head_any (replyS G []) v hfr w' m p h)
        obtain ⟨S1, hS1⟩ : ∃ S1, S1 = ofL (requestE (askS G [])) := ⟨_, rfl⟩
        obtain ⟨S2, hS2⟩ : ∃ S2, S2 = ofL (headE (replyS G [])) := ⟨_, rfl⟩
        have t1 : toL S1 = requestE (askS G []) := by rw [hS1, toL_ofL]
        have t2 : toL S2 = headE (replyS G []) := by rw [hS2, toL_ofL]
        rw [← t1, toL_length] at R1
        rw [← t2, toL_length] at R2
        rw [← hS1] at HQ1 D1
        rw [← hS2] at HQ2 D2
        have F1 : (H1 G []).fields = A1 G [] := rfl
        have F2 : (H2 G []).fields = A2 G [] := rfl
        have Y1 := says_ask G []
        have Y2 := says_reply G []
        rw [← F1] at Y1
        rw [← F2] at Y2
        have HR1 := Lib.hid (fun w' => read_whole S1 D1 false _ R1 w')
        have HR2 := Lib.hid (fun w' => read_whole S2 D2 true _ R2 w')
        have HY1 := Lib.hid Y1
        have HY2 := Lib.hid Y2
        have HC1 := Lib.hid (fun w' h => copied_any (.slice pl G.length cl) G (by omega) HY.out w' h)
        clear R1 R2 D1 D2 hfa hfr hS1 hS2 t1 t2 F1 F2 Y1 Y2 HKey HBd
        generalize H1 G [] = h1 at *
        generalize H2 G [] = h2 at *
        unfold PEmReq.acells askS at HQ1
        unfold PEmHead.rcells replyS at HQ2
        go_wp2_with fail
        refine (HC1.out wr (HF.out.below HB.out)).mono ?_
        rintro e w3 ⟨v2, rfl, hrow, hb3⟩
        obtain ⟨p2, c2, rfl, -, -⟩ := id (fl_of hrow (by omega))
        have HX1 := Lib.hid (HQ1.out _ w3 (HM.out.below (below_chain HB.out hb3)) (HP.out.below (below_chain HB.out hb3)) (fl_of hrow (by omega)))
        have HB3 := Lib.hid (below_chain HB.out hb3)
        clear hrow hb3 HQ1
        go_wp2_with fail
        refine HX1.out.mono ?_
        rintro e w4 ⟨rfl, hb4⟩
        have HB4 := Lib.hid (below_chain HB3.out hb4)
        clear hb4 HX1 HB3
        go_wp2_with fail
        refine (HC1.out w4 (HF.out.below HB4.out)).mono ?_
        rintro e w5 ⟨v3, rfl, hrow, hb5⟩
        obtain ⟨p3, c3, rfl, -, -⟩ := id (fl_of hrow (by omega))
        have HX2 := Lib.hid (HQ2.out _ w5 (HM.out.below (below_chain HB4.out hb5)) (HP.out.below (below_chain HB4.out hb5)) (fl_of hrow (by omega)))
        have HB5 := Lib.hid (below_chain HB4.out hb5)
        clear hrow hb5 HQ2 HC1
        go_wp2_with fail
        refine HX2.out.mono ?_
        rintro e w6 ⟨rfl, hb6⟩
        have HB6 := Lib.hid (below_chain HB5.out hb6)
        clear hb6 HX2 HB5 HB4
        go_wp2_with fail
        refine (HR1.out w6).mono ?_
        rintro e w7 ⟨pa, ca, rfl, hfa, hla, hwa, hb7⟩
        have BX := (⟨Has.new w7 _ _⟩ : HBox (w7.alloc (.cells (hc h1 (.slice pa h1.fields.length ca)) 25)) w7.heap.size h1 (.slice pa h1.fields.length ca))
        have hal := (Below.refl w7.heap.size w7).alloc (Nat.le_refl _) (.cells (hc h1 (.slice pa h1.fields.length ca)) 25)
        have Q1 : Hid (FL (w7.alloc (.cells (hc h1 (.slice pa h1.fields.length ca)) 25)) (.slice pa h1.fields.length ca) h1.fields ∧ HBox (w7.alloc (.cells (hc h1 (.slice pa h1.fields.length ca)) 25)) w7.heap.size h1 (.slice pa h1.fields.length ca) ∧ w7.heap.size < (w7.alloc (.cells (hc h1 (.slice pa h1.fields.length ca)) 25)).heap.size ∧ Below w.heap.size w (w7.alloc (.cells (hc h1 (.slice pa h1.fields.length ca)) 25))) := Lib.hid
          ⟨hfa.below hal, BX, by simp, below_chain (below_chain HB6.out hb7) hal⟩
        have HWa := Lib.hid (And.intro hwa hla)
        clear BX hal hfa hb7 HR1 HB6 hwa hla
        unfold hc at Q1
        go_wp2_with fail
        generalize w7.alloc (.cells #[.string (ofL h1.method), .string (ofL h1.target), .int .i64 h1.status, .string (ofL h1.reason), .int .i64 h1.minor, .slice pa h1.fields.length ca] 25) = W7 at Q1 ⊢
        generalize w7.heap.size = gA at Q1 ⊢
        refine (HR2.out W7).mono ?_
        rintro e w8 ⟨pb, cb, rfl, hfb, hlb, hwb, hb8⟩
        have HQ : Hid (Q w gA (.slice pl G.length cl) (.slice pa h1.fields.length ca) (.slice pb h2.fields.length cb) G [] h1 h2 w8) := Lib.hid
          ⟨HF.out.below (below_chain Q1.out.2.2.2 hb8), Q1.out.1.below hb8, hfb, Q1.out.2.1.below hb8 Q1.out.2.2.1, Nat.lt_of_lt_of_le Q1.out.2.2.1 hb8.size, below_chain Q1.out.2.2.2 hb8⟩
        have HWb := Lib.hid (And.intro hwb hlb)
        clear hfb hb8 HR2 Q1 hwb hlb
        have Q2 := HQ.out.call ((Below.refl w8.heap.size w8).alloc (Nat.le_refl _) (.cells #[.string (ofL h2.method), .string (ofL h2.target), .int .i64 h2.status, .string (ofL h2.reason), .int .i64 h2.minor, .slice pb h2.fields.length cb] 25))
        obtain ⟨k0, k1, k2, k3, k4, k5⟩ := Q2.bx.cells
        have bx2 := (Has.new w8 25 #[.string (ofL h2.method), .string (ofL h2.target), .int .i64 h2.status, .string (ofL h2.reason), .int .i64 h2.minor, .slice pb h2.fields.length cb]).cell
        have j0 := bx2 0
        have j1 := bx2 1
        have j2 := bx2 2
        have j3 := bx2 3
        have j4 := bx2 4
        have j5 := bx2 5
        have HQ2 := Lib.hid Q2
        clear HQ Q2 bx2
        go_wp2_with fail
        have I0 := idxa h1 h2 pa pb h1.fields.length h2.fields.length ca cb
        have I1 := idxb h1 h2 pa pb h1.fields.length h2.fields.length ca cb
        unfold A12 hv at I0 I1
        clear k0 k1 k2 k3 k4 k5 j0 j1 j2 j3 j4 j5
        go_loopw [103] (fun i wr => (i = .int .i64 0 ∨ i = .int .i64 1 ∨ i = .int .i64 2) ∧ Hid (Q w gA (.slice pl G.length cl) (.slice pa h1.fields.length ca) (.slice pb h2.fields.length cb) G [] h1 h2 wr)) (fun i _ => 2 - (intOf i).toNat)
        case atStart => exact ⟨.inl rfl, HQ2⟩
        case round =>
          clear HQ2
          rcases hrel with ⟨rfl | rfl | rfl, HJ⟩
          · have HR0 : Hid (R w gA wr.heap.size (.slice pl G.length cl) (.slice pa h1.fields.length ca) (.slice pb h2.fields.length cb) (.slice pa h1.fields.length ca) G [] h1 h2 h1 (wr.alloc (.cells (hc h1 (.slice pa h1.fields.length ca)) 25))) := Lib.hid (R.new (v := .slice pa h1.fields.length ca) (h := h1) HJ.out (Q.l1 HJ.out))
            unfold hc at HR0
            clear HJ
            go_wp2_with fail
            generalize wr.alloc (.cells #[.string (ofL h1.method), .string (ofL h1.target), .int .i64 h1.status, .string (ofL h1.reason), .int .i64 h1.minor, .slice pa h1.fields.length ca] 25) = WA at HR0 ⊢
            generalize wr.heap.size = gh at HR0 ⊢
            go_loopw [108] (fun i wr => ∃ (j : Nat), j ≤ G.length ∧ i = .int .i64 j ∧ Hid (R w gA gh (.slice pl G.length cl) (.slice pa h1.fields.length ca) (.slice pb h2.fields.length cb) (.slice pa h1.fields.length ca) G [] h1 h2 h1 wr)) (fun i _ => G.length - (intOf i).toNat)
            case atStart => exact ⟨0, Nat.zero_le _, rfl, HR0⟩
            case round =>
              obtain ⟨j, hj, rfl, HM2⟩ := hrel
              clear HR0
              by_cases hlt : j < G.length
              · obtain ⟨_, _, he9, -, hcell⟩ := HM2.out.q.fl
                injection he9 with e1 e2 e3
                subst e1
                subst e3
                obtain ⟨g, o, rfl, hgl, hcell2⟩ := hcell (by omega)
                obtain ⟨c1, c2⟩ := hcell2 j hlt
                have hji : (j : Int) < (G.length : Int) := by omega
                have hrt := HR.out.1 G[j] (List.getElem_mem hlt)
                obtain ⟨f, hf⟩ : ∃ f, f = G[j] := ⟨_, rfl⟩
                rw [← hf] at c1 c2 hrt
                have hrl := right_len hrt
                have htk := right_token hrt
                have bal := (Below.refl wr.heap.size wr).alloc (Nat.le_refl _) (.cells #[.string (ofL f.1), .string (ofL f.2)] 36)
                have R2 := HM2.out.call bal
                have d0 := (Has.new wr 36 #[.string (ofL f.1), .string (ofL f.2)]).cell 0
                have b5 := R2.box.cells.2.2.2.2.2
                have hsz : wr.heap.size < (wr.alloc (.cells #[.string (ofL f.1), .string (ofL f.2)] 36)).heap.size := by simp
                have HGt := R7Get.rget_any (.slice pa h1.fields.length ca) h1.fields (ofL f.1) (by rw [ofL_size]; omega) HWa.out.1 _ R2.list
                rw [toL_ofL] at HGt
                have HG1 := Lib.hid HGt
                have HO := Lib.hid (fun w' h => R7One.r7one_any (.slice (some ⟨g, o, none⟩) G.length cl) G (ofL f.1) (by rw [ofL_size]; omega) HG.out hle w' h)
                rw [toL_ofL] at HO
                have HW := Lib.hid (fun w' => L13Own.own_any f.1 htk (by omega) false w')
                have HS := Lib.hid (fun h1 h2 => HY1.out.1.strip f.1 h1 h2)
                have hgn := Lib.hid (getN_le h1.fields f.1)
                have RH := Lib.hid R2
                clear hcell hcell2 e2 hgl hf hrt hrl htk bal R2 HGt HM2
                have hgn2 := hgn.out
                obtain ⟨m, hm0⟩ : ∃ m, m = getN h1.fields f.1 := ⟨_, rfl⟩
                have HMm := Lib.hid hm0
                rw [← hm0] at HG1 HS hgn2
                clear hm0 hgn
                have hml : (m : Int) ≤ 32 := by have := HWa.out.2; omega
                clear hgn2
                go_wp2_with fail
                refine HG1.out.mono ?_
                rintro e w10 ⟨rfl, hb10⟩
                have e0 := (hb10.cell (p := ⟨wr.heap.size, 0, none⟩) hsz).trans d0
                have hsz2 := Nat.lt_of_lt_of_le hsz hb10.size
                have R3 := RH.out.call hb10
                have HO1 := Lib.hid (HO.out w10 R3.q.fl)
                have RH3 := Lib.hid R3
                clear hb10 d0 hsz HG1 RH R3 HO b5 c1 c2
                cases ho : one G f.1 with
                | false =>
                  rw [ho] at HO1
                  clear ho HS HW
                  go_wp2_with fail
                  refine HO1.out.mono ?_
                  rintro e w11 ⟨rfl, hb11⟩
                  have RH4 := Lib.hid (RH3.out.call hb11)
                  clear hb11 HO1 RH3 e0 hsz2
                  go_wp2_with fail
                  go_roundw
                  case rel => exact ⟨j + 1, by omega, by go_num, RH4⟩
                  case measure => simp [intOf]; omega
                | true =>
                  rw [ho] at HO1
                  have HS1 := Lib.hid (HS.out ho)
                  clear ho HS
                  by_cases hm1 : m = 0
                  · subst hm1
                    clear HS1 HW
                    go_wp2_with fail
                    refine HO1.out.mono ?_
                    rintro e w11 ⟨rfl, hb11⟩
                    have RH4 := Lib.hid (RH3.out.call hb11)
                    clear hb11 HO1 RH3 e0 hsz2
                    go_wp2_with fail
                    go_roundw
                    case rel => exact ⟨j + 1, by omega, by go_num, RH4⟩
                    case measure => simp [intOf]; omega
                  · have hmi : ((m : Int) != 0) = true := by simp [hm1]
                    have hown : L13Own.ownB f.1 false = true := by
                      rw [ownB_own f.1 false [] rfl]
                      cases hx : own f.1 [] with
                      | true => rfl
                      | false => exact absurd (HS1.out hx) hm1
                    rw [hown] at HW
                    clear HS1 hown hm1
                    go_wp2_with fail
                    refine HO1.out.mono ?_
                    rintro e w11 ⟨rfl, hb11⟩
                    have e1 := (hb11.cell (p := ⟨wr.heap.size, 0, none⟩) hsz2).trans e0
                    have RH4 := Lib.hid (RH3.out.call hb11)
                    have HW1 := Lib.hid (HW.out w11)
                    clear hb11 HO1 RH3 e0 hsz2 HW
                    go_wp2_with fail
                    refine HW1.out.mono ?_
                    rintro e w12 ⟨rfl, hb12⟩
                    have RH5 := Lib.hid (RH4.out.call hb12)
                    clear hb12 HW1 RH4 e1
                    go_wp2_with fail
                    go_roundw
                    case rel => exact ⟨j + 1, by omega, by go_num, RH5⟩
                    case measure => simp [intOf]; omega
              · have hji : ¬ (j : Int) < (G.length : Int) := by omega
                have b5 := HM2.out.box.cells.2.2.2.2.2
                have K1 := R7Get.rget_any (.slice pa h1.fields.length ca) h1.fields ⟨#[99, 111, 110, 110, 101, 99, 116, 105, 111, 110]⟩ (by decide) HWa.out.1 wr HM2.out.list
                have K2 := Lib.hid (fun w' h => R7Get.rget_any (.slice pa h1.fields.length ca) h1.fields ⟨#[99, 111, 110, 116, 101, 110, 116, 45, 108, 101, 110, 103, 116, 104]⟩ (by decide) HWa.out.1 w' h)
                have K3 := Lib.hid (fun w' h => R7Get.rget_any (.slice pa h1.fields.length ca) h1.fields ⟨#[118, 105, 97]⟩ (by decide) HWa.out.1 w' h)
                rw [show toL ⟨#[99, 111, 110, 110, 101, 99, 116, 105, 111, 110]⟩ = [99, 111, 110, 110, 101, 99, 116, 105, 111, 110] from rfl, HY1.out.1.conn, if_pos rfl] at K1
                rw [show toL ⟨#[99, 111, 110, 116, 101, 110, 116, 45, 108, 101, 110, 103, 116, 104]⟩ = [99, 111, 110, 116, 101, 110, 116, 45, 108, 101, 110, 103, 116, 104] from rfl, HY1.out.1.len] at K2
                rw [show toL ⟨#[118, 105, 97]⟩ = [118, 105, 97] from rfl, HY1.out.1.via] at K3
                have K1 := Lib.hid K1
                clear hlt
                go_wp2_with fail
                refine K1.out.mono ?_
                rintro e w13 ⟨rfl, hb13⟩
                have R3 := HM2.out.call hb13
                have b6 := R3.box.cells.2.2.2.2.2
                have K4 := Lib.hid (K2.out w13 R3.list)
                have RH3 := Lib.hid R3
                clear hb13 K1 K2 R3 HM2 b5
                go_wp2_with fail
                refine K4.out.mono ?_
                rintro e w14 ⟨rfl, hb14⟩
                have R3 := RH3.out.call hb14
                have b7 := R3.box.cells.2.2.2.2.2
                have K5 := Lib.hid (K3.out w14 R3.list)
                have RH4 := Lib.hid R3
                clear hb14 K4 K3 R3 RH3 b6
                go_wp2_with fail
                refine K5.out.mono ?_
                rintro e w15 ⟨rfl, hb15⟩
                have HQ9 := Lib.hid (RH4.out.call hb15).q
                clear hb15 K5 RH4 b7
                go_wp2_with fail
                go_roundw
                case rel => exact ⟨.inr (.inl (by go_num)), HQ9⟩
                case measure => simp [intOf]
          · have HR0 : Hid (R w gA wr.heap.size (.slice pl G.length cl) (.slice pa h1.fields.length ca) (.slice pb h2.fields.length cb) (.slice pb h2.fields.length cb) G [] h1 h2 h2 (wr.alloc (.cells (hc h2 (.slice pb h2.fields.length cb)) 25))) := Lib.hid (R.new (v := .slice pb h2.fields.length cb) (h := h2) HJ.out (Q.l2 HJ.out))
            unfold hc at HR0
            clear HJ
            go_wp2_with fail
            generalize wr.alloc (.cells #[.string (ofL h2.method), .string (ofL h2.target), .int .i64 h2.status, .string (ofL h2.reason), .int .i64 h2.minor, .slice pb h2.fields.length cb] 25) = WA at HR0 ⊢
            generalize wr.heap.size = gh at HR0 ⊢
            go_loopw [108] (fun i wr => ∃ (j : Nat), j ≤ G.length ∧ i = .int .i64 j ∧ Hid (R w gA gh (.slice pl G.length cl) (.slice pa h1.fields.length ca) (.slice pb h2.fields.length cb) (.slice pb h2.fields.length cb) G [] h1 h2 h2 wr)) (fun i _ => G.length - (intOf i).toNat)
            case atStart => exact ⟨0, Nat.zero_le _, rfl, HR0⟩
            case round =>
              obtain ⟨j, hj, rfl, HM2⟩ := hrel
              clear HR0
              by_cases hlt : j < G.length
              · obtain ⟨_, _, he9, -, hcell⟩ := HM2.out.q.fl
                injection he9 with e1 e2 e3
                subst e1
                subst e3
                obtain ⟨g, o, rfl, hgl, hcell2⟩ := hcell (by omega)
                obtain ⟨c1, c2⟩ := hcell2 j hlt
                have hji : (j : Int) < (G.length : Int) := by omega
                have hrt := HR.out.1 G[j] (List.getElem_mem hlt)
                obtain ⟨f, hf⟩ : ∃ f, f = G[j] := ⟨_, rfl⟩
                rw [← hf] at c1 c2 hrt
                have hrl := right_len hrt
                have htk := right_token hrt
                have bal := (Below.refl wr.heap.size wr).alloc (Nat.le_refl _) (.cells #[.string (ofL f.1), .string (ofL f.2)] 36)
                have R2 := HM2.out.call bal
                have d0 := (Has.new wr 36 #[.string (ofL f.1), .string (ofL f.2)]).cell 0
                have b5 := R2.box.cells.2.2.2.2.2
                have hsz : wr.heap.size < (wr.alloc (.cells #[.string (ofL f.1), .string (ofL f.2)] 36)).heap.size := by simp
                have HGt := R7Get.rget_any (.slice pb h2.fields.length cb) h2.fields (ofL f.1) (by rw [ofL_size]; omega) HWb.out.1 _ R2.list
                rw [toL_ofL] at HGt
                have HG1 := Lib.hid HGt
                have HO := Lib.hid (fun w' h => R7One.r7one_any (.slice (some ⟨g, o, none⟩) G.length cl) G (ofL f.1) (by rw [ofL_size]; omega) HG.out hle w' h)
                rw [toL_ofL] at HO
                have HW := Lib.hid (fun w' => L13Own.own_any f.1 htk (by omega) false w')
                have HS := Lib.hid (fun h1 h2 => HY2.out.strip f.1 h1 h2)
                have hgn := Lib.hid (getN_le h2.fields f.1)
                have RH := Lib.hid R2
                clear hcell hcell2 e2 hgl hf hrt hrl htk bal R2 HGt HM2
                have hgn2 := hgn.out
                obtain ⟨m, hm0⟩ : ∃ m, m = getN h2.fields f.1 := ⟨_, rfl⟩
                have HMm := Lib.hid hm0
                rw [← hm0] at HG1 HS hgn2
                clear hm0 hgn
                have hml : (m : Int) ≤ 32 := by have := HWb.out.2; omega
                clear hgn2
                go_wp2_with fail
                refine HG1.out.mono ?_
                rintro e w10 ⟨rfl, hb10⟩
                have e0 := (hb10.cell (p := ⟨wr.heap.size, 0, none⟩) hsz).trans d0
                have hsz2 := Nat.lt_of_lt_of_le hsz hb10.size
                have R3 := RH.out.call hb10
                have HO1 := Lib.hid (HO.out w10 R3.q.fl)
                have RH3 := Lib.hid R3
                clear hb10 d0 hsz HG1 RH R3 HO b5 c1 c2
                cases ho : one G f.1 with
                | false =>
                  rw [ho] at HO1
                  clear ho HS HW
                  go_wp2_with fail
                  refine HO1.out.mono ?_
                  rintro e w11 ⟨rfl, hb11⟩
                  have RH4 := Lib.hid (RH3.out.call hb11)
                  clear hb11 HO1 RH3 e0 hsz2
                  go_wp2_with fail
                  go_roundw
                  case rel => exact ⟨j + 1, by omega, by go_num, RH4⟩
                  case measure => simp [intOf]; omega
                | true =>
                  rw [ho] at HO1
                  have HS1 := Lib.hid (HS.out ho)
                  clear ho HS
                  by_cases hm1 : m = 0
                  · subst hm1
                    clear HS1 HW
                    go_wp2_with fail
                    refine HO1.out.mono ?_
                    rintro e w11 ⟨rfl, hb11⟩
                    have RH4 := Lib.hid (RH3.out.call hb11)
                    clear hb11 HO1 RH3 e0 hsz2
                    go_wp2_with fail
                    go_roundw
                    case rel => exact ⟨j + 1, by omega, by go_num, RH4⟩
                    case measure => simp [intOf]; omega
                  · have hmi : ((m : Int) != 0) = true := by simp [hm1]
                    have hown : L13Own.ownB f.1 false = true := by
                      rw [ownB_own f.1 false [] rfl]
                      cases hx : own f.1 [] with
                      | true => rfl
                      | false => exact absurd (HS1.out hx) hm1
                    rw [hown] at HW
                    clear HS1 hown hm1
                    go_wp2_with fail
                    refine HO1.out.mono ?_
                    rintro e w11 ⟨rfl, hb11⟩
                    have e1 := (hb11.cell (p := ⟨wr.heap.size, 0, none⟩) hsz2).trans e0
                    have RH4 := Lib.hid (RH3.out.call hb11)
                    have HW1 := Lib.hid (HW.out w11)
                    clear hb11 HO1 RH3 e0 hsz2 HW
                    go_wp2_with fail
                    refine HW1.out.mono ?_
                    rintro e w12 ⟨rfl, hb12⟩
                    have RH5 := Lib.hid (RH4.out.call hb12)
                    clear hb12 HW1 RH4 e1
                    go_wp2_with fail
                    go_roundw
                    case rel => exact ⟨j + 1, by omega, by go_num, RH5⟩
                    case measure => simp [intOf]; omega
              · have hji : ¬ (j : Int) < (G.length : Int) := by omega
                have b5 := HM2.out.box.cells.2.2.2.2.2
                have K1 := R7Get.rget_any (.slice pb h2.fields.length cb) h2.fields ⟨#[99, 111, 110, 110, 101, 99, 116, 105, 111, 110]⟩ (by decide) HWb.out.1 wr HM2.out.list
                have K2 := Lib.hid (fun w' h => R7Get.rget_any (.slice pb h2.fields.length cb) h2.fields ⟨#[99, 111, 110, 116, 101, 110, 116, 45, 108, 101, 110, 103, 116, 104]⟩ (by decide) HWb.out.1 w' h)
                have K3 := Lib.hid (fun w' h => R7Get.rget_any (.slice pb h2.fields.length cb) h2.fields ⟨#[118, 105, 97]⟩ (by decide) HWb.out.1 w' h)
                rw [show toL ⟨#[99, 111, 110, 110, 101, 99, 116, 105, 111, 110]⟩ = [99, 111, 110, 110, 101, 99, 116, 105, 111, 110] from rfl, HY2.out.conn, if_pos rfl] at K1
                rw [show toL ⟨#[99, 111, 110, 116, 101, 110, 116, 45, 108, 101, 110, 103, 116, 104]⟩ = [99, 111, 110, 116, 101, 110, 116, 45, 108, 101, 110, 103, 116, 104] from rfl, HY2.out.len] at K2
                rw [show toL ⟨#[118, 105, 97]⟩ = [118, 105, 97] from rfl, HY2.out.via] at K3
                have K1 := Lib.hid K1
                clear hlt
                go_wp2_with fail
                refine K1.out.mono ?_
                rintro e w13 ⟨rfl, hb13⟩
                have R3 := HM2.out.call hb13
                have b6 := R3.box.cells.2.2.2.2.2
                have K4 := Lib.hid (K2.out w13 R3.list)
                have RH3 := Lib.hid R3
                clear hb13 K1 K2 R3 HM2 b5
                go_wp2_with fail
                refine K4.out.mono ?_
                rintro e w14 ⟨rfl, hb14⟩
                have R3 := RH3.out.call hb14
                have b7 := R3.box.cells.2.2.2.2.2
                have K5 := Lib.hid (K3.out w14 R3.list)
                have RH4 := Lib.hid R3
                clear hb14 K4 K3 R3 RH3 b6
                go_wp2_with fail
                refine K5.out.mono ?_
                rintro e w15 ⟨rfl, hb15⟩
                have HQ9 := Lib.hid (RH4.out.call hb15).q
                clear hb15 K5 RH4 b7
                go_wp2_with fail
                go_roundw
                case rel => exact ⟨.inr (.inr (by go_num)), HQ9⟩
                case measure => simp [intOf]
          · have b5 := HJ.out.bx.cells.2.2.2.2.2
            have K1 := R7Get.rget_any (.slice pa h1.fields.length ca) h1.fields ⟨#[104, 111, 115, 116]⟩ (by decide) HWa.out.1 wr HJ.out.l1
            rw [show toL ⟨#[104, 111, 115, 116]⟩ = [104, 111, 115, 116] from rfl, HY1.out.2] at K1
            have K2 := Lib.hid K1
            clear K1
            go_wp2_with fail
            refine K2.out.mono ?_
            rintro e w13 ⟨rfl, hb13⟩
            have HB9 := Lib.hid (below_chain HJ.out.below hb13)
            clear hb13 K2 b5
            go_wp2_with fail
            go_ret
            exact ⟨rfl, HB9.out⟩
theorem walk {H : Type} {enc : TypeId × Value → H} {W : World} {base : Nat} (v : Value) (d : DataW H) (p : List MemPlace) (hv : Value.okWide Tryz.prog W .any base 23 v)
    (hd : DataW.Trod enc Tryz.prog W 0 (fun _ => true) true 23 v d p) (hl : ∀ x ∈ p, x.block < W.heap.size) (hb : Rows.uptoBulk d ≤ 1048576) (up : Bool)
    (hsh : W.ShapedOpen Tryz.prog) (hlaid : laidMetH Tryz.prog Rows.emitStripsUptoRow.laid W) :
    Calls Tryz.prog 5 #[v, .bool up] W fun e w' => e = .returned (.bool true) ∧ Below W.heap.size W w' := by
  obtain ⟨G, hF, hG, hle, hy⟩ := FArg.fields_arg hv hd hb
  exact walkIn G v up hG hle hy W hF (MaxInt.of_shape hsh) (pow_of_laid rfl hlaid)
end Go.Proofs.YtblpooddamkfdaaGreatDoor.EmitStripsW
