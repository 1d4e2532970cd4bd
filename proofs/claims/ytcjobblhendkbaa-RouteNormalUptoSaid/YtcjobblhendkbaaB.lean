/- Texts of this seat, one behind another: PRouTake, PRouIdx, PRouFind. -/
import Derived.Shelf.Abstract
import Derived.OwnWalk
import Derived.Test.YtcjobblhendkbaaA3
import Derived.Test.YtcjobblhendkbaaA2
/- Layer 15 of the program: the closure of Find, whether a route takes a request. -/
namespace Go.Proofs.Ytcjobblhendkbaa.PRouTake
open Go.ChangeShapes Go.WideShapes Go.ChangeAt Go.RowKit Bytes Ret LexPure ConfPure ConfMem RouteFind FieldsPure Flds PValsW PRouLead PRouAsk Mem
set_option maxRecDepth 100000
set_option linter.unusedVariables false
set_option linter.unusedSimpArgs false
/-- the three variables that the closure reads -/
structure Cap (w : World) (bm bp bl : Nat) (m p : ByteArray) (v : Value) : Prop where
  cm : w.cell? ⟨bm, 0, none⟩ = some (.string m)
  cp : w.cell? ⟨bp, 0, none⟩ = some (.string p)
  cl : w.cell? ⟨bl, 0, none⟩ = some v
theorem Cap.below {w w' : World} {bm bp bl : Nat} {m p : ByteArray} {v : Value} (h : Cap w bm bp bl m p v) (hb : Below w.heap.size w w') : Cap w' bm bp bl m p v :=
  ⟨(hb.cell (p := ⟨bm, 0, none⟩) (World.block_lt_of_cell? _ _ h.cm)).trans h.cm, (hb.cell (p := ⟨bp, 0, none⟩) (World.block_lt_of_cell? _ _ h.cp)).trans h.cp, (hb.cell (p := ⟨bl, 0, none⟩) (World.block_lt_of_cell? _ _ h.cl)).trans h.cl⟩
/-- the route's box beside -/
structure Tk (w : World) (r : Rout) (bm bp bl : Nat) (m p : ByteArray) (v : Value) (G : List HField) (W : World) : Prop where
  box : Has W w.heap.size 39 (routA r)
  cap : Cap W bm bp bl m p v
  fl : FL W v G
  below : Below w.heap.size w W
theorem Tk.call {w W W' : World} {r : Rout} {bm bp bl : Nat} {m p : ByteArray} {v : Value} {G : List HField} (x : Tk w r bm bp bl m p v G W) (hb : Below W.heap.size W W') : Tk w r bm bp bl m p v G W' :=
  ⟨x.box.below hb x.box.lt, x.cap.below hb, x.fl.below hb, ⟨hb.os.trans x.below.os, hb.tape.trans x.below.tape, hb.output.trans x.below.output, Nat.le_trans x.below.size hb.size, fun i hi => (hb.block i (Nat.lt_trans hi x.box.lt)).trans (x.below.block i hi)⟩⟩
set_option maxHeartbeats 6400000 in
theorem ptake_any (r : Rout) (hr : r.path.length ≤ 9223372036854775807) (bm bp bl : Nat) (m p : ByteArray) (v : Value) (G : List HField) (hG : Wide G) (w : World) (hF : FL w v G) (hc : Cap w bm bp bl m p v) :
    Calls Try.prog 19 #[.agg (routA r), .pointer (some ⟨bm, 0, none⟩), .pointer (some ⟨bp, 0, none⟩), .pointer (some ⟨bl, 0, none⟩)] w fun e w' => e = .returned (.bool (takes15 r (toL m) (toL p) G)) ∧ Below w.heap.size w w' := by
  have HA := (Below.refl w.heap.size w).alloc (Nat.le_refl _) (.cells (routA r) 39)
  have HT0 : Tk w r bm bp bl m p v G (w.alloc (.cells (routA r) 39)) := ⟨Has.new _ _ _, hc.below HA, hF.below HA, HA⟩
  obtain ⟨pl, cap, rfl, hle, _⟩ := hF
  have HL := Lib.hid (fun w => pleads_any r p hr w)
  have HK := Lib.hid (fun w h => pasks_any r (.slice pl G.length cap) G hG w h)
  have HT := Lib.hid HT0
  have e1 : (w.alloc (.cells (routA r) 39)).cell? ⟨bm, 0, none⟩ = some (.string m) := HT0.cap.cm
  have e2 : (w.alloc (.cells (routA r) 39)).cell? ⟨bp, 0, none⟩ = some (.string p) := HT0.cap.cp
  have hq := text_eq (ofL r.method) m
  rw [toL_ofL] at hq
  rw [takes_say]
  unfold routA at HL HK HT e1 e2 ⊢
  obtain ⟨x, hx⟩ : ∃ x, x = (r.method == toL m) := ⟨_, rfl⟩
  obtain ⟨y, hy⟩ : ∃ y, y = (r.path == toL p || (r.pre && PathPure.under (toL p) r.path)) := ⟨_, rfl⟩
  obtain ⟨z, hz⟩ : ∃ z, z = askB r G := ⟨_, rfl⟩
  rw [← hx] at hq
  rw [← hx, ← hy, ← hz]
  rw [← hy] at HL
  rw [← hz] at HK
  clear HA HT0 hx hy hz hr hG hc
  have hs : ∀ b : Bool, (b && (y && z)) = (if b then (if y then z else false) else false) := by intro b; cases b <;> cases y <;> rfl
  rw [hs]
  clear hs

  by_cases h1 : r.method = []
  · rw [show (r.method == []) = true from by simpa using h1, Bool.true_or, if_pos rfl]
    have f1 := empty_of h1
    clear h1 hq
    go_enter Try.func19, Try.ntmps19
    go_wp2_with fail
    refine (HL.out _).mono ?_
    rintro e w2 ⟨rfl, hb2⟩
    have HT2 := Lib.hid (HT.out.call hb2)
    clear HT hb2 HL
    have hbx := HT2.out.box
    unfold routA at hbx
    have m0 : w2.cell? ⟨w.heap.size, 0, none⟩ = some (.bool r.pre) := hbx.cell 0
    have m1 : w2.cell? ⟨w.heap.size, 1, none⟩ = some (.string (ofL r.path)) := hbx.cell 1
    have m2 : w2.cell? ⟨w.heap.size, 2, none⟩ = some (.string (ofL r.method)) := hbx.cell 2
    have m3 : w2.cell? ⟨w.heap.size, 3, none⟩ = some (.string (ofL r.field)) := hbx.cell 3
    have m4 : w2.cell? ⟨w.heap.size, 4, none⟩ = some (.string (ofL r.value)) := hbx.cell 4
    have m5 : w2.cell? ⟨w.heap.size, 5, none⟩ = some (.int .i64 r.action) := hbx.cell 5
    have m6 : w2.cell? ⟨w.heap.size, 6, none⟩ = some (.string (ofL r.cluster)) := hbx.cell 6
    have m7 : w2.cell? ⟨w.heap.size, 7, none⟩ = some (.int .i64 r.status) := hbx.cell 7
    have m8 : w2.cell? ⟨w.heap.size, 8, none⟩ = some (.string (ofL r.text)) := hbx.cell 8
    have m9 : w2.cell? ⟨w.heap.size, 9, none⟩ = some (.string (ofL r.rewrite)) := hbx.cell 9
    have m10 : w2.cell? ⟨w.heap.size, 10, none⟩ = some (.int .i64 r.retries) := hbx.cell 10
    have m11 : w2.cell? ⟨w.heap.size, 11, none⟩ = some (.int .i64 r.timeout) := hbx.cell 11
    have m12 : w2.cell? ⟨w.heap.size, 12, none⟩ = some (.bool r.upgrade) := hbx.cell 12
    have e3 : w2.cell? ⟨bl, 0, none⟩ = some (.slice pl G.length cap) := HT2.out.cap.cl
    clear hbx
    cases y
    · go_wp2_with fail
      go_ret
      exact ⟨rfl, HT2.out.below⟩
    go_wp2_with fail
    refine (HK.out _ HT2.out.fl).mono ?_
    rintro e w3 ⟨rfl, hb3⟩
    have HT3 := Lib.hid (HT2.out.call hb3)
    clear HT2 hb3
    clear m0 m1 m2 m3 m4 m5 m6 m7 m8 m9 m10 m11 m12
    go_wp2_with fail
    go_ret
    exact ⟨by cases z <;> rfl, HT3.out.below⟩

  rw [show (r.method == []) = false from by simpa using h1, Bool.false_or]
  obtain ⟨f1, f2⟩ := empty_not h1
  clear h1
  cases x
  · rw [if_neg (by decide)]
    go_enter Try.func19, Try.ntmps19
    go_wp2_with fail
    go_ret
    exact ⟨rfl, HT.out.below⟩
  · rw [if_pos rfl]
    go_enter Try.func19, Try.ntmps19
    go_wp2_with fail
    refine (HL.out _).mono ?_
    rintro e w2 ⟨rfl, hb2⟩
    have HT2 := Lib.hid (HT.out.call hb2)
    clear HT hb2 HL
    have hbx := HT2.out.box
    unfold routA at hbx
    have m0 : w2.cell? ⟨w.heap.size, 0, none⟩ = some (.bool r.pre) := hbx.cell 0
    have m1 : w2.cell? ⟨w.heap.size, 1, none⟩ = some (.string (ofL r.path)) := hbx.cell 1
    have m2 : w2.cell? ⟨w.heap.size, 2, none⟩ = some (.string (ofL r.method)) := hbx.cell 2
    have m3 : w2.cell? ⟨w.heap.size, 3, none⟩ = some (.string (ofL r.field)) := hbx.cell 3
    have m4 : w2.cell? ⟨w.heap.size, 4, none⟩ = some (.string (ofL r.value)) := hbx.cell 4
    have m5 : w2.cell? ⟨w.heap.size, 5, none⟩ = some (.int .i64 r.action) := hbx.cell 5
    have m6 : w2.cell? ⟨w.heap.size, 6, none⟩ = some (.string (ofL r.cluster)) := hbx.cell 6
    have m7 : w2.cell? ⟨w.heap.size, 7, none⟩ = some (.int .i64 r.status) := hbx.cell 7
    have m8 : w2.cell? ⟨w.heap.size, 8, none⟩ = some (.string (ofL r.text)) := hbx.cell 8
    have m9 : w2.cell? ⟨w.heap.size, 9, none⟩ = some (.string (ofL r.rewrite)) := hbx.cell 9
    have m10 : w2.cell? ⟨w.heap.size, 10, none⟩ = some (.int .i64 r.retries) := hbx.cell 10
    have m11 : w2.cell? ⟨w.heap.size, 11, none⟩ = some (.int .i64 r.timeout) := hbx.cell 11
    have m12 : w2.cell? ⟨w.heap.size, 12, none⟩ = some (.bool r.upgrade) := hbx.cell 12
    have e3 : w2.cell? ⟨bl, 0, none⟩ = some (.slice pl G.length cap) := HT2.out.cap.cl
    clear hbx
    cases y
    · go_wp2_with fail
      go_ret
      exact ⟨rfl, HT2.out.below⟩
    go_wp2_with fail
    refine (HK.out _ HT2.out.fl).mono ?_
    rintro e w3 ⟨rfl, hb3⟩
    have HT3 := Lib.hid (HT2.out.call hb3)
    clear HT2 hb3
    clear m0 m1 m2 m3 m4 m5 m6 m7 m8 m9 m10 m11 m12
    go_wp2_with fail
    go_ret
    exact ⟨by cases z <;> rfl, HT3.out.below⟩

end Go.Proofs.Ytcjobblhendkbaa.PRouTake

/- Layer 15 of the program: slices.IndexFunc over routes, with the closure of Find. -/
namespace Go.Proofs.Ytcjobblhendkbaa.PRouIdx
open Go.ChangeShapes Go.WideShapes Go.ChangeAt Go.RowKit Bytes Ret LexPure ConfPure ConfMem RouteFind FieldsPure Flds PValsW PRouLead PRouAsk PRouTake PRouBest PRouDom Mem Go.Shelf
set_option maxRecDepth 100000
set_option linter.unusedVariables false
set_option linter.unusedSimpArgs false
theorem routs_at {w : World} {p : Option Addr} {n cap : Nat} {G : List Rout} (h : Routs w (.slice p n cap) G) (k : Nat) (hk : k < G.length) (r : Rout) (hr : r = G[k]) :
    ∃ g o, p = some ⟨g, o, none⟩ ∧ w.cell? ⟨g, o + k * 13, none⟩ = some (.bool r.pre) ∧ w.cell? ⟨g, o + k * 13 + 1, none⟩ = some (.string (ofL r.path)) ∧ w.cell? ⟨g, o + k * 13 + 2, none⟩ = some (.string (ofL r.method)) ∧ w.cell? ⟨g, o + k * 13 + 3, none⟩ = some (.string (ofL r.field)) ∧ w.cell? ⟨g, o + k * 13 + 4, none⟩ = some (.string (ofL r.value)) ∧ w.cell? ⟨g, o + k * 13 + 5, none⟩ = some (.int .i64 r.action) ∧ w.cell? ⟨g, o + k * 13 + 6, none⟩ = some (.string (ofL r.cluster)) ∧ w.cell? ⟨g, o + k * 13 + 7, none⟩ = some (.int .i64 r.status) ∧ w.cell? ⟨g, o + k * 13 + 8, none⟩ = some (.string (ofL r.text)) ∧ w.cell? ⟨g, o + k * 13 + 9, none⟩ = some (.string (ofL r.rewrite)) ∧ w.cell? ⟨g, o + k * 13 + 10, none⟩ = some (.int .i64 r.retries) ∧ w.cell? ⟨g, o + k * 13 + 11, none⟩ = some (.int .i64 r.timeout) ∧ w.cell? ⟨g, o + k * 13 + 12, none⟩ = some (.bool r.upgrade) := by
  subst hr
  obtain ⟨p2, c2, heq, _, hc⟩ := h.parts
  injection heq with e1 e2 e3
  subst e1
  obtain ⟨g2, o2, hpo, _, hcell⟩ := hc (by omega)
  exact ⟨g2, o2, hpo, hcell k hk⟩
theorem any_more {A : Type} (l : List A) (k : Nat) (hk : k < l.length) (q : A → Bool) : (l.take (k + 1)).any q = ((l.take k).any q || q l[k]) := by
  rw [List.take_succ_eq_append_getElem hk, List.any_append]
  simp
theorem idx_hit {A : Type} {l : List A} {k : Nat} (hk : k < l.length) {q : A → Bool} (h0 : (l.take k).any q = false) (h : q l[k] = true) : l.findIdx? q = some k := by
  rw [List.findIdx?_eq_some_iff_getElem]
  refine ⟨hk, h, fun j hj => ?_⟩
  rw [List.any_eq_false] at h0
  exact h0 _ (by rw [List.mem_take_iff_getElem]; exact ⟨j, by omega, rfl⟩)
theorem idx_none {A : Type} {l : List A} {k : Nat} (hk : ¬ k < l.length) {q : A → Bool} (h0 : (l.take k).any q = false) : l.findIdx? q = none := by
  rw [List.take_of_length_le (by omega), List.any_eq_false] at h0
  rw [List.findIdx?_eq_none_iff]
  exact fun x hx => by simpa using h0 x hx
set_option maxHeartbeats 6400000 in
theorem pindex_any (rs : List Rout) (vr : Value) (hr : ∀ r ∈ rs, r.path.length ≤ 9223372036854775807) (bm bp bl : Nat) (m p : ByteArray) (v : Value) (G : List HField) (hG : Wide G) (w : World) (hR : Routs w vr rs) (hF : FL w v G) (hc : Cap w bm bp bl m p v) :
    Calls Try.prog 18 #[vr, .func (.func 19) #[] #[.pointer (some ⟨bm, 0, none⟩), .pointer (some ⟨bp, 0, none⟩), .pointer (some ⟨bl, 0, none⟩)]] w fun e w' => e = .returned (.int .i64 (domI (route15 rs (toL m) (toL p) G))) ∧ Below w.heap.size w w' := by
  obtain ⟨pr, cr, rfl, hn63, _⟩ := hR.parts
  have hent : ∀ args w, (callFunc 19 args).run Try.prog w = .ok (.enter 19 args) w := enters_of Try.func19 (by kernel_rfl) rfl
  have HT := Lib.hid (fun r (h : r ∈ rs) w f c => ptake_any r (hr r h) bm bp bl m p v G hG w f c)
  have HJ0 : Hid (Routs w (.slice pr rs.length cr) rs ∧ FL w v G ∧ Cap w bm bp bl m p v ∧ Below w.heap.size w w) := Lib.hid ⟨hR, hF, hc, Below.refl _ _⟩
  unfold route15
  have HQ : Hid (∀ r, (fun r => takes15 r (toL m) (toL p) G) r = takes15 r (toL m) (toL p) G) := Lib.hid (fun r => rfl)
  generalize (fun r => takes15 r (toL m) (toL p) G) = q at HQ ⊢
  have H0 : Hid ((rs.take 0).any q = false) := Lib.hid rfl
  clear hR hF hc hG hr
  go_enter Try.func18, Try.ntmps18
  go_wp2_with fail
  go_loopw [5, 8] (fun _ i wr => ∃ k : Nat, k ≤ rs.length ∧ i = .int .i64 k ∧ Hid ((rs.take k).any q = false) ∧ Hid (Routs wr (.slice pr rs.length cr) rs ∧ FL wr v G ∧ Cap wr bm bp bl m p v ∧ Below w.heap.size w wr)) (fun _ i _ => rs.length - (intOf i).toNat)
  case atStart => exact ⟨0, Nat.zero_le _, rfl, H0, HJ0⟩
  case round =>
    obtain ⟨k, hk, rfl, HI, HJ⟩ := hrel
    clear H0 HJ0
    by_cases hlt : k < rs.length
    · have hki : (k : Int) < (rs.length : Int) := by omega
      have hk0 : (0 : Int) ≤ (k : Int) := by omega
      obtain ⟨r, hrk⟩ : ∃ r, r = rs[k] := ⟨_, rfl⟩
      obtain ⟨g, o, rfl, m0, m1, m2, m3, m4, m5, m6, m7, m8, m9, m10, m11, m12⟩ := routs_at HJ.out.1 k hlt r hrk
      have HC := Lib.hid (HT.out r (hrk ▸ List.getElem_mem hlt) wr HJ.out.2.1 HJ.out.2.2.1)
      have HA : Hid ((rs.take (k + 1)).any q = takes15 r (toL m) (toL p) G) := Lib.hid (by rw [any_more rs k hlt, HI.out, Bool.false_or, ← hrk]; exact HQ.out r)
      have HQK : Hid (q rs[k] = takes15 r (toL m) (toL p) G) := Lib.hid (by rw [← hrk]; exact HQ.out r)
      unfold routA at HC
      generalize takes15 r (toL m) (toL p) G = b at *
      clear hrk
      cases b
      · clear HI HQK
        go_wp2_with fail
        refine HC.out.mono ?_
        rintro e w2 ⟨rfl, hb2⟩
        have HN : Hid (Routs w2 (.slice (some ⟨g, o, none⟩) rs.length cr) rs ∧ FL w2 v G ∧ Cap w2 bm bp bl m p v ∧ Below w.heap.size w w2) := Lib.hid ⟨HJ.out.1.below hb2, HJ.out.2.1.below hb2, HJ.out.2.2.1.below hb2, below_chain HJ.out.2.2.2 hb2⟩
        clear HC HJ hb2 m0 m1 m2 m3 m4 m5 m6 m7 m8 m9 m10 m11 m12
        go_wp2_with fail
        go_roundw
        case rel => exact ⟨k + 1, by omega, by go_num, HA, HN⟩
        case measure => simp [intOf]; omega
      · have HR := Lib.hid (idx_hit hlt HI.out HQK.out)
        clear HI HQK HA
        go_wp2_with fail
        refine HC.out.mono ?_
        rintro e w2 ⟨rfl, hb2⟩
        have HB2 := Lib.hid (below_chain HJ.out.2.2.2 hb2)
        clear HC HJ hb2 m0 m1 m2 m3 m4 m5 m6 m7 m8 m9 m10 m11 m12
        go_wp2_with fail
        go_ret
        exact ⟨ret_int (by rw [HR.out]; rfl), HB2.out⟩
    · have HR := Lib.hid (idx_none hlt HI.out)
      have hki : ¬ (k : Int) < (rs.length : Int) := by omega
      clear HI
      go_wp2_with fail
      go_ret
      exact ⟨ret_int (by rw [HR.out]; rfl), HJ.out.2.2.2⟩
end Go.Proofs.Ytcjobblhendkbaa.PRouIdx

/- Layer 15 of the program: Find. -/
namespace Go.Proofs.Ytcjobblhendkbaa.PRouFind
open Go.ChangeShapes Go.WideShapes Go.ChangeAt Go.RowKit Bytes Ret LexPure ConfPure ConfMem RouteFind FieldsPure Flds PValsW PRouTake PRouBest PRouDom PRouIdx Mem
set_option maxRecDepth 100000
set_option linter.unusedVariables false
set_option linter.unusedSimpArgs false
def findV : Option (Nat × Nat) → Value
  | some (i, k) => .tuple #[.int .i64 i, .int .i64 k, .bool true]
  | none => .tuple #[.int .i64 0, .int .i64 0, .bool false]
/-- the boxes of a call -/
structure Fb (w : World) (g : Nat) (c : Conf) (vf vc vv : Value) (m p : ByteArray) (v : Value) (G : List HField) (W : World) : Prop where
  box : Has W g 26 (confV c vf vc vv)
  cap : Cap W (g + 1) (g + 2) (g + 3) m p v
  vh : Vhoss W vv c.vhosts
  fl : FL W v G
  below : Below g w W
theorem Fb.call {w W W' : World} {g : Nat} {c : Conf} {vf vc vv : Value} {m p : ByteArray} {v : Value} {G : List HField} (x : Fb w g c vf vc vv m p v G W) (hb : Below W.heap.size W W') : Fb w g c vf vc vv m p v G W' :=
  ⟨x.box.below hb x.box.lt, x.cap.below hb, x.vh.below hb, x.fl.below hb, ⟨hb.os.trans x.below.os, hb.tape.trans x.below.tape, hb.output.trans x.below.output, Nat.le_trans x.below.size hb.size, fun i hi => (hb.block i (Nat.lt_trans hi x.box.lt)).trans (x.below.block i hi)⟩⟩
theorem Fb.start {w : World} {c : Conf} {vf vc vv : Value} {m p : ByteArray} {v : Value} {G : List HField} (h : Vhoss w vv c.vhosts) (hF : FL w v G) :
    Fb w w.heap.size c vf vc vv m p v G ((((w.alloc (.cells (confV c vf vc vv) 26)).alloc (.cells #[.string m] 9)).alloc (.cells #[.string p] 9)).alloc (.cells #[v] 27)) := by
  have b1 := (Below.refl w.heap.size w).alloc (Nat.le_refl _) (.cells (confV c vf vc vv) 26)
  have b2 := b1.alloc (by simp) (.cells #[.string m] 9)
  have b3 := b2.alloc (by simp; omega) (.cells #[.string p] 9)
  have b4 := b3.alloc (by simp; omega) (.cells #[v] 27)
  have h1 : Has (w.alloc (.cells (confV c vf vc vv) 26)) w.heap.size 26 (confV c vf vc vv) := Has.new _ _ _
  have h2 := Has.new (w.alloc (.cells (confV c vf vc vv) 26)) 9 #[.string m]
  rw [show (w.alloc (.cells (confV c vf vc vv) 26)).heap.size = w.heap.size + 1 by simp] at h2
  have h3 := Has.new ((w.alloc (.cells (confV c vf vc vv) 26)).alloc (.cells #[.string m] 9)) 9 #[.string p]
  rw [show ((w.alloc (.cells (confV c vf vc vv) 26)).alloc (.cells #[.string m] 9)).heap.size = w.heap.size + 2 by simp] at h3
  have h4 := Has.new (((w.alloc (.cells (confV c vf vc vv) 26)).alloc (.cells #[.string m] 9)).alloc (.cells #[.string p] 9)) 27 #[v]
  rw [show (((w.alloc (.cells (confV c vf vc vv) 26)).alloc (.cells #[.string m] 9)).alloc (.cells #[.string p] 9)).heap.size = w.heap.size + 3 by simp] at h4
  exact ⟨((h1.alloc _).alloc _).alloc _, ⟨((h2.alloc _).alloc _).cell 0, (h3.alloc _).cell 0, h4.cell 0⟩, h.below b4, hF.below b4, b4⟩
set_option maxHeartbeats 6400000 in
theorem pfind_any (c : Conf) (vf vc vv : Value) (m h p : ByteArray) (hh : h.size ≤ 9223372036854775807) (hr : ∀ x ∈ c.vhosts, ∀ r ∈ x.routes, r.path.length ≤ 9223372036854775807) (v : Value) (G : List HField) (hG : Wide G) (w : World) (hC : VF w c vf vc vv) (hF : FL w v G) :
    Calls Try.prog 9 #[.agg (confV c vf vc vv), .string m, .string h, .string p, v] w fun e w' => e = .returned (findV (find15 c.vhosts (toL m) (toL h) (toL p) G)) ∧ Below w.heap.size w w' := by
  have HD := Lib.hid (fun w hC => pdomain_any c vf vc vv h hh w hC)
  obtain ⟨⟨pf, nf, cf, rfl⟩, ⟨pc, nc, cc, rfl⟩, hV⟩ := hC
  obtain ⟨pv, cv, rfl, hn63, _⟩ := hV.parts
  obtain ⟨pl, cl, rfl, _, _⟩ := id hF
  have HB0 := Lib.hid (Fb.start (c := c) (vf := .slice pf nf cf) (vc := .slice pc nc cc) (m := m) (p := p) hV hF)
  have HDom : Hid (find15 c.vhosts (toL m) (toL h) (toL p) G = (dom15 (c.vhosts.map (·.domain)) (toL h)).bind fun i => (route15 ((c.vhosts.map (·.routes)).getD i []) (toL m) (toL p) G).map fun k => (i, k)) := Lib.hid rfl
  have HR := Lib.hid hr
  have HGW := Lib.hid hG
  have HL : Hid (∀ i, dom15 (c.vhosts.map (·.domain)) (toL h) = some i → i < c.vhosts.length) := Lib.hid (fun i e => by have := dom_lt e; rwa [List.length_map] at this)
  obtain ⟨g, hg⟩ : ∃ g, g = w.heap.size := ⟨_, rfl⟩
  have HG := Lib.hid hg
  have B0 := HB0.out.box
  unfold confV at B0 HB0 HD ⊢
  rw [← hg] at B0
  have k0 : ((((w.alloc (.cells #[.int .i64 c.conns, .int .i64 c.body, .int .i64 c.idle, .int .i64 c.grace, .int .i64 c.budget, .int .i64 c.seed, .slice pf nf cf, .slice pc nc cc, .slice pv c.vhosts.length cv] 26)).alloc (.cells #[.string m] 9)).alloc (.cells #[.string p] 9)).alloc (.cells #[.slice pl G.length cl] 27)).cell? ⟨g, 0, none⟩ = some (.int .i64 c.conns) := B0.cell 0
  have k1 : ((((w.alloc (.cells #[.int .i64 c.conns, .int .i64 c.body, .int .i64 c.idle, .int .i64 c.grace, .int .i64 c.budget, .int .i64 c.seed, .slice pf nf cf, .slice pc nc cc, .slice pv c.vhosts.length cv] 26)).alloc (.cells #[.string m] 9)).alloc (.cells #[.string p] 9)).alloc (.cells #[.slice pl G.length cl] 27)).cell? ⟨g, 1, none⟩ = some (.int .i64 c.body) := B0.cell 1
  have k2 : ((((w.alloc (.cells #[.int .i64 c.conns, .int .i64 c.body, .int .i64 c.idle, .int .i64 c.grace, .int .i64 c.budget, .int .i64 c.seed, .slice pf nf cf, .slice pc nc cc, .slice pv c.vhosts.length cv] 26)).alloc (.cells #[.string m] 9)).alloc (.cells #[.string p] 9)).alloc (.cells #[.slice pl G.length cl] 27)).cell? ⟨g, 2, none⟩ = some (.int .i64 c.idle) := B0.cell 2
  have k3 : ((((w.alloc (.cells #[.int .i64 c.conns, .int .i64 c.body, .int .i64 c.idle, .int .i64 c.grace, .int .i64 c.budget, .int .i64 c.seed, .slice pf nf cf, .slice pc nc cc, .slice pv c.vhosts.length cv] 26)).alloc (.cells #[.string m] 9)).alloc (.cells #[.string p] 9)).alloc (.cells #[.slice pl G.length cl] 27)).cell? ⟨g, 3, none⟩ = some (.int .i64 c.grace) := B0.cell 3
  have k4 : ((((w.alloc (.cells #[.int .i64 c.conns, .int .i64 c.body, .int .i64 c.idle, .int .i64 c.grace, .int .i64 c.budget, .int .i64 c.seed, .slice pf nf cf, .slice pc nc cc, .slice pv c.vhosts.length cv] 26)).alloc (.cells #[.string m] 9)).alloc (.cells #[.string p] 9)).alloc (.cells #[.slice pl G.length cl] 27)).cell? ⟨g, 4, none⟩ = some (.int .i64 c.budget) := B0.cell 4
  have k5 : ((((w.alloc (.cells #[.int .i64 c.conns, .int .i64 c.body, .int .i64 c.idle, .int .i64 c.grace, .int .i64 c.budget, .int .i64 c.seed, .slice pf nf cf, .slice pc nc cc, .slice pv c.vhosts.length cv] 26)).alloc (.cells #[.string m] 9)).alloc (.cells #[.string p] 9)).alloc (.cells #[.slice pl G.length cl] 27)).cell? ⟨g, 5, none⟩ = some (.int .i64 c.seed) := B0.cell 5
  have k6 : ((((w.alloc (.cells #[.int .i64 c.conns, .int .i64 c.body, .int .i64 c.idle, .int .i64 c.grace, .int .i64 c.budget, .int .i64 c.seed, .slice pf nf cf, .slice pc nc cc, .slice pv c.vhosts.length cv] 26)).alloc (.cells #[.string m] 9)).alloc (.cells #[.string p] 9)).alloc (.cells #[.slice pl G.length cl] 27)).cell? ⟨g, 6, none⟩ = some (.slice pf nf cf) := B0.cell 6
  have k7 : ((((w.alloc (.cells #[.int .i64 c.conns, .int .i64 c.body, .int .i64 c.idle, .int .i64 c.grace, .int .i64 c.budget, .int .i64 c.seed, .slice pf nf cf, .slice pc nc cc, .slice pv c.vhosts.length cv] 26)).alloc (.cells #[.string m] 9)).alloc (.cells #[.string p] 9)).alloc (.cells #[.slice pl G.length cl] 27)).cell? ⟨g, 7, none⟩ = some (.slice pc nc cc) := B0.cell 7
  have k8 : ((((w.alloc (.cells #[.int .i64 c.conns, .int .i64 c.body, .int .i64 c.idle, .int .i64 c.grace, .int .i64 c.budget, .int .i64 c.seed, .slice pf nf cf, .slice pc nc cc, .slice pv c.vhosts.length cv] 26)).alloc (.cells #[.string m] 9)).alloc (.cells #[.string p] 9)).alloc (.cells #[.slice pl G.length cl] 27)).cell? ⟨g, 8, none⟩ = some (.slice pv c.vhosts.length cv) := B0.cell 8
  rw [hg] at k0 k1 k2 k3 k4 k5 k6 k7 k8
  clear B0 hg hV hF hr hG hh
  rw [← HG.out] at HB0
  generalize dom15 (c.vhosts.map (·.domain)) (toL h) = dm at *
  go_enter Try.func9, Try.ntmps9
  go_wp2_with fail
  refine (HD.out _ ⟨⟨_, _, _, rfl⟩, ⟨_, _, _, rfl⟩, HB0.out.vh⟩).mono ?_
  rintro e w2 ⟨rfl, hb2⟩
  have HB2 := Lib.hid (HB0.out.call hb2)
  clear HB0 HD hb2 k0 k1 k2 k3 k4 k5 k6 k7 k8
  cases dm with
  | none =>
    have HV : Hid (find15 c.vhosts (toL m) (toL h) (toL p) G = none) := Lib.hid HDom.out
    clear HDom HL
    dsimp only [domI]
    go_wp2_with fail
    go_ret3
    exact ⟨by rw [HV.out]; rfl, HG.out ▸ HB2.out.below⟩
  | some i =>
    have hi := HL.out i rfl
    have HV : Hid (find15 c.vhosts (toL m) (toL h) (toL p) G = (route15 c.vhosts[i].routes (toL m) (toL p) G).map fun k => (i, k)) := Lib.hid (by
      rw [HDom.out]
      show ((route15 ((c.vhosts.map (·.routes)).getD i []) (toL m) (toL p) G).map fun k => (i, k)) = _
      rw [getD_at (by simpa using hi), List.getElem_map])
    clear HDom HL
    dsimp only [domI]
    have hii : (i : Int) < (c.vhosts.length : Int) := by omega
    have hi0 : (0 : Int) ≤ (i : Int) := by omega
    have hne : ((i : Int) == -1) = false := beq_eq_false_iff_ne.2 (by omega)
    obtain ⟨gs, os, hv, rfl, hrt, c0, c1⟩ := vdom_at HB2.out.vh i hi
    obtain ⟨pr, cr, rfl, _, _⟩ := hrt.parts
    have hbx := HB2.out.box
    unfold confV at hbx
    have c8 : w2.cell? ⟨g, 8, none⟩ = some (.slice (some ⟨gs, os, none⟩) c.vhosts.length cv) := hbx.cell 8
    have HX := Lib.hid (pindex_any c.vhosts[i].routes (.slice pr c.vhosts[i].routes.length cr) (HR.out _ (List.getElem_mem hi)) (g + 1) (g + 2) (g + 3) m p (.slice pl G.length cl) G HGW.out w2 hrt HB2.out.fl HB2.out.cap)
    rw [HG.out] at c8 HX
    clear hrt hbx
    generalize route15 c.vhosts[i].routes (toL m) (toL p) G = ri at *
    go_wp2_with fail
    refine HX.out.mono ?_
    rintro e w3 ⟨rfl, hb3⟩
    have HB3 := Lib.hid (HB2.out.call hb3)
    clear HB2 HX hb3 c0 c1 c8
    cases ri with
    | none =>
      have HV2 : Hid (find15 c.vhosts (toL m) (toL h) (toL p) G = none) := Lib.hid HV.out
      clear HV
      dsimp only [domI]
      go_wp2_with fail
      go_ret3
      exact ⟨by rw [HV2.out]; rfl, HG.out ▸ HB3.out.below⟩
    | some k =>
      have HV2 : Hid (find15 c.vhosts (toL m) (toL h) (toL p) G = some (i, k)) := Lib.hid HV.out
      have hnk : ((k : Int) == -1) = false := beq_eq_false_iff_ne.2 (by omega)
      clear HV
      dsimp only [domI]
      go_wp2_with fail
      go_ret3
      exact ⟨by rw [HV2.out]; rfl, HG.out ▸ HB3.out.below⟩
end Go.Proofs.Ytcjobblhendkbaa.PRouFind
