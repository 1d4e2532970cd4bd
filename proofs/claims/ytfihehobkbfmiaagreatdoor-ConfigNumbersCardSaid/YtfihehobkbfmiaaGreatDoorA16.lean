/- Texts of this seat, one behind another: PCfgX, PCfgY, PBuildK. -/
import Derived.Shelf.Strings.BuilderK
import Derived.Test.YtfihehobkbfmiaaGreatDoorA2
import Derived.Test.YtfihehobkbfmiaaGreatDoorA3
import Derived.Test.YtfihehobkbfmiaaGreatDoorA11
import Derived.Test.YtfihehobkbfmiaaGreatDoorA15
import Derived.Test.YtfihehobkbfmiaaGreatDoorA4
import Derived.Test.YtfihehobkbfmiaaGreatDoorA1
/- Layer 14 of the program: a line of words; a route's line. -/
namespace Go.Proofs.YtfihehobkbfmiaaGreatDoor.PCfgX
open Go.ChangeShapes Go.WideShapes Go.ChangeAt Go.RowKit Bytes LexPure EmitPure ConfPure ConfMem Ret Mem Texts PCfgLib PCfgT PCfgW R14Line R14Print ConfOwn
set_option maxRecDepth 100000
set_option linter.unusedVariables false
set_option linter.unusedSimpArgs false
theorem join_line (h : L) (ws : List L) : Lib.join (h :: ws) [32] = lineW h ws := by
  rw [Lib.join_cons]
  unfold lineW Lib.joinTail
  rw [List.flatMap_def]
  rfl
theorem row_new (W : World) (G : List L) (base : Nat) (hb : base ≤ W.heap.size) (hG : G.length ≤ 1048576) : (W.alloc (.cells (Texts.strs G).toArray ST)).ownsRow base ST 1 (.slice (some ⟨W.heap.size, 0, none⟩) G.length G.length) G.length (Texts.strs G) := by
  have hl : (Texts.strs G).length = G.length := by simp [Texts.strs]
  refine ⟨by rw [hl]; omega, .inr ⟨W.heap.size, G.length, (Texts.strs G).toArray, rfl, hb, heap_alloc_new W _, Nat.le_refl _, by unfold maxLen; omega, by simp [hl], ?_⟩⟩
  rw [Nat.mul_one, ← hl]
  exact List.take_length
set_option maxHeartbeats 1600000 in
theorem pline_any (h : L) (ws : List L) (p : Option Addr) (cap : Nat) (w : World) (hT : Texts w (.slice p (h :: ws).length cap) (h :: ws)) (hcap : (h :: ws).length ≤ cap) (hl : (lineW h ws).length ≤ 140737488355000) (hn : ws.length ≤ 1048576) :
    Calls Tryz.prog 30 #[.slice p (h :: ws).length cap] w fun e w' => e = .returned (.string (ofL (lineW h ws ++ [10]))) ∧ Below w.heap.size w w' := by
  have HJ := Lib.hid (lib_join hT hcap (by simp) (by rw [join_line]; omega) (by rw [List.length_cons]; omega))
  rw [join_line] at HJ
  have HV : Hid (ofL (lineW h ws ++ [10]) = ofL (lineW h ws) ++ (⟨#[10]⟩ : ByteArray)) := Lib.hid (by rw [← str_app]; rfl)
  have hz : (ofL (lineW h ws)).size ≤ 140737488355000 := by rw [ofL_size]; exact hl
  have s0 : ¬ (9223372036854775807 < (ofL (lineW h ws)).size + 1) := by omega
  obtain ⟨n, hnn⟩ : ∃ n, n = (h :: ws).length := ⟨_, rfl⟩
  rw [← hnn] at HJ ⊢
  rw [HV.out]
  generalize ofL (lineW h ws) = X at HJ s0 ⊢
  clear HV hz hl hn hcap hT hnn
  go_enter Tryz.func30, Tryz.ntmps30
  go_wp2_with fail
  refine HJ.out.mono ?_
  rintro e w1 ⟨rfl, hb⟩
  go_wp2_with fail
  go_ret
  exact ⟨rfl, hb⟩
/-- the line of a list that has just been built -/
theorem pline_new (h : L) (ws : List L) (hl : (lineW h ws).length ≤ 140737488355000) (hn : ws.length ≤ 1048000) (W : World) :
    Calls Tryz.prog 30 #[.slice (some ⟨W.heap.size, 0, none⟩) (h :: ws).length (h :: ws).length] (W.alloc (.cells (Texts.strs (h :: ws)).toArray ST)) fun e w' => e = .returned (.string (ofL (lineW h ws ++ [10]))) ∧ Below W.heap.size W w' := by
  refine (pline_any h ws _ _ _ (texts_of (row_new W (h :: ws) 0 (Nat.zero_le _) (by rw [List.length_cons]; omega))) (Nat.le_refl _) hl (by omega)).mono ?_
  rintro e w' ⟨rfl, hb⟩
  exact ⟨rfl, below_chain ((Below.refl _ _).alloc (Nat.le_refl _) _) hb⟩
/-- a value's box -/
structure Lx (w : World) (g : Nat) (t : TypeId) (cs : Array Value) (W : World) : Prop where
  bx : Bx w g t cs W
  pw : PCfgLib.Pow W
theorem Lx.call {w W W' : World} {g : Nat} {t : TypeId} {cs : Array Value} (x : Lx w g t cs W) (hb : Below W.heap.size W W') : Lx w g t cs W' := ⟨x.bx.call hb, x.pw.below hb⟩
theorem Lx.drew {w W : World} {g : Nat} {t : TypeId} {cs : Array Value} (x : Lx w g t cs W) : Lx w g t cs W.drew := ⟨x.bx.drew, x.pw.below (below_drew (Below.refl _ _))⟩
theorem Lx.start (w : World) (hp : PCfgLib.Pow w) (t : TypeId) (cs : Array Value) : Lx w w.heap.size t cs (w.alloc (.cells cs t)) := ⟨Bx.start w t cs, hp.below ((Below.refl _ _).alloc (Nat.le_refl _) _)⟩
set_option maxHeartbeats 12800000 in
theorem proute_line (x : Rout) (hx : FitRout x) (w : World) (hp : PCfgLib.Pow w) :
    Calls Tryz.prog 33 #[.agg #[.bool x.pre, .string (ofL x.path), .string (ofL x.method), .string (ofL x.field), .string (ofL x.value), .int .i64 x.action, .string (ofL x.cluster), .int .i64 x.status, .string (ofL x.text), .string (ofL x.rewrite), .int .i64 x.retries, .int .i64 x.timeout, .bool x.upgrade]] w fun e w' => e = .returned (.string (ofL (lineW ROUTE (routW x) ++ [10]))) ∧ Below w.heap.size w w' := by
  have hl : (lineW ROUTE (routW x)).length ≤ 80000000 := by
    have := lineW_len 3200000 ROUTE (routW x) (fun w hw => by
      unfold routW at hw
      simp only [List.mem_cons, List.not_mem_nil, or_false] at hw
      rcases hw with rfl | rfl | rfl | rfl | rfl | rfl | rfl | rfl | rfl | rfl | rfl | rfl | rfl
      · exact flen _
      · exact wlen hx.path
      · exact wlen hx.method
      · exact wlen hx.field
      · exact wlen hx.value
      · exact dlen hx.action
      · exact wlen hx.cluster
      · exact dlen hx.status
      · exact wlen hx.text
      · exact wlen hx.rewrite
      · exact dlen hx.retries
      · exact dlen hx.timeout
      · exact flen _)
    have e : (routW x).length = 13 := rfl
    have e2 : ROUTE.length = 5 := rfl
    rw [e, e2] at this
    omega
  have HL : Hid (∀ W : World, Calls Tryz.prog 30 #[.slice (some ⟨W.heap.size, 0, none⟩) 14 14] (W.alloc (.cells #[.string ⟨#[114, 111, 117, 116, 101]⟩, .string (ofL (flagL x.pre)), .string (ofL (word x.path)), .string (ofL (word x.method)), .string (ofL (word x.field)), .string (ofL (word x.value)), .string (ofL (decZ x.action)), .string (ofL (word x.cluster)), .string (ofL (decZ x.status)), .string (ofL (word x.text)), .string (ofL (word x.rewrite)), .string (ofL (decZ x.retries)), .string (ofL (decZ x.timeout)), .string (ofL (flagL x.upgrade))] 9)) fun e w' => e = .returned (.string (ofL (lineW ROUTE (routW x) ++ [10]))) ∧ Below W.heap.size W w') := Lib.hid (fun W => pline_new ROUTE (routW x) (by omega) (show 13 ≤ 1048000 by decide) W)
  generalize ofL (lineW ROUTE (routW x) ++ [10]) = RES at HL ⊢
  clear hl
  have H0 := Lib.hid (fun w => pflag_any x.pre w)
  have H1 := Lib.hid (fun w => pword_any (ofL x.path) (by rw [ofL_size]; have := hx.path; omega) w)
  rw [toL_ofL] at H1
  have H2 := Lib.hid (fun w => pword_any (ofL x.method) (by rw [ofL_size]; have := hx.method; omega) w)
  rw [toL_ofL] at H2
  have H3 := Lib.hid (fun w => pword_any (ofL x.field) (by rw [ofL_size]; have := hx.field; omega) w)
  rw [toL_ofL] at H3
  have H4 := Lib.hid (fun w => pword_any (ofL x.value) (by rw [ofL_size]; have := hx.value; omega) w)
  rw [toL_ofL] at H4
  have H5 := Lib.hid (fun w h => pdecimal_any x.action hx.action.1 hx.action.2 w h)
  have H6 := Lib.hid (fun w => pword_any (ofL x.cluster) (by rw [ofL_size]; have := hx.cluster; omega) w)
  rw [toL_ofL] at H6
  have H7 := Lib.hid (fun w h => pdecimal_any x.status hx.status.1 hx.status.2 w h)
  have H8 := Lib.hid (fun w => pword_any (ofL x.text) (by rw [ofL_size]; have := hx.text; omega) w)
  rw [toL_ofL] at H8
  have H9 := Lib.hid (fun w => pword_any (ofL x.rewrite) (by rw [ofL_size]; have := hx.rewrite; omega) w)
  rw [toL_ofL] at H9
  have H10 := Lib.hid (fun w h => pdecimal_any x.retries hx.retries.1 hx.retries.2 w h)
  have H11 := Lib.hid (fun w h => pdecimal_any x.timeout hx.timeout.1 hx.timeout.2 w h)
  have H12 := Lib.hid (fun w => pflag_any x.upgrade w)
  obtain ⟨A0, hA0⟩ : ∃ A0, A0 = ofL (flagL x.pre) := ⟨_, rfl⟩
  rw [← hA0] at H0 HL
  obtain ⟨A1, hA1⟩ : ∃ A1, A1 = ofL (word x.path) := ⟨_, rfl⟩
  rw [← hA1] at H1 HL
  obtain ⟨A2, hA2⟩ : ∃ A2, A2 = ofL (word x.method) := ⟨_, rfl⟩
  rw [← hA2] at H2 HL
  obtain ⟨A3, hA3⟩ : ∃ A3, A3 = ofL (word x.field) := ⟨_, rfl⟩
  rw [← hA3] at H3 HL
  obtain ⟨A4, hA4⟩ : ∃ A4, A4 = ofL (word x.value) := ⟨_, rfl⟩
  rw [← hA4] at H4 HL
  obtain ⟨A5, hA5⟩ : ∃ A5, A5 = ofL (decZ x.action) := ⟨_, rfl⟩
  rw [← hA5] at H5 HL
  obtain ⟨A6, hA6⟩ : ∃ A6, A6 = ofL (word x.cluster) := ⟨_, rfl⟩
  rw [← hA6] at H6 HL
  obtain ⟨A7, hA7⟩ : ∃ A7, A7 = ofL (decZ x.status) := ⟨_, rfl⟩
  rw [← hA7] at H7 HL
  obtain ⟨A8, hA8⟩ : ∃ A8, A8 = ofL (word x.text) := ⟨_, rfl⟩
  rw [← hA8] at H8 HL
  obtain ⟨A9, hA9⟩ : ∃ A9, A9 = ofL (word x.rewrite) := ⟨_, rfl⟩
  rw [← hA9] at H9 HL
  obtain ⟨A10, hA10⟩ : ∃ A10, A10 = ofL (decZ x.retries) := ⟨_, rfl⟩
  rw [← hA10] at H10 HL
  obtain ⟨A11, hA11⟩ : ∃ A11, A11 = ofL (decZ x.timeout) := ⟨_, rfl⟩
  rw [← hA11] at H11 HL
  obtain ⟨A12, hA12⟩ : ∃ A12, A12 = ofL (flagL x.upgrade) := ⟨_, rfl⟩
  rw [← hA12] at H12 HL
  clear hA0 hA1 hA2 hA3 hA4 hA5 hA6 hA7 hA8 hA9 hA10 hA11 hA12 hx
  have HB := Lib.hid (Lx.start w hp R14Line.RT #[.bool x.pre, .string (ofL x.path), .string (ofL x.method), .string (ofL x.field), .string (ofL x.value), .int .i64 x.action, .string (ofL x.cluster), .int .i64 x.status, .string (ofL x.text), .string (ofL x.rewrite), .int .i64 x.retries, .int .i64 x.timeout, .bool x.upgrade])
  obtain ⟨g, hg⟩ : ∃ g, g = w.heap.size := ⟨_, rfl⟩
  rw [← hg] at HB ⊢
  have HG := Lib.hid hg
  clear hg hp
  unfold R14Line.RT at HB
  go_enter Tryz.func33, Tryz.ntmps33
  go_wp2_with fail
  rw [← HG.out]
  generalize w.alloc (.cells #[.bool x.pre, .string (ofL x.path), .string (ofL x.method), .string (ofL x.field), .string (ofL x.value), .int .i64 x.action, .string (ofL x.cluster), .int .i64 x.status, .string (ofL x.text), .string (ofL x.rewrite), .int .i64 x.retries, .int .i64 x.timeout, .bool x.upgrade] 45) = W1 at HB ⊢
  have P0 := HB.out.drew
  have s0 := rcells P0.bx
  go_region_held3 (fun w' => w'.cell? ⟨g, 0, none⟩ = some (.bool x.pre) ∧ w'.cell? ⟨g, 1, none⟩ = some (.string (ofL x.path)) ∧ w'.cell? ⟨g, 2, none⟩ = some (.string (ofL x.method)) ∧ w'.cell? ⟨g, 3, none⟩ = some (.string (ofL x.field)) ∧ w'.cell? ⟨g, 4, none⟩ = some (.string (ofL x.value)) ∧ w'.cell? ⟨g, 5, none⟩ = some (.int .i64 x.action) ∧ w'.cell? ⟨g, 6, none⟩ = some (.string (ofL x.cluster)) ∧ w'.cell? ⟨g, 7, none⟩ = some (.int .i64 x.status) ∧ w'.cell? ⟨g, 8, none⟩ = some (.string (ofL x.text)) ∧ w'.cell? ⟨g, 9, none⟩ = some (.string (ofL x.rewrite)) ∧ w'.cell? ⟨g, 10, none⟩ = some (.int .i64 x.retries) ∧ w'.cell? ⟨g, 11, none⟩ = some (.int .i64 x.timeout) ∧ w'.cell? ⟨g, 12, none⟩ = some (.bool x.upgrade)) (first | exact s14 | exact (rcells (P12.call ((Below.refl _ _).alloc (Nat.le_refl _) _)).bx) | exact s12 | exact s11 | exact s10 | exact s9 | exact s8 | exact s7 | exact s6 | exact s5 | exact s4 | exact s3 | exact s2 | exact s0)
    (first
      | (go_at_call 70; refine (H0.out _).mono ?_; rintro e v0 ⟨rfl, rfl⟩
         clear H0)
      | (go_at_call 19; refine (H1.out _).mono ?_; rintro e v1 ⟨rfl, hb1⟩
         have P2 := P0.call hb1
         have s2 := rcells P2.bx
         clear H1)
      | (go_at_call 19; refine (H2.out _).mono ?_; rintro e v2 ⟨rfl, hb2⟩
         have P3 := P2.call hb2
         have s3 := rcells P3.bx
         clear H2)
      | (go_at_call 19; refine (H3.out _).mono ?_; rintro e v3 ⟨rfl, hb3⟩
         have P4 := P3.call hb3
         have s4 := rcells P4.bx
         clear H3)
      | (go_at_call 19; refine (H4.out _).mono ?_; rintro e v4 ⟨rfl, hb4⟩
         have P5 := P4.call hb4
         have s5 := rcells P5.bx
         clear H4)
      | (go_at_call 31; refine (H5.out _ P5.pw).mono ?_; rintro e v5 ⟨rfl, hb5⟩
         have P6 := P5.call hb5
         have s6 := rcells P6.bx
         clear H5)
      | (go_at_call 19; refine (H6.out _).mono ?_; rintro e v6 ⟨rfl, hb6⟩
         have P7 := P6.call hb6
         have s7 := rcells P7.bx
         clear H6)
      | (go_at_call 31; refine (H7.out _ P7.pw).mono ?_; rintro e v7 ⟨rfl, hb7⟩
         have P8 := P7.call hb7
         have s8 := rcells P8.bx
         clear H7)
      | (go_at_call 19; refine (H8.out _).mono ?_; rintro e v8 ⟨rfl, hb8⟩
         have P9 := P8.call hb8
         have s9 := rcells P9.bx
         clear H8)
      | (go_at_call 19; refine (H9.out _).mono ?_; rintro e v9 ⟨rfl, hb9⟩
         have P10 := P9.call hb9
         have s10 := rcells P10.bx
         clear H9)
      | (go_at_call 31; refine (H10.out _ P10.pw).mono ?_; rintro e v10 ⟨rfl, hb10⟩
         have P11 := P10.call hb10
         have s11 := rcells P11.bx
         clear H10)
      | (go_at_call 31; refine (H11.out _ P11.pw).mono ?_; rintro e v11 ⟨rfl, hb11⟩
         have P12 := P11.call hb11
         have s12 := rcells P12.bx
         clear H11)
      | (go_at_call 70; refine (H12.out _).mono ?_; rintro e v12 ⟨rfl, rfl⟩
         clear H12)
      | (go_at_call 30; refine (HL.out _).mono ?_; rintro e v13 ⟨rfl, hb13⟩
         have P14 := P12.call hb13
         have s14 := rcells P14.bx))
  have KE := Lib.hid P14.bx.below
  go_wp2_with fail
  go_ret
  exact ⟨rfl, HG.out ▸ KE.out⟩
end Go.Proofs.YtfihehobkbfmiaaGreatDoor.PCfgX

/- Layer 14 of the program: a cluster's line. -/
namespace Go.Proofs.YtfihehobkbfmiaaGreatDoor.PCfgY
open Go.ChangeShapes Go.WideShapes Go.ChangeAt Go.RowKit Bytes LexPure EmitPure ConfPure ConfMem Ret Mem Rows1 PCfgLib PCfgT PCfgW PCfgX
set_option maxRecDepth 100000
set_option linter.unusedVariables false
set_option linter.unusedSimpArgs false
abbrev KT : TypeId := 38
theorem own_far {w : World} {base n size : Nat} {e : TypeId} {v : Value} {xs : List Value} (h : w.ownsRow base e size v n xs) {g : Nat} (hg : g < base) : v.ownBlock ≠ some g := by
  rcases h.2 with ⟨rfl, _⟩ | ⟨b, cap, cur, rfl, hb, _⟩
  · simp [Value.ownBlock]
  · simp [Value.ownBlock]; omega
theorem below_row {w W W' : World} {base n size g : Nat} {e : TypeId} {v : Value} {xs : List Value} (hb : Below g w W) (h : W.ownsRow base e size v n xs) (hg : g < base) (hs : g ≤ W.heap.size) (k : W.grownBy W' v.ownBlock) : Below g w W' :=
  ⟨k.os.trans hb.os, k.tape.trans hb.tape, k.output.trans hb.output, Nat.le_trans hb.size k.size, fun i hi => (k.block i (Nat.lt_of_lt_of_le hi hs) (fun e => own_far h (Nat.lt_trans hi hg) e.symm)).trans (hb.block i hi)⟩
/-- in the loop: the cluster's box, the words so far in a list of its own -/
structure Cl (w : World) (cs : Array Value) (vh v : Value) (G H : List L) (W : World) : Prop where
  lx : Lx w w.heap.size KT cs W
  tx : Texts.Texts W vh H
  row : W.ownsRow (w.heap.size + 1) 9 1 v G.length (Texts.strs G)
theorem Cl.call {w W W' : World} {cs : Array Value} {vh v : Value} {G H : List L} (x : Cl w cs vh v G H W) (hb : Below W.heap.size W W') : Cl w cs vh v G H W' :=
  ⟨x.lx.call hb, Texts.Texts.below x.tx hb, RowKeep.row_below x.row hb⟩
theorem Cl.push {w W W' : World} (hp : PCfgLib.Pow w) {cs : Array Value} {vh v v' : Value} {G H : List L} {t : L} (x : Cl w cs vh v G H W) (h0 : Texts.Texts w vh H) (hr : W'.ownsRow (w.heap.size + 1) 9 1 v' (G.length + 1) (Texts.strs G ++ [.string (ofL t)])) (hg : W.grownBy W' v.ownBlock) : Cl w cs vh v' (G ++ [t]) H W' := by
  have hbl := below_row x.lx.bx.below x.row (Nat.lt_succ_self _) x.lx.bx.below.size hg
  refine ⟨⟨⟨x.lx.bx.box.grown hg (fun e => own_far x.row (Nat.lt_succ_self _) e.symm), hbl⟩, hp.below hbl⟩, Texts.Texts.below h0 hbl, ?_⟩
  rw [List.length_append, List.length_singleton, Texts.strs_append]
  exact hr
theorem ccells {w W : World} {g : Nat} {x : Clus} {ph : Option Addr} {ch : Nat} (h : Lx w g KT #[.string (ofL x.name), .int .i64 x.policy, .slice ph x.hosts.length ch, .int .i64 x.conns, .int .i64 x.pending, .int .i64 x.try_, .int .i64 x.fails, .int .i64 x.eject, .int .i64 x.panic] W) : W.cell? ⟨g, 0, none⟩ = some (.string (ofL x.name)) ∧ W.cell? ⟨g, 1, none⟩ = some (.int .i64 x.policy) ∧ W.cell? ⟨g, 3, none⟩ = some (.int .i64 x.conns) ∧ W.cell? ⟨g, 4, none⟩ = some (.int .i64 x.pending) ∧ W.cell? ⟨g, 5, none⟩ = some (.int .i64 x.try_) ∧ W.cell? ⟨g, 6, none⟩ = some (.int .i64 x.fails) ∧ W.cell? ⟨g, 7, none⟩ = some (.int .i64 x.eject) ∧ W.cell? ⟨g, 8, none⟩ = some (.int .i64 x.panic) :=
  ⟨h.bx.box.cell 0, h.bx.box.cell 1, h.bx.box.cell 3, h.bx.box.cell 4, h.bx.box.cell 5, h.bx.box.cell 6, h.bx.box.cell 7, h.bx.box.cell 8⟩
set_option maxHeartbeats 12800000 in
theorem pcluster_line (x : Clus) (ph : Option Addr) (ch : Nat) (hx : FitClus x) (hn : x.hosts.length ≤ 16) (hw : ∀ t ∈ x.hosts, word t = t) (w : World) (hp : PCfgLib.Pow w) (hT : Texts.Texts w (.slice ph x.hosts.length ch) x.hosts) :
    Calls Tryz.prog 32 #[.agg #[.string (ofL x.name), .int .i64 x.policy, .slice ph x.hosts.length ch, .int .i64 x.conns, .int .i64 x.pending, .int .i64 x.try_, .int .i64 x.fails, .int .i64 x.eject, .int .i64 x.panic]] w fun e w' => e = .returned (.string (ofL (lineW CLUSTER (clusW x) ++ [10]))) ∧ Below w.heap.size w w' := by
  have hl : (lineW CLUSTER (clusW x)).length ≤ 80000000 := by
    have := R14Print.lineW_len 3200000 CLUSTER (clusW x) (fun w hw => by
      unfold clusW at hw
      rcases List.mem_append.1 hw with hw | hw
      · simp only [List.mem_cons, List.not_mem_nil, or_false] at hw
        rcases hw with rfl | rfl | rfl | rfl | rfl | rfl | rfl | rfl
        · exact R14Print.wlen hx.name
        · exact R14Print.dlen hx.policy
        · exact R14Print.dlen hx.conns
        · exact R14Print.dlen hx.pending
        · exact R14Print.dlen hx.try_
        · exact R14Print.dlen hx.fails
        · exact R14Print.dlen hx.eject
        · exact R14Print.dlen hx.panic
      · have := hx.hosts.2 w hw
        omega)
    have e : (clusW x).length = 8 + x.hosts.length := by simp [clusW]; omega
    have e2 : CLUSTER.length = 7 := rfl
    rw [e, e2] at this
    have : (8 + x.hosts.length) * (3200000 + 1) ≤ 24 * 3200001 := Nat.mul_le_mul_right _ (by omega)
    omega
  obtain ⟨i0, hi, hz0, hz1, hz2⟩ := info_parts Texts.infoS
  have HLine := Lib.hid (fun (p : Option Addr) (cap : Nat) (W : World) (hT : Texts.Texts W (.slice p (CLUSTER :: clusW x).length cap) (CLUSTER :: clusW x)) (hc : (CLUSTER :: clusW x).length ≤ cap) => pline_any CLUSTER (clusW x) p cap W hT hc (by omega) (by simp [clusW]; omega))
  have HLen : Hid ((CLUSTER :: clusW x).length = 9 + x.hosts.length) := Lib.hid (by simp [clusW]; omega)
  have HCW : Hid (CLUSTER :: clusW x = CLUSTER :: [word x.name, decZ x.policy, decZ x.conns, decZ x.pending, decZ x.try_, decZ x.fails, decZ x.eject, decZ x.panic] ++ x.hosts) := Lib.hid rfl
  have HT := Lib.hid hT
  have HP := Lib.hid hp
  have HW := Lib.hid (fun (k : Nat) (hk : k < x.hosts.length) => hw _ (List.getElem_mem hk))
  have HF := Lib.hid hx.hosts.2
  have H0 := Lib.hid (fun w => pword_any (ofL x.name) (by rw [ofL_size]; have := hx.name; omega) w)
  rw [toL_ofL] at H0
  have H1 := Lib.hid (fun w h => pdecimal_any x.policy hx.policy.1 hx.policy.2 w h)
  have H2 := Lib.hid (fun w h => pdecimal_any x.conns hx.conns.1 hx.conns.2 w h)
  have H3 := Lib.hid (fun w h => pdecimal_any x.pending hx.pending.1 hx.pending.2 w h)
  have H4 := Lib.hid (fun w h => pdecimal_any x.try_ hx.try_.1 hx.try_.2 w h)
  have H5 := Lib.hid (fun w h => pdecimal_any x.fails hx.fails.1 hx.fails.2 w h)
  have H6 := Lib.hid (fun w h => pdecimal_any x.eject hx.eject.1 hx.eject.2 w h)
  have H7 := Lib.hid (fun w h => pdecimal_any x.panic hx.panic.1 hx.panic.2 w h)
  generalize ofL (lineW CLUSTER (clusW x) ++ [10]) = RES at HLine ⊢
  have HB := Lib.hid (Lx.start w hp KT #[.string (ofL x.name), .int .i64 x.policy, .slice ph x.hosts.length ch, .int .i64 x.conns, .int .i64 x.pending, .int .i64 x.try_, .int .i64 x.fails, .int .i64 x.eject, .int .i64 x.panic])
  have HTx := Lib.hid (Texts.Texts.below hT ((Below.refl _ _).alloc (Nat.le_refl _) (.cells #[.string (ofL x.name), .int .i64 x.policy, .slice ph x.hosts.length ch, .int .i64 x.conns, .int .i64 x.pending, .int .i64 x.try_, .int .i64 x.fails, .int .i64 x.eject, .int .i64 x.panic] KT)))
  obtain ⟨g, hg⟩ : ∃ g, g = w.heap.size := ⟨_, rfl⟩
  rw [← hg] at HB ⊢
  have HG := Lib.hid hg
  clear hg hp hw hx hT hl
  unfold KT at HB HTx
  go_enter Tryz.func32, Tryz.ntmps32
  go_wp2_with fail
  rw [← HG.out]
  generalize w.alloc (.cells #[.string (ofL x.name), .int .i64 x.policy, .slice ph x.hosts.length ch, .int .i64 x.conns, .int .i64 x.pending, .int .i64 x.try_, .int .i64 x.fails, .int .i64 x.eject, .int .i64 x.panic] 38) = W1 at HB HTx ⊢
  have P0 := HB.out.drew
  have s0 := ccells P0
  go_region_held3 (fun w' => w'.cell? ⟨g, 0, none⟩ = some (.string (ofL x.name)) ∧ w'.cell? ⟨g, 1, none⟩ = some (.int .i64 x.policy) ∧ w'.cell? ⟨g, 3, none⟩ = some (.int .i64 x.conns) ∧ w'.cell? ⟨g, 4, none⟩ = some (.int .i64 x.pending) ∧ w'.cell? ⟨g, 5, none⟩ = some (.int .i64 x.try_) ∧ w'.cell? ⟨g, 6, none⟩ = some (.int .i64 x.fails) ∧ w'.cell? ⟨g, 7, none⟩ = some (.int .i64 x.eject) ∧ w'.cell? ⟨g, 8, none⟩ = some (.int .i64 x.panic)) (first | exact (ccells (P8.call ((Below.refl _ _).alloc (Nat.le_refl _) _))) | exact s8 | exact s7 | exact s6 | exact s5 | exact s4 | exact s3 | exact s2 | exact s1 | exact s0)
    (first
      | (go_at_call 19; refine (H0.out _).mono ?_; rintro e v0 ⟨rfl, hb0⟩
         have P1 := P0.call hb0
         have s1 := ccells P1
         clear H0)
      | (go_at_call 31; refine (H1.out _ P1.pw).mono ?_; rintro e v1 ⟨rfl, hb1⟩
         have P2 := P1.call hb1
         have s2 := ccells P2
         clear H1)
      | (go_at_call 31; refine (H2.out _ P2.pw).mono ?_; rintro e v2 ⟨rfl, hb2⟩
         have P3 := P2.call hb2
         have s3 := ccells P3
         clear H2)
      | (go_at_call 31; refine (H3.out _ P3.pw).mono ?_; rintro e v3 ⟨rfl, hb3⟩
         have P4 := P3.call hb3
         have s4 := ccells P4
         clear H3)
      | (go_at_call 31; refine (H4.out _ P4.pw).mono ?_; rintro e v4 ⟨rfl, hb4⟩
         have P5 := P4.call hb4
         have s5 := ccells P5
         clear H4)
      | (go_at_call 31; refine (H5.out _ P5.pw).mono ?_; rintro e v5 ⟨rfl, hb5⟩
         have P6 := P5.call hb5
         have s6 := ccells P6
         clear H5)
      | (go_at_call 31; refine (H6.out _ P6.pw).mono ?_; rintro e v6 ⟨rfl, hb6⟩
         have P7 := P6.call hb6
         have s7 := ccells P7
         clear H6)
      | (go_at_call 31; refine (H7.out _ P7.pw).mono ?_; rintro e v7 ⟨rfl, hb7⟩
         have P8 := P7.call hb7
         have s8 := ccells P8
         clear H7))
  have C0 : Cl w #[.string (ofL x.name), .int .i64 x.policy, .slice ph x.hosts.length ch, .int .i64 x.conns, .int .i64 x.pending, .int .i64 x.try_, .int .i64 x.fails, .int .i64 x.eject, .int .i64 x.panic] (.slice ph x.hosts.length ch) (.slice (some ⟨v7.heap.size, 0, none⟩) 9 9) (CLUSTER :: [word x.name, decZ x.policy, decZ x.conns, decZ x.pending, decZ x.try_, decZ x.fails, decZ x.eject, decZ x.panic]) x.hosts (v7.alloc (.cells (Texts.strs (CLUSTER :: [word x.name, decZ x.policy, decZ x.conns, decZ x.pending, decZ x.try_, decZ x.fails, decZ x.eject, decZ x.panic])).toArray 9)) := by
    have hal := (Below.refl v7.heap.size v7).alloc (Nat.le_refl _) (.cells (Texts.strs (CLUSTER :: [word x.name, decZ x.policy, decZ x.conns, decZ x.pending, decZ x.try_, decZ x.fails, decZ x.eject, decZ x.panic])).toArray 9)
    exact ⟨HG.out ▸ (P8.call hal), Texts.Texts.below (Texts.Texts.below (Texts.Texts.below (Texts.Texts.below (Texts.Texts.below (Texts.Texts.below (Texts.Texts.below (Texts.Texts.below (Texts.Texts.below (show Texts.Texts W1.drew _ _ from HTx.out) hb0) hb1) hb2) hb3) hb4) hb5) hb6) hb7) hal, row_new v7 (CLUSTER :: [word x.name, decZ x.policy, decZ x.conns, decZ x.pending, decZ x.try_, decZ x.fails, decZ x.eject, decZ x.panic]) _ (by have := P8.bx.box.lt; rw [HG.out] at this; omega) (show 9 ≤ 1048576 by decide)⟩
  have HC0 := Lib.hid C0
  clear C0 P0 s0 P1 s1 P2 s2 P3 s3 P4 s4 P5 s5 P6 s6 P7 s7 P8 s8 hb0 hb1 hb2 hb3 hb4 hb5 hb6 hb7 HB HTx
  generalize hWW : (v7.alloc (.cells #[.string ⟨#[99, 108, 117, 115, 116, 101, 114]⟩, .string (ofL (word x.name)), .string (ofL (decZ x.policy)), .string (ofL (decZ x.conns)), .string (ofL (decZ x.pending)), .string (ofL (decZ x.try_)), .string (ofL (decZ x.fails)), .string (ofL (decZ x.eject)), .string (ofL (decZ x.panic))] 9)) = W2
  have HC : Hid (Cl w #[.string (ofL x.name), .int .i64 x.policy, .slice ph x.hosts.length ch, .int .i64 x.conns, .int .i64 x.pending, .int .i64 x.try_, .int .i64 x.fails, .int .i64 x.eject, .int .i64 x.panic] (.slice ph x.hosts.length ch) (.slice (some ⟨v7.heap.size, 0, none⟩) 9 9) (CLUSTER :: [word x.name, decZ x.policy, decZ x.conns, decZ x.pending, decZ x.try_, decZ x.fails, decZ x.eject, decZ x.panic]) x.hosts W2) := Lib.hid (hWW ▸ HC0.out)
  clear HC0 hWW
  obtain ⟨bs, hbs⟩ : ∃ bs, bs = v7.heap.size := ⟨_, rfl⟩
  rw [← hbs] at HC ⊢
  clear hbs
  have b2 : W2.cell? ⟨g, 2, none⟩ = some (.slice ph x.hosts.length ch) := by
    have := HC.out.lx.bx.box.cell 2
    rw [← HG.out] at this
    exact this
  have hn0 : (0 : Int) ≤ (x.hosts.length : Int) := by omega
  go_wp2_with fail
  clear b2
  go_loopw [3, 34] (fun v i2 wr => ∃ k : Nat, k ≤ x.hosts.length ∧ i2 = .int .i64 k ∧ Hid (Cl w #[.string (ofL x.name), .int .i64 x.policy, .slice ph x.hosts.length ch, .int .i64 x.conns, .int .i64 x.pending, .int .i64 x.try_, .int .i64 x.fails, .int .i64 x.eject, .int .i64 x.panic] (.slice ph x.hosts.length ch) v ((CLUSTER :: [word x.name, decZ x.policy, decZ x.conns, decZ x.pending, decZ x.try_, decZ x.fails, decZ x.eject, decZ x.panic]) ++ x.hosts.take k) x.hosts wr)) (fun _ i2 _ => x.hosts.length - (intOf i2).toNat)
  case atStart => exact ⟨0, Nat.zero_le _, rfl, by rw [List.take_zero, List.append_nil]; exact HC⟩
  case round =>
    obtain ⟨k, hk, rfl, HJ⟩ := hrel
    clear HC
    obtain ⟨G, hG⟩ : ∃ G, Hid (G = (CLUSTER :: [word x.name, decZ x.policy, decZ x.conns, decZ x.pending, decZ x.try_, decZ x.fails, decZ x.eject, decZ x.panic]) ++ x.hosts.take k) := ⟨_, Lib.hid rfl⟩
    have hGl : G.length = 9 + k := by rw [hG.out, List.length_append, List.length_take]; simp; omega
    rw [← hG.out] at HJ
    have hGb : G.length ≤ 100 := by omega
    have HGl := Lib.hid hGl
    clear hGl
    obtain ⟨pv, cv, hvv, hcv⟩ := RowKeep.row_form HJ.out.row
    subst hvv
    by_cases hlt : k < x.hosts.length
    · have hki : (k : Int) < (x.hosts.length : Int) := by omega
      have hk0 : (0 : Int) ≤ (k : Int) := by omega
      obtain ⟨p2, c2, hv2, _, hcell0⟩ := HJ.out.tx
      injection hv2 with e1 _ e3
      subst e3
      obtain ⟨gh, oh, hph, _, hcell⟩ := hcell0 (by omega)
      subst e1
      subst hph
      have b1 := hcell k hlt
      obtain ⟨t, ht⟩ : ∃ t, Hid (t = x.hosts[k]) := ⟨_, Lib.hid rfl⟩
      rw [← ht.out] at b1
      have htl : t.length ≤ 1048576 := by rw [ht.out]; exact HF.out _ (List.getElem_mem hlt)
      have HWd := Lib.hid (fun w => pword_any (ofL t) (by rw [ofL_size]; omega) w)
      rw [toL_ofL, show word t = t from by rw [ht.out]; exact HW.out k hlt] at HWd
      clear hcell hcell0
      go_wp2_with fail
      refine (HWd.out _).mono ?_
      rintro e w2 ⟨rfl, hb2⟩
      have HJ2 := Lib.hid (HJ.out.call hb2)
      have HJ3 := Lib.hid (HJ2.out.call ((Below.refl w2.heap.size w2).alloc (Nat.le_refl _) (.cells #[.string (ofL t)] 9)))
      have HN := World.news_of_block (heap_alloc_new w2 (.cells #[.string (ofL t)] 9))
      have hrow := HJ3.out.row
      have hsz : w.heap.size + 1 ≤ (w2.alloc (.cells #[.string (ofL t)] 9)).heap.size := by
        have := HJ2.out.lx.bx.box.lt
        simp
        omega
      clear HJ hb2 HJ2 HWd
      go_wp2_with (at_builtin; refine wpList_append_own_at _ rfl (.tmp 38) (.tmp 41) 36 rfl (w.heap.size + 1) 9 i0 (.string ByteArray.empty) 1 16 Tryz.underlying36 hi hz0 hz1 hz2 rfl (by decide) (.slice pv G.length cv) G.length (Texts.strs G) rfl hrow ⟨w2.heap.size, 0, none⟩ 1 1 [.string (ofL t)] rfl rfl HN (by simp [Value.oneCell']) (by simp only [maxLen]; omega) (by omega) hsz ?_; intro v4 w4 hown4 hg4 _ hat4)
      have HP4 : Hid (Cl w #[.string (ofL x.name), .int .i64 x.policy, .slice (some ⟨gh, oh, none⟩) x.hosts.length ch, .int .i64 x.conns, .int .i64 x.pending, .int .i64 x.try_, .int .i64 x.fails, .int .i64 x.eject, .int .i64 x.panic] (.slice (some ⟨gh, oh, none⟩) x.hosts.length ch) v4 ((CLUSTER :: [word x.name, decZ x.policy, decZ x.conns, decZ x.pending, decZ x.try_, decZ x.fails, decZ x.eject, decZ x.panic]) ++ x.hosts.take (k + 1)) x.hosts w4) := Lib.hid (by
        have := HJ3.out.push HP.out (t := t) HT.out hown4 hg4
        rw [hG.out, List.append_assoc, ht.out, ← List.take_succ_eq_append_getElem hlt] at this
        exact this)
      clear HJ3 HN hrow hsz hown4 hg4 hat4 b1
      go_wp2_with fail
      go_roundw
      case rel => exact ⟨k + 1, by omega, by go_num, HP4⟩
      case measure => simp [intOf]; omega
    · have hki : ¬ (k : Int) < (x.hosts.length : Int) := by omega
      obtain rfl : k = x.hosts.length := by omega
      have hGe : G = CLUSTER :: clusW x := by rw [hG.out, List.take_length]; exact HCW.out.symm
      clear hG
      subst hGe
      have HTt := Texts.texts_of HJ.out.row
      have HLc := Lib.hid (HLine.out pv cv wr HTt hcv)
      have HBl := Lib.hid (HG.out ▸ HJ.out.lx.bx.below : Below g w wr)
      obtain ⟨n, hnn⟩ : ∃ n, n = (CLUSTER :: clusW x).length := ⟨_, rfl⟩
      rw [← hnn] at HLc
      have hslot : (.slice pv (CLUSTER :: clusW x).length cv : Value) = .slice pv n cv := by rw [hnn]
      rw [hslot]
      clear HLine HTt HLen HCW hslot hnn HGl hGb hcv HJ
      go_wp2_with fail
      refine HLc.out.mono ?_
      rintro e w2 ⟨rfl, hb2⟩
      have HB2 : Hid (Below g w w2) := Lib.hid (by
        have h1 := HBl.out
        rw [HG.out] at h1 ⊢
        exact below_chain h1 hb2)
      clear hb2 HLc HBl
      go_wp2_with fail
      go_ret
      exact ⟨rfl, HB2.out⟩
end Go.Proofs.YtfihehobkbfmiaaGreatDoor.PCfgY

/- A strings.Builder that a call has made itself, its frame reaching above it: other blocks stand. -/
namespace Go.Proofs.YtfihehobkbfmiaaGreatDoor.PBuildK
open Go.ChangeShapes Go.WideShapes Go.ChangeAt Go.RowKit Bytes Mem PBuildT
/-- the builder in block b, made by the call that began in world w, holds acc -/
def Bk (w : World) (b : Nat) (acc : List UInt8) (wr : World) : Prop := Lib.IsBuilderF 63 5 w.heap.size b (Lib.byteCells acc) wr ∧ Below w.heap.size w wr
theorem Bk.start (w : World) : Bk w w.heap.size [] (w.alloc (.cells #[.pointer none, .slice none 0 0] 63)) :=
  ⟨Lib.IsBuilderF.of (Lib.fresh_isBuilder _ _ w), (Below.refl _ w).alloc (Nat.le_refl _) _⟩
theorem at_belowF {T e : TypeId} {B b : Nat} {p : Value} {bs : List Value} {w w' : World} (h : Lib.BuilderAtF T e B b p bs w) (hb : Below w.heap.size w w') : Lib.BuilderAtF T e B b p bs w' := by
  obtain ⟨hB, v, hv, hown, hne⟩ := h
  have hlt : b < w.heap.size := (Array.getElem?_eq_some_iff.1 hv).1
  refine ⟨hB, v, by rw [hb.block b hlt]; exact hv, ⟨hown.1, ?_⟩, hne⟩
  rcases hown.2 with h0 | ⟨g, cap, cur, fz, h1, h2, h3, h4⟩
  · exact .inl h0
  · exact .inr ⟨g, cap, cur, fz, h1, h2, by rw [hb.block g (Array.getElem?_eq_some_iff.1 h3).1]; exact h3, h4⟩
theorem Bk.keep {w wr w' : World} {b : Nat} {acc : List UInt8} (h : Bk w b acc wr) (hb : Below wr.heap.size wr w') : Bk w b acc w' :=
  ⟨h.1.elim (fun x => .inl (at_belowF x hb)) (fun x => .inr (at_belowF x hb)), ⟨hb.os.trans h.2.os, hb.tape.trans h.2.tape, hb.output.trans h.2.output, Nat.le_trans h.2.size hb.size, fun i hi => (hb.block i (Nat.lt_of_lt_of_le hi h.2.size)).trans (h.2.block i hi)⟩⟩
theorem Bk.lt {w wr : World} {b : Nat} {acc : List UInt8} (h : Bk w b acc wr) : b < wr.heap.size := by
  rcases h.1 with ⟨_, v, hv, _⟩ | ⟨_, v, hv, _⟩
  · exact (Array.getElem?_eq_some_iff.1 hv).1
  · exact (Array.getElem?_eq_some_iff.1 hv).1
theorem bk_text {w wr : World} {b : Nat} {acc : List UInt8} (h : Bk w b acc wr) (l : List UInt8) (hl : acc.length + l.length ≤ 140737488355328) :
    Calls Tryz.prog 29 #[.pointer (some ⟨b, 0, none⟩), .string (ofL l)] wr fun e w' => e = .returned (.tuple #[.int .i64 (ofL l).size, .nilIface]) ∧ Bk w b (acc ++ l) w' ∧ Lib.OthersKept 5 (some b) wr w' := by
  refine (Any.Builder_WriteString_k Tryz.lays166 extra166 w.heap.size b _ (ofL l) wr h.1 (by rw [Lib.byteCells_length, ofL_size]; exact hl) h.2.size).mono ?_
  rintro e w' ⟨rfl, h1, h2, h3⟩
  refine ⟨rfl, ⟨?_, h.2.trans h2⟩, h3⟩
  have e1 : Lib.byteCells (acc ++ l) = Lib.byteCells acc ++ Lib.strCells (ofL l) := by
    have := Lib.byteCells_append acc (toL (ofL l))
    rw [toL_ofL] at this
    rw [this]
    congr 1
  rw [e1]
  exact .inr h1
theorem bk_out {w wr : World} {b : Nat} {acc : List UInt8} (h : Bk w b acc wr) :
    Calls Tryz.prog 34 #[.pointer (some ⟨b, 0, none⟩)] wr fun e w' => e = .returned (.string (ofL acc)) ∧ Below w.heap.size w w' := by
  refine (Any.Builder_String_any_k Tryz.lays169 extra169 w.heap.size b acc wr h.1 h.2.size).mono ?_
  rintro e w' ⟨rfl, _, h2, _⟩
  exact ⟨rfl, h.2.trans h2⟩
theorem has_others {w w' : World} {b g : Nat} {T : TypeId} {cs : Array Value} (h : Has w g T cs) (hk : Lib.OthersKept 5 (some b) w w') (hg : g ≠ b) (hT : T ≠ 5) : Has w' g T cs :=
  ⟨hk g _ h.at_ (by intro e; injection e with e; exact hg e) (by intro c fz e; injection e with _ e2; exact hT e2)⟩
theorem cell_up {w w' : World} {g i : Nat} {v : Value} (hb : Below w.heap.size w w') (h : w.cell? ⟨g, i, none⟩ = some v) : w'.cell? ⟨g, i, none⟩ = some v := by
  have hlt : g < w.heap.size := by
    apply Decidable.byContradiction
    intro hn
    have : w.heap[g]? = none := Array.getElem?_eq_none (Nat.le_of_not_lt hn)
    simp [World.cell?, this] at h
  exact (hb.cell (p := ⟨g, i, none⟩) hlt).trans h
end Go.Proofs.YtfihehobkbfmiaaGreatDoor.PBuildK
