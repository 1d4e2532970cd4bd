/- Texts of this seat, one behind another: PCfgX, PCfgY, PBuildK, PCfgZ, ConfObj. -/
import Derived.Shelf.Strings.BuilderK
import Derived.Test.YtfihehobkbfmiaaGreatDoorRows
import Derived.MakeChecks
import Derived.LaidSub
import Derived.Lib.LaidTab
import Derived.Test.YtfihehobkbfmiaaGreatDoorA2
import Derived.Test.YtfihehobkbfmiaaGreatDoorA3
import Derived.Test.YtfihehobkbfmiaaGreatDoorA8
import Derived.Test.YtfihehobkbfmiaaGreatDoorA12
import Derived.Test.YtfihehobkbfmiaaGreatDoorA1
import Derived.Test.YtfihehobkbfmiaaGreatDoorA7
/- Layer 14 of the program: a line of words; a route's line. -/
namespace Go.Proofs.YtfihehobkbfmiaaGreatDoor.PCfgX
open Go.ChangeShapes Go.WideShapes Go.ChangeAt Go.RowKit Bytes LexPure EmitPure ConfPure ConfMem Ret Mem Texts PCfgLib PCfgT PCfgW R14Line R14Print ConfOwn
set_option maxRecDepth 100000
set_option linter.unusedVariables false
set_option linter.unusedSimpArgs false
theorem join_line (h : L) (ws : List L) : Lib.join (h :: ws) [32] = lineW h ws := by
  rw [Lib.join_cons]
  unfold lineW Lib.joinTail
  rw [List.flatMap_def]
  rfl
theorem row_new (W : World) (G : List L) (base : Nat) (hb : base ≤ W.heap.size) (hG : G.length ≤ 1048576) : (W.alloc (.cells (Texts.strs G).toArray ST)).ownsRow base ST 1 (.slice (some ⟨W.heap.size, 0, none⟩) G.length G.length) G.length (Texts.strs G) := by
  have hl : (Texts.strs G).length = G.length := by simp [Texts.strs]
  refine ⟨by rw [hl]; omega, .inr ⟨W.heap.size, G.length, (Texts.strs G).toArray, rfl, hb, heap_alloc_new W _, Nat.le_refl _, by unfold maxLen; omega, by simp [hl], ?_⟩⟩
  rw [Nat.mul_one, ← hl]
  exact List.take_length
set_option maxHeartbeats 1600000 in
theorem pline_any (h : L) (ws : List L) (p : Option Addr) (cap : Nat) (w : World) (hT : Texts w (.slice p (h :: ws).length cap) (h :: ws)) (hcap : (h :: ws).length ≤ cap) (hl : (lineW h ws).length ≤ 140737488355000) (hn : ws.length ≤ 1048576) :
    Calls Tryz.prog 30 #[.slice p (h :: ws).length cap] w fun e w' => e = .returned (.string (ofL (lineW h ws ++ [10]))) ∧ Below w.heap.size w w' := by
  have HJ := Lib.hid (lib_join hT hcap (by simp) (by rw [join_line]; omega) (by rw [List.length_cons]; omega))
  rw [join_line] at HJ
  have HV : Hid (ofL (lineW h ws ++ [10]) = ofL (lineW h ws) ++ (⟨#[10]⟩ : ByteArray)) := Lib.hid (by rw [← str_app]; rfl)
  have hz : (ofL (lineW h ws)).size ≤ 140737488355000 := by rw [ofL_size]; exact hl
  have s0 : ¬ (9223372036854775807 < (ofL (lineW h ws)).size + 1) := by omega
  obtain ⟨n, hnn⟩ : ∃ n, n = (h :: ws).length := ⟨_, rfl⟩
  rw [← hnn] at HJ ⊢
  rw [HV.out]
  generalize ofL (lineW h ws) = X at HJ s0 ⊢
  clear HV hz hl hn hcap hT hnn
  go_enter Tryz.func30, Tryz.ntmps30
  go_wp2_with fail
  refine HJ.out.mono ?_
  rintro e w1 ⟨rfl, hb⟩
  go_wp2_with fail
  go_ret
  exact ⟨rfl, hb⟩
/-- the line of a list that has just been built -/
theorem pline_new (h : L) (ws : List L) (hl : (lineW h ws).length ≤ 140737488355000) (hn : ws.length ≤ 1048000) (W : World) :
    Calls Tryz.prog 30 #[.slice (some ⟨W.heap.size, 0, none⟩) (h :: ws).length (h :: ws).length] (W.alloc (.cells (Texts.strs (h :: ws)).toArray ST)) fun e w' => e = .returned (.string (ofL (lineW h ws ++ [10]))) ∧ Below W.heap.size W w' := by
  refine (pline_any h ws _ _ _ (texts_of (row_new W (h :: ws) 0 (Nat.zero_le _) (by rw [List.length_cons]; omega))) (Nat.le_refl _) hl (by omega)).mono ?_
  rintro e w' ⟨rfl, hb⟩
  exact ⟨rfl, below_chain ((Below.refl _ _).alloc (Nat.le_refl _) _) hb⟩
/-- a value's box -/
structure Lx (w : World) (g : Nat) (t : TypeId) (cs : Array Value) (W : World) : Prop where
  bx : Bx w g t cs W
  pw : PCfgLib.Pow W
theorem Lx.call {w W W' : World} {g : Nat} {t : TypeId} {cs : Array Value} (x : Lx w g t cs W) (hb : Below W.heap.size W W') : Lx w g t cs W' := ⟨x.bx.call hb, x.pw.below hb⟩
theorem Lx.drew {w W : World} {g : Nat} {t : TypeId} {cs : Array Value} (x : Lx w g t cs W) : Lx w g t cs W.drew := ⟨x.bx.drew, x.pw.below (below_drew (Below.refl _ _))⟩
theorem Lx.start (w : World) (hp : PCfgLib.Pow w) (t : TypeId) (cs : Array Value) : Lx w w.heap.size t cs (w.alloc (.cells cs t)) := ⟨Bx.start w t cs, hp.below ((Below.refl _ _).alloc (Nat.le_refl _) _)⟩
set_option maxHeartbeats 12800000 in
theorem proute_line (x : Rout) (hx : FitRout x) (w : World) (hp : PCfgLib.Pow w) :
    Calls Tryz.prog 33 #[.agg #[.bool x.pre, .string (ofL x.path), .string (ofL x.method), .string (ofL x.field), .string (ofL x.value), .int .i64 x.action, .string (ofL x.cluster), .int .i64 x.status, .string (ofL x.text), .string (ofL x.rewrite), .int .i64 x.retries, .int .i64 x.timeout, .bool x.upgrade]] w fun e w' => e = .returned (.string (ofL (lineW ROUTE (routW x) ++ [10]))) ∧ Below w.heap.size w w' := by
  have hl : (lineW ROUTE (routW x)).length ≤ 80000000 := by
    have := lineW_len 3200000 ROUTE (routW x) (fun w hw => by
      unfold routW at hw
      simp only [List.mem_cons, List.not_mem_nil, or_false] at hw
      rcases hw with rfl | rfl | rfl | rfl | rfl | rfl | rfl | rfl | rfl | rfl | rfl | rfl | rfl
      · exact flen _
      · exact wlen hx.path
      · exact wlen hx.method
      · exact wlen hx.field
      · exact wlen hx.value
      · exact dlen hx.action
      · exact wlen hx.cluster
      · exact dlen hx.status
      · exact wlen hx.text
      · exact wlen hx.rewrite
      · exact dlen hx.retries
      · exact dlen hx.timeout
      · exact flen _)
    have e : (routW x).length = 13 := rfl
    have e2 : ROUTE.length = 5 := rfl
    rw [e, e2] at this
    omega
  have HL : Hid (∀ W : World, Calls Tryz.prog 30 #[.slice (some ⟨W.heap.size, 0, none⟩) 14 14] (W.alloc (.cells #[.string ⟨#[114, 111, 117, 116, 101]⟩, .string (ofL (flagL x.pre)), .string (ofL (word x.path)), .string (ofL (word x.method)), .string (ofL (word x.field)), .string (ofL (word x.value)), .string (ofL (decZ x.action)), .string (ofL (word x.cluster)), .string (ofL (decZ x.status)), .string (ofL (word x.text)), .string (ofL (word x.rewrite)), .string (ofL (decZ x.retries)), .string (ofL (decZ x.timeout)), .string (ofL (flagL x.upgrade))] 9)) fun e w' => e = .returned (.string (ofL (lineW ROUTE (routW x) ++ [10]))) ∧ Below W.heap.size W w') := Lib.hid (fun W => pline_new ROUTE (routW x) (by omega) (show 13 ≤ 1048000 by decide) W)
  generalize ofL (lineW ROUTE (routW x) ++ [10]) = RES at HL ⊢
  clear hl
  have H0 := Lib.hid (fun w => pflag_any x.pre w)
  have H1 := Lib.hid (fun w => pword_any (ofL x.path) (by rw [ofL_size]; have := hx.path; omega) w)
  rw [toL_ofL] at H1
  have H2 := Lib.hid (fun w => pword_any (ofL x.method) (by rw [ofL_size]; have := hx.method; omega) w)
  rw [toL_ofL] at H2
  have H3 := Lib.hid (fun w => pword_any (ofL x.field) (by rw [ofL_size]; have := hx.field; omega) w)
  rw [toL_ofL] at H3
  have H4 := Lib.hid (fun w => pword_any (ofL x.value) (by rw [ofL_size]; have := hx.value; omega) w)
  rw [toL_ofL] at H4
  have H5 := Lib.hid (fun w h => pdecimal_any x.action hx.action.1 hx.action.2 w h)
  have H6 := Lib.hid (fun w => pword_any (ofL x.cluster) (by rw [ofL_size]; have := hx.cluster; omega) w)
  rw [toL_ofL] at H6
  have H7 := Lib.hid (fun w h => pdecimal_any x.status hx.status.1 hx.status.2 w h)
  have H8 := Lib.hid (fun w => pword_any (ofL x.text) (by rw [ofL_size]; have := hx.text; omega) w)
  rw [toL_ofL] at H8
  have H9 := Lib.hid (fun w => pword_any (ofL x.rewrite) (by rw [ofL_size]; have := hx.rewrite; omega) w)
  rw [toL_ofL] at H9
  have H10 := Lib.hid (fun w h => pdecimal_any x.retries hx.retries.1 hx.retries.2 w h)
  have H11 := Lib.hid (fun w h => pdecimal_any x.timeout hx.timeout.1 hx.timeout.2 w h)
  have H12 := Lib.hid (fun w => pflag_any x.upgrade w)
  obtain ⟨A0, hA0⟩ : ∃ A0, A0 = ofL (flagL x.pre) := ⟨_, rfl⟩
  rw [← hA0] at H0 HL
  obtain ⟨A1, hA1⟩ : ∃ A1, A1 = ofL (word x.path) := ⟨_, rfl⟩
  rw [← hA1] at H1 HL
  obtain ⟨A2, hA2⟩ : ∃ A2, A2 = ofL (word x.method) := ⟨_, rfl⟩
  rw [← hA2] at H2 HL
  obtain ⟨A3, hA3⟩ : ∃ A3, A3 = ofL (word x.field) := ⟨_, rfl⟩
  rw [← hA3] at H3 HL
  obtain ⟨A4, hA4⟩ : ∃ A4, A4 = ofL (word x.value) := ⟨_, rfl⟩
  rw [← hA4] at H4 HL
  obtain ⟨A5, hA5⟩ : ∃ A5, A5 = ofL (decZ x.action) := ⟨_, rfl⟩
  rw [← hA5] at H5 HL
  obtain ⟨A6, hA6⟩ : ∃ A6, A6 = ofL (word x.cluster) := ⟨_, rfl⟩
  rw [← hA6] at H6 HL
  obtain ⟨A7, hA7⟩ : ∃ A7, A7 = ofL (decZ x.status) := ⟨_, rfl⟩
  rw [← hA7] at H7 HL
  obtain ⟨A8, hA8⟩ : ∃ A8, A8 = ofL (word x.text) := ⟨_, rfl⟩
  rw [← hA8] at H8 HL
  obtain ⟨A9, hA9⟩ : ∃ A9, A9 = ofL (word x.rewrite) := ⟨_, rfl⟩
  rw [← hA9] at H9 HL
  obtain ⟨A10, hA10⟩ : ∃ A10, A10 = ofL (decZ x.retries) := ⟨_, rfl⟩
  rw [← hA10] at H10 HL
  obtain ⟨A11, hA11⟩ : ∃ A11, A11 = ofL (decZ x.timeout) := ⟨_, rfl⟩
  rw [← hA11] at H11 HL
  obtain ⟨A12, hA12⟩ : ∃ A12, A12 = ofL (flagL x.upgrade) := ⟨_, rfl⟩
  rw [← hA12] at H12 HL
  clear hA0 hA1 hA2 hA3 hA4 hA5 hA6 hA7 hA8 hA9 hA10 hA11 hA12 hx
  have HB := Lib.hid (Lx.start w hp R14Line.RT #[.bool x.pre, .string (ofL x.path), .string (ofL x.method), .string (ofL x.field), .string (ofL x.value), .int .i64 x.action, .string (ofL x.cluster), .int .i64 x.status, .string (ofL x.text), .string (ofL x.rewrite), .int .i64 x.retries, .int .i64 x.timeout, .bool x.upgrade])
  obtain ⟨g, hg⟩ : ∃ g, g = w.heap.size := ⟨_, rfl⟩
  rw [← hg] at HB ⊢
  have HG := Lib.hid hg
  clear hg hp
  unfold R14Line.RT at HB
  go_enter Tryz.func33, Tryz.ntmps33
  go_wp2_with fail
  rw [← HG.out]
  generalize w.alloc (.cells #[.bool x.pre, .string (ofL x.path), .string (ofL x.method), .string (ofL x.field), .string (ofL x.value), .int .i64 x.action, .string (ofL x.cluster), .int .i64 x.status, .string (ofL x.text), .string (ofL x.rewrite), .int .i64 x.retries, .int .i64 x.timeout, .bool x.upgrade] 45) = W1 at HB ⊢
  have P0 := HB.out.drew
  have s0 := rcells P0.bx
  go_region_held3 (fun w' => w'.cell? ⟨g, 0, none⟩ = some (.bool x.pre) ∧ w'.cell? ⟨g, 1, none⟩ = some (.string (ofL x.path)) ∧ w'.cell? ⟨g, 2, none⟩ = some (.string (ofL x.method)) ∧ w'.cell? ⟨g, 3, none⟩ = some (.string (ofL x.field)) ∧ w'.cell? ⟨g, 4, none⟩ = some (.string (ofL x.value)) ∧ w'.cell? ⟨g, 5, none⟩ = some (.int .i64 x.action) ∧ w'.cell? ⟨g, 6, none⟩ = some (.string (ofL x.cluster)) ∧ w'.cell? ⟨g, 7, none⟩ = some (.int .i64 x.status) ∧ w'.cell? ⟨g, 8, none⟩ = some (.string (ofL x.text)) ∧ w'.cell? ⟨g, 9, none⟩ = some (.string (ofL x.rewrite)) ∧ w'.cell? ⟨g, 10, none⟩ = some (.int .i64 x.retries) ∧ w'.cell? ⟨g, 11, none⟩ = some (.int .i64 x.timeout) ∧ w'.cell? ⟨g, 12, none⟩ = some (.bool x.upgrade)) (first | exact s14 | exact (rcells (P12.call ((Below.refl _ _).alloc (Nat.le_refl _) _)).bx) | exact s12 | exact s11 | exact s10 | exact s9 | exact s8 | exact s7 | exact s6 | exact s5 | exact s4 | exact s3 | exact s2 | exact s0)
    (first
      | (go_at_call 70; refine (H0.out _).mono ?_; rintro e v0 ⟨rfl, rfl⟩
         clear H0)
      | (go_at_call 19; refine (H1.out _).mono ?_; rintro e v1 ⟨rfl, hb1⟩
         have P2 := P0.call hb1
         have s2 := rcells P2.bx
         clear H1)
      | (go_at_call 19; refine (H2.out _).mono ?_; rintro e v2 ⟨rfl, hb2⟩
         have P3 := P2.call hb2
         have s3 := rcells P3.bx
         clear H2)
      | (go_at_call 19; refine (H3.out _).mono ?_; rintro e v3 ⟨rfl, hb3⟩
         have P4 := P3.call hb3
         have s4 := rcells P4.bx
         clear H3)
      | (go_at_call 19; refine (H4.out _).mono ?_; rintro e v4 ⟨rfl, hb4⟩
         have P5 := P4.call hb4
         have s5 := rcells P5.bx
         clear H4)
      | (go_at_call 31; refine (H5.out _ P5.pw).mono ?_; rintro e v5 ⟨rfl, hb5⟩
         have P6 := P5.call hb5
         have s6 := rcells P6.bx
         clear H5)
      | (go_at_call 19; refine (H6.out _).mono ?_; rintro e v6 ⟨rfl, hb6⟩
         have P7 := P6.call hb6
         have s7 := rcells P7.bx
         clear H6)
      | (go_at_call 31; refine (H7.out _ P7.pw).mono ?_; rintro e v7 ⟨rfl, hb7⟩
         have P8 := P7.call hb7
         have s8 := rcells P8.bx
         clear H7)
      | (go_at_call 19; refine (H8.out _).mono ?_; rintro e v8 ⟨rfl, hb8⟩
         have P9 := P8.call hb8
         have s9 := rcells P9.bx
         clear H8)
      | (go_at_call 19; refine (H9.out _).mono ?_; rintro e v9 ⟨rfl, hb9⟩
         have P10 := P9.call hb9
         have s10 := rcells P10.bx
         clear H9)
      | (go_at_call 31; refine (H10.out _ P10.pw).mono ?_; rintro e v10 ⟨rfl, hb10⟩
         have P11 := P10.call hb10
         have s11 := rcells P11.bx
         clear H10)
      | (go_at_call 31; refine (H11.out _ P11.pw).mono ?_; rintro e v11 ⟨rfl, hb11⟩
         have P12 := P11.call hb11
         have s12 := rcells P12.bx
         clear H11)
      | (go_at_call 70; refine (H12.out _).mono ?_; rintro e v12 ⟨rfl, rfl⟩
         clear H12)
      | (go_at_call 30; refine (HL.out _).mono ?_; rintro e v13 ⟨rfl, hb13⟩
         have P14 := P12.call hb13
         have s14 := rcells P14.bx))
  have KE := Lib.hid P14.bx.below
  go_wp2_with fail
  go_ret
  exact ⟨rfl, HG.out ▸ KE.out⟩
end Go.Proofs.YtfihehobkbfmiaaGreatDoor.PCfgX

/- Layer 14 of the program: a cluster's line. -/
namespace Go.Proofs.YtfihehobkbfmiaaGreatDoor.PCfgY
open Go.ChangeShapes Go.WideShapes Go.ChangeAt Go.RowKit Bytes LexPure EmitPure ConfPure ConfMem Ret Mem Rows1 PCfgLib PCfgT PCfgW PCfgX
set_option maxRecDepth 100000
set_option linter.unusedVariables false
set_option linter.unusedSimpArgs false
abbrev KT : TypeId := 38
theorem own_far {w : World} {base n size : Nat} {e : TypeId} {v : Value} {xs : List Value} (h : w.ownsRow base e size v n xs) {g : Nat} (hg : g < base) : v.ownBlock ≠ some g := by
  rcases h.2 with ⟨rfl, _⟩ | ⟨b, cap, cur, rfl, hb, _⟩
  · simp [Value.ownBlock]
  · simp [Value.ownBlock]; omega
theorem below_row {w W W' : World} {base n size g : Nat} {e : TypeId} {v : Value} {xs : List Value} (hb : Below g w W) (h : W.ownsRow base e size v n xs) (hg : g < base) (hs : g ≤ W.heap.size) (k : W.grownBy W' v.ownBlock) : Below g w W' :=
  ⟨k.os.trans hb.os, k.tape.trans hb.tape, k.output.trans hb.output, Nat.le_trans hb.size k.size, fun i hi => (k.block i (Nat.lt_of_lt_of_le hi hs) (fun e => own_far h (Nat.lt_trans hi hg) e.symm)).trans (hb.block i hi)⟩
/-- in the loop: the cluster's box, the words so far in a list of its own -/
structure Cl (w : World) (cs : Array Value) (vh v : Value) (G H : List L) (W : World) : Prop where
  lx : Lx w w.heap.size KT cs W
  tx : Texts.Texts W vh H
  row : W.ownsRow (w.heap.size + 1) 9 1 v G.length (Texts.strs G)
theorem Cl.call {w W W' : World} {cs : Array Value} {vh v : Value} {G H : List L} (x : Cl w cs vh v G H W) (hb : Below W.heap.size W W') : Cl w cs vh v G H W' :=
  ⟨x.lx.call hb, Texts.Texts.below x.tx hb, RowKeep.row_below x.row hb⟩
theorem Cl.push {w W W' : World} (hp : PCfgLib.Pow w) {cs : Array Value} {vh v v' : Value} {G H : List L} {t : L} (x : Cl w cs vh v G H W) (h0 : Texts.Texts w vh H) (hr : W'.ownsRow (w.heap.size + 1) 9 1 v' (G.length + 1) (Texts.strs G ++ [.string (ofL t)])) (hg : W.grownBy W' v.ownBlock) : Cl w cs vh v' (G ++ [t]) H W' := by
  have hbl := below_row x.lx.bx.below x.row (Nat.lt_succ_self _) x.lx.bx.below.size hg
  refine ⟨⟨⟨x.lx.bx.box.grown hg (fun e => own_far x.row (Nat.lt_succ_self _) e.symm), hbl⟩, hp.below hbl⟩, Texts.Texts.below h0 hbl, ?_⟩
  rw [List.length_append, List.length_singleton, Texts.strs_append]
  exact hr
theorem ccells {w W : World} {g : Nat} {x : Clus} {ph : Option Addr} {ch : Nat} (h : Lx w g KT #[.string (ofL x.name), .int .i64 x.policy, .slice ph x.hosts.length ch, .int .i64 x.conns, .int .i64 x.pending, .int .i64 x.try_, .int .i64 x.fails, .int .i64 x.eject, .int .i64 x.panic] W) : W.cell? ⟨g, 0, none⟩ = some (.string (ofL x.name)) ∧ W.cell? ⟨g, 1, none⟩ = some (.int .i64 x.policy) ∧ W.cell? ⟨g, 3, none⟩ = some (.int .i64 x.conns) ∧ W.cell? ⟨g, 4, none⟩ = some (.int .i64 x.pending) ∧ W.cell? ⟨g, 5, none⟩ = some (.int .i64 x.try_) ∧ W.cell? ⟨g, 6, none⟩ = some (.int .i64 x.fails) ∧ W.cell? ⟨g, 7, none⟩ = some (.int .i64 x.eject) ∧ W.cell? ⟨g, 8, none⟩ = some (.int .i64 x.panic) :=
  ⟨h.bx.box.cell 0, h.bx.box.cell 1, h.bx.box.cell 3, h.bx.box.cell 4, h.bx.box.cell 5, h.bx.box.cell 6, h.bx.box.cell 7, h.bx.box.cell 8⟩
set_option maxHeartbeats 12800000 in
theorem pcluster_line (x : Clus) (ph : Option Addr) (ch : Nat) (hx : FitClus x) (hn : x.hosts.length ≤ 16) (hw : ∀ t ∈ x.hosts, word t = t) (w : World) (hp : PCfgLib.Pow w) (hT : Texts.Texts w (.slice ph x.hosts.length ch) x.hosts) :
    Calls Tryz.prog 32 #[.agg #[.string (ofL x.name), .int .i64 x.policy, .slice ph x.hosts.length ch, .int .i64 x.conns, .int .i64 x.pending, .int .i64 x.try_, .int .i64 x.fails, .int .i64 x.eject, .int .i64 x.panic]] w fun e w' => e = .returned (.string (ofL (lineW CLUSTER (clusW x) ++ [10]))) ∧ Below w.heap.size w w' := by
  have hl : (lineW CLUSTER (clusW x)).length ≤ 80000000 := by
    have := R14Print.lineW_len 3200000 CLUSTER (clusW x) (fun w hw => by
      unfold clusW at hw
      rcases List.mem_append.1 hw with hw | hw
      · simp only [List.mem_cons, List.not_mem_nil, or_false] at hw
        rcases hw with rfl | rfl | rfl | rfl | rfl | rfl | rfl | rfl
        · exact R14Print.wlen hx.name
        · exact R14Print.dlen hx.policy
        · exact R14Print.dlen hx.conns
        · exact R14Print.dlen hx.pending
        · exact R14Print.dlen hx.try_
        · exact R14Print.dlen hx.fails
        · exact R14Print.dlen hx.eject
        · exact R14Print.dlen hx.panic
      · have := hx.hosts.2 w hw
        omega)
    have e : (clusW x).length = 8 + x.hosts.length := by simp [clusW]; omega
    have e2 : CLUSTER.length = 7 := rfl
    rw [e, e2] at this
    have : (8 + x.hosts.length) * (3200000 + 1) ≤ 24 * 3200001 := Nat.mul_le_mul_right _ (by omega)
    omega
  obtain ⟨i0, hi, hz0, hz1, hz2⟩ := info_parts Texts.infoS
  have HLine := Lib.hid (fun (p : Option Addr) (cap : Nat) (W : World) (hT : Texts.Texts W (.slice p (CLUSTER :: clusW x).length cap) (CLUSTER :: clusW x)) (hc : (CLUSTER :: clusW x).length ≤ cap) => pline_any CLUSTER (clusW x) p cap W hT hc (by omega) (by simp [clusW]; omega))
  have HLen : Hid ((CLUSTER :: clusW x).length = 9 + x.hosts.length) := Lib.hid (by simp [clusW]; omega)
  have HCW : Hid (CLUSTER :: clusW x = CLUSTER :: [word x.name, decZ x.policy, decZ x.conns, decZ x.pending, decZ x.try_, decZ x.fails, decZ x.eject, decZ x.panic] ++ x.hosts) := Lib.hid rfl
  have HT := Lib.hid hT
  have HP := Lib.hid hp
  have HW := Lib.hid (fun (k : Nat) (hk : k < x.hosts.length) => hw _ (List.getElem_mem hk))
  have HF := Lib.hid hx.hosts.2
  have H0 := Lib.hid (fun w => pword_any (ofL x.name) (by rw [ofL_size]; have := hx.name; omega) w)
  rw [toL_ofL] at H0
  have H1 := Lib.hid (fun w h => pdecimal_any x.policy hx.policy.1 hx.policy.2 w h)
  have H2 := Lib.hid (fun w h => pdecimal_any x.conns hx.conns.1 hx.conns.2 w h)
  have H3 := Lib.hid (fun w h => pdecimal_any x.pending hx.pending.1 hx.pending.2 w h)
  have H4 := Lib.hid (fun w h => pdecimal_any x.try_ hx.try_.1 hx.try_.2 w h)
  have H5 := Lib.hid (fun w h => pdecimal_any x.fails hx.fails.1 hx.fails.2 w h)
  have H6 := Lib.hid (fun w h => pdecimal_any x.eject hx.eject.1 hx.eject.2 w h)
  have H7 := Lib.hid (fun w h => pdecimal_any x.panic hx.panic.1 hx.panic.2 w h)
  generalize ofL (lineW CLUSTER (clusW x) ++ [10]) = RES at HLine ⊢
  have HB := Lib.hid (Lx.start w hp KT #[.string (ofL x.name), .int .i64 x.policy, .slice ph x.hosts.length ch, .int .i64 x.conns, .int .i64 x.pending, .int .i64 x.try_, .int .i64 x.fails, .int .i64 x.eject, .int .i64 x.panic])
  have HTx := Lib.hid (Texts.Texts.below hT ((Below.refl _ _).alloc (Nat.le_refl _) (.cells #[.string (ofL x.name), .int .i64 x.policy, .slice ph x.hosts.length ch, .int .i64 x.conns, .int .i64 x.pending, .int .i64 x.try_, .int .i64 x.fails, .int .i64 x.eject, .int .i64 x.panic] KT)))
  obtain ⟨g, hg⟩ : ∃ g, g = w.heap.size := ⟨_, rfl⟩
  rw [← hg] at HB ⊢
  have HG := Lib.hid hg
  clear hg hp hw hx hT hl
  unfold KT at HB HTx
  go_enter Tryz.func32, Tryz.ntmps32
  go_wp2_with fail
  rw [← HG.out]
  generalize w.alloc (.cells #[.string (ofL x.name), .int .i64 x.policy, .slice ph x.hosts.length ch, .int .i64 x.conns, .int .i64 x.pending, .int .i64 x.try_, .int .i64 x.fails, .int .i64 x.eject, .int .i64 x.panic] 38) = W1 at HB HTx ⊢
  have P0 := HB.out.drew
  have s0 := ccells P0
  go_region_held3 (fun w' => w'.cell? ⟨g, 0, none⟩ = some (.string (ofL x.name)) ∧ w'.cell? ⟨g, 1, none⟩ = some (.int .i64 x.policy) ∧ w'.cell? ⟨g, 3, none⟩ = some (.int .i64 x.conns) ∧ w'.cell? ⟨g, 4, none⟩ = some (.int .i64 x.pending) ∧ w'.cell? ⟨g, 5, none⟩ = some (.int .i64 x.try_) ∧ w'.cell? ⟨g, 6, none⟩ = some (.int .i64 x.fails) ∧ w'.cell? ⟨g, 7, none⟩ = some (.int .i64 x.eject) ∧ w'.cell? ⟨g, 8, none⟩ = some (.int .i64 x.panic)) (first | exact (ccells (P8.call ((Below.refl _ _).alloc (Nat.le_refl _) _))) | exact s8 | exact s7 | exact s6 | exact s5 | exact s4 | exact s3 | exact s2 | exact s1 | exact s0)
    (first
      | (go_at_call 19; refine (H0.out _).mono ?_; rintro e v0 ⟨rfl, hb0⟩
         have P1 := P0.call hb0
         have s1 := ccells P1
         clear H0)
      | (go_at_call 31; refine (H1.out _ P1.pw).mono ?_; rintro e v1 ⟨rfl, hb1⟩
         have P2 := P1.call hb1
         have s2 := ccells P2
         clear H1)
      | (go_at_call 31; refine (H2.out _ P2.pw).mono ?_; rintro e v2 ⟨rfl, hb2⟩
         have P3 := P2.call hb2
         have s3 := ccells P3
         clear H2)
      | (go_at_call 31; refine (H3.out _ P3.pw).mono ?_; rintro e v3 ⟨rfl, hb3⟩
         have P4 := P3.call hb3
         have s4 := ccells P4
         clear H3)
      | (go_at_call 31; refine (H4.out _ P4.pw).mono ?_; rintro e v4 ⟨rfl, hb4⟩
         have P5 := P4.call hb4
         have s5 := ccells P5
         clear H4)
      | (go_at_call 31; refine (H5.out _ P5.pw).mono ?_; rintro e v5 ⟨rfl, hb5⟩
         have P6 := P5.call hb5
         have s6 := ccells P6
         clear H5)
      | (go_at_call 31; refine (H6.out _ P6.pw).mono ?_; rintro e v6 ⟨rfl, hb6⟩
         have P7 := P6.call hb6
         have s7 := ccells P7
         clear H6)
      | (go_at_call 31; refine (H7.out _ P7.pw).mono ?_; rintro e v7 ⟨rfl, hb7⟩
         have P8 := P7.call hb7
         have s8 := ccells P8
         clear H7))
  have C0 : Cl w #[.string (ofL x.name), .int .i64 x.policy, .slice ph x.hosts.length ch, .int .i64 x.conns, .int .i64 x.pending, .int .i64 x.try_, .int .i64 x.fails, .int .i64 x.eject, .int .i64 x.panic] (.slice ph x.hosts.length ch) (.slice (some ⟨v7.heap.size, 0, none⟩) 9 9) (CLUSTER :: [word x.name, decZ x.policy, decZ x.conns, decZ x.pending, decZ x.try_, decZ x.fails, decZ x.eject, decZ x.panic]) x.hosts (v7.alloc (.cells (Texts.strs (CLUSTER :: [word x.name, decZ x.policy, decZ x.conns, decZ x.pending, decZ x.try_, decZ x.fails, decZ x.eject, decZ x.panic])).toArray 9)) := by
    have hal := (Below.refl v7.heap.size v7).alloc (Nat.le_refl _) (.cells (Texts.strs (CLUSTER :: [word x.name, decZ x.policy, decZ x.conns, decZ x.pending, decZ x.try_, decZ x.fails, decZ x.eject, decZ x.panic])).toArray 9)
    exact ⟨HG.out ▸ (P8.call hal), Texts.Texts.below (Texts.Texts.below (Texts.Texts.below (Texts.Texts.below (Texts.Texts.below (Texts.Texts.below (Texts.Texts.below (Texts.Texts.below (Texts.Texts.below (show Texts.Texts W1.drew _ _ from HTx.out) hb0) hb1) hb2) hb3) hb4) hb5) hb6) hb7) hal, row_new v7 (CLUSTER :: [word x.name, decZ x.policy, decZ x.conns, decZ x.pending, decZ x.try_, decZ x.fails, decZ x.eject, decZ x.panic]) _ (by have := P8.bx.box.lt; rw [HG.out] at this; omega) (show 9 ≤ 1048576 by decide)⟩
  have HC0 := Lib.hid C0
  clear C0 P0 s0 P1 s1 P2 s2 P3 s3 P4 s4 P5 s5 P6 s6 P7 s7 P8 s8 hb0 hb1 hb2 hb3 hb4 hb5 hb6 hb7 HB HTx
  generalize hWW : (v7.alloc (.cells #[.string ⟨#[99, 108, 117, 115, 116, 101, 114]⟩, .string (ofL (word x.name)), .string (ofL (decZ x.policy)), .string (ofL (decZ x.conns)), .string (ofL (decZ x.pending)), .string (ofL (decZ x.try_)), .string (ofL (decZ x.fails)), .string (ofL (decZ x.eject)), .string (ofL (decZ x.panic))] 9)) = W2
  have HC : Hid (Cl w #[.string (ofL x.name), .int .i64 x.policy, .slice ph x.hosts.length ch, .int .i64 x.conns, .int .i64 x.pending, .int .i64 x.try_, .int .i64 x.fails, .int .i64 x.eject, .int .i64 x.panic] (.slice ph x.hosts.length ch) (.slice (some ⟨v7.heap.size, 0, none⟩) 9 9) (CLUSTER :: [word x.name, decZ x.policy, decZ x.conns, decZ x.pending, decZ x.try_, decZ x.fails, decZ x.eject, decZ x.panic]) x.hosts W2) := Lib.hid (hWW ▸ HC0.out)
  clear HC0 hWW
  obtain ⟨bs, hbs⟩ : ∃ bs, bs = v7.heap.size := ⟨_, rfl⟩
  rw [← hbs] at HC ⊢
  clear hbs
  have b2 : W2.cell? ⟨g, 2, none⟩ = some (.slice ph x.hosts.length ch) := by
    have := HC.out.lx.bx.box.cell 2
    rw [← HG.out] at this
    exact this
  have hn0 : (0 : Int) ≤ (x.hosts.length : Int) := by omega
  go_wp2_with fail
  clear b2
  go_loopw [3, 34] (fun v i2 wr => ∃ k : Nat, k ≤ x.hosts.length ∧ i2 = .int .i64 k ∧ Hid (Cl w #[.string (ofL x.name), .int .i64 x.policy, .slice ph x.hosts.length ch, .int .i64 x.conns, .int .i64 x.pending, .int .i64 x.try_, .int .i64 x.fails, .int .i64 x.eject, .int .i64 x.panic] (.slice ph x.hosts.length ch) v ((CLUSTER :: [word x.name, decZ x.policy, decZ x.conns, decZ x.pending, decZ x.try_, decZ x.fails, decZ x.eject, decZ x.panic]) ++ x.hosts.take k) x.hosts wr)) (fun _ i2 _ => x.hosts.length - (intOf i2).toNat)
  case atStart => exact ⟨0, Nat.zero_le _, rfl, by rw [List.take_zero, List.append_nil]; exact HC⟩
  case round =>
    obtain ⟨k, hk, rfl, HJ⟩ := hrel
    clear HC
    obtain ⟨G, hG⟩ : ∃ G, Hid (G = (CLUSTER :: [word x.name, decZ x.policy, decZ x.conns, decZ x.pending, decZ x.try_, decZ x.fails, decZ x.eject, decZ x.panic]) ++ x.hosts.take k) := ⟨_, Lib.hid rfl⟩
    have hGl : G.length = 9 + k := by rw [hG.out, List.length_append, List.length_take]; simp; omega
    rw [← hG.out] at HJ
    have hGb : G.length ≤ 100 := by omega
    have HGl := Lib.hid hGl
    clear hGl
    obtain ⟨pv, cv, hvv, hcv⟩ := RowKeep.row_form HJ.out.row
    subst hvv
    by_cases hlt : k < x.hosts.length
    · have hki : (k : Int) < (x.hosts.length : Int) := by omega
      have hk0 : (0 : Int) ≤ (k : Int) := by omega
      obtain ⟨p2, c2, hv2, _, hcell0⟩ := HJ.out.tx
      injection hv2 with e1 _ e3
      subst e3
      obtain ⟨gh, oh, hph, _, hcell⟩ := hcell0 (by omega)
      subst e1
      subst hph
      have b1 := hcell k hlt
      obtain ⟨t, ht⟩ : ∃ t, Hid (t = x.hosts[k]) := ⟨_, Lib.hid rfl⟩
      rw [← ht.out] at b1
      have htl : t.length ≤ 1048576 := by rw [ht.out]; exact HF.out _ (List.getElem_mem hlt)
      have HWd := Lib.hid (fun w => pword_any (ofL t) (by rw [ofL_size]; omega) w)
      rw [toL_ofL, show word t = t from by rw [ht.out]; exact HW.out k hlt] at HWd
      clear hcell hcell0
      go_wp2_with fail
      refine (HWd.out _).mono ?_
      rintro e w2 ⟨rfl, hb2⟩
      have HJ2 := Lib.hid (HJ.out.call hb2)
      have HJ3 := Lib.hid (HJ2.out.call ((Below.refl w2.heap.size w2).alloc (Nat.le_refl _) (.cells #[.string (ofL t)] 9)))
      have HN := World.news_of_block (heap_alloc_new w2 (.cells #[.string (ofL t)] 9))
      have hrow := HJ3.out.row
      have hsz : w.heap.size + 1 ≤ (w2.alloc (.cells #[.string (ofL t)] 9)).heap.size := by
        have := HJ2.out.lx.bx.box.lt
        simp
        omega
      clear HJ hb2 HJ2 HWd
      go_wp2_with (at_builtin; refine wpList_append_own_at _ rfl (.tmp 38) (.tmp 41) 36 rfl (w.heap.size + 1) 9 i0 (.string ByteArray.empty) 1 16 Tryz.underlying36 hi hz0 hz1 hz2 rfl (by decide) (.slice pv G.length cv) G.length (Texts.strs G) rfl hrow ⟨w2.heap.size, 0, none⟩ 1 1 [.string (ofL t)] rfl rfl HN (by simp [Value.oneCell']) (by simp only [maxLen]; omega) (by omega) hsz ?_; intro v4 w4 hown4 hg4 _ hat4)
      have HP4 : Hid (Cl w #[.string (ofL x.name), .int .i64 x.policy, .slice (some ⟨gh, oh, none⟩) x.hosts.length ch, .int .i64 x.conns, .int .i64 x.pending, .int .i64 x.try_, .int .i64 x.fails, .int .i64 x.eject, .int .i64 x.panic] (.slice (some ⟨gh, oh, none⟩) x.hosts.length ch) v4 ((CLUSTER :: [word x.name, decZ x.policy, decZ x.conns, decZ x.pending, decZ x.try_, decZ x.fails, decZ x.eject, decZ x.panic]) ++ x.hosts.take (k + 1)) x.hosts w4) := Lib.hid (by
        have := HJ3.out.push HP.out (t := t) HT.out hown4 hg4
        rw [hG.out, List.append_assoc, ht.out, ← List.take_succ_eq_append_getElem hlt] at this
        exact this)
      clear HJ3 HN hrow hsz hown4 hg4 hat4 b1
      go_wp2_with fail
      go_roundw
      case rel => exact ⟨k + 1, by omega, by go_num, HP4⟩
      case measure => simp [intOf]; omega
    · have hki : ¬ (k : Int) < (x.hosts.length : Int) := by omega
      obtain rfl : k = x.hosts.length := by omega
      have hGe : G = CLUSTER :: clusW x := by rw [hG.out, List.take_length]; exact HCW.out.symm
      clear hG
      subst hGe
      have HTt := Texts.texts_of HJ.out.row
      have HLc := Lib.hid (HLine.out pv cv wr HTt hcv)
      have HBl := Lib.hid (HG.out ▸ HJ.out.lx.bx.below : Below g w wr)
      obtain ⟨n, hnn⟩ : ∃ n, n = (CLUSTER :: clusW x).length := ⟨_, rfl⟩
      rw [← hnn] at HLc
      have hslot : (.slice pv (CLUSTER :: clusW x).length cv : Value) = .slice pv n cv := by rw [hnn]
      rw [hslot]
      clear HLine HTt HLen HCW hslot hnn HGl hGb hcv HJ
      go_wp2_with fail
      refine HLc.out.mono ?_
      rintro e w2 ⟨rfl, hb2⟩
      have HB2 : Hid (Below g w w2) := Lib.hid (by
        have h1 := HBl.out
        rw [HG.out] at h1 ⊢
        exact below_chain h1 hb2)
      clear hb2 HLc HBl
      go_wp2_with fail
      go_ret
      exact ⟨rfl, HB2.out⟩
end Go.Proofs.YtfihehobkbfmiaaGreatDoor.PCfgY

/- A strings.Builder that a call has made itself, its frame reaching above it: other blocks stand. -/
namespace Go.Proofs.YtfihehobkbfmiaaGreatDoor.PBuildK
open Go.ChangeShapes Go.WideShapes Go.ChangeAt Go.RowKit Bytes Mem PBuildT
/-- the builder in block b, made by the call that began in world w, holds acc -/
def Bk (w : World) (b : Nat) (acc : List UInt8) (wr : World) : Prop := Lib.IsBuilderF 63 5 w.heap.size b (Lib.byteCells acc) wr ∧ Below w.heap.size w wr
theorem Bk.start (w : World) : Bk w w.heap.size [] (w.alloc (.cells #[.pointer none, .slice none 0 0] 63)) :=
  ⟨Lib.IsBuilderF.of (Lib.fresh_isBuilder _ _ w), (Below.refl _ w).alloc (Nat.le_refl _) _⟩
theorem at_belowF {T e : TypeId} {B b : Nat} {p : Value} {bs : List Value} {w w' : World} (h : Lib.BuilderAtF T e B b p bs w) (hb : Below w.heap.size w w') : Lib.BuilderAtF T e B b p bs w' := by
  obtain ⟨hB, v, hv, hown, hne⟩ := h
  have hlt : b < w.heap.size := (Array.getElem?_eq_some_iff.1 hv).1
  refine ⟨hB, v, by rw [hb.block b hlt]; exact hv, ⟨hown.1, ?_⟩, hne⟩
  rcases hown.2 with h0 | ⟨g, cap, cur, fz, h1, h2, h3, h4⟩
  · exact .inl h0
  · exact .inr ⟨g, cap, cur, fz, h1, h2, by rw [hb.block g (Array.getElem?_eq_some_iff.1 h3).1]; exact h3, h4⟩
theorem Bk.keep {w wr w' : World} {b : Nat} {acc : List UInt8} (h : Bk w b acc wr) (hb : Below wr.heap.size wr w') : Bk w b acc w' :=
  ⟨h.1.elim (fun x => .inl (at_belowF x hb)) (fun x => .inr (at_belowF x hb)), ⟨hb.os.trans h.2.os, hb.tape.trans h.2.tape, hb.output.trans h.2.output, Nat.le_trans h.2.size hb.size, fun i hi => (hb.block i (Nat.lt_of_lt_of_le hi h.2.size)).trans (h.2.block i hi)⟩⟩
theorem Bk.lt {w wr : World} {b : Nat} {acc : List UInt8} (h : Bk w b acc wr) : b < wr.heap.size := by
  rcases h.1 with ⟨_, v, hv, _⟩ | ⟨_, v, hv, _⟩
  · exact (Array.getElem?_eq_some_iff.1 hv).1
  · exact (Array.getElem?_eq_some_iff.1 hv).1
theorem bk_text {w wr : World} {b : Nat} {acc : List UInt8} (h : Bk w b acc wr) (l : List UInt8) (hl : acc.length + l.length ≤ 140737488355328) :
    Calls Tryz.prog 29 #[.pointer (some ⟨b, 0, none⟩), .string (ofL l)] wr fun e w' => e = .returned (.tuple #[.int .i64 (ofL l).size, .nilIface]) ∧ Bk w b (acc ++ l) w' ∧ Lib.OthersKept 5 (some b) wr w' := by
  refine (Any.Builder_WriteString_k Tryz.lays166 extra166 w.heap.size b _ (ofL l) wr h.1 (by rw [Lib.byteCells_length, ofL_size]; exact hl) h.2.size).mono ?_
  rintro e w' ⟨rfl, h1, h2, h3⟩
  refine ⟨rfl, ⟨?_, h.2.trans h2⟩, h3⟩
  have e1 : Lib.byteCells (acc ++ l) = Lib.byteCells acc ++ Lib.strCells (ofL l) := by
    have := Lib.byteCells_append acc (toL (ofL l))
    rw [toL_ofL] at this
    rw [this]
    congr 1
  rw [e1]
  exact .inr h1
theorem bk_out {w wr : World} {b : Nat} {acc : List UInt8} (h : Bk w b acc wr) :
    Calls Tryz.prog 34 #[.pointer (some ⟨b, 0, none⟩)] wr fun e w' => e = .returned (.string (ofL acc)) ∧ Below w.heap.size w w' := by
  refine (Any.Builder_String_any_k Tryz.lays169 extra169 w.heap.size b acc wr h.1 h.2.size).mono ?_
  rintro e w' ⟨rfl, _, h2, _⟩
  exact ⟨rfl, h.2.trans h2⟩
theorem has_others {w w' : World} {b g : Nat} {T : TypeId} {cs : Array Value} (h : Has w g T cs) (hk : Lib.OthersKept 5 (some b) w w') (hg : g ≠ b) (hT : T ≠ 5) : Has w' g T cs :=
  ⟨hk g _ h.at_ (by intro e; injection e with e; exact hg e) (by intro c fz e; injection e with _ e2; exact hT e2)⟩
theorem cell_up {w w' : World} {g i : Nat} {v : Value} (hb : Below w.heap.size w w') (h : w.cell? ⟨g, i, none⟩ = some v) : w'.cell? ⟨g, i, none⟩ = some v := by
  have hlt : g < w.heap.size := by
    apply Decidable.byContradiction
    intro hn
    have : w.heap[g]? = none := Array.getElem?_eq_none (Nat.le_of_not_lt hn)
    simp [World.cell?, this] at h
  exact (hb.cell (p := ⟨g, i, none⟩) hlt).trans h
end Go.Proofs.YtfihehobkbfmiaaGreatDoor.PBuildK

/- Layer 14 of the program: Print, of a right config. -/
namespace Go.Proofs.YtfihehobkbfmiaaGreatDoor.PCfgZ
open Go.ChangeShapes Go.WideShapes Go.ChangeAt Go.RowKit Bytes LexPure EmitPure ConfPure ConfBack ConfLines ConfMem Ret Mem PBuildK PCfgLib PCfgT PCfgW PCfgX
set_option maxRecDepth 100000
set_option linter.unusedVariables false
set_option linter.unusedSimpArgs false
abbrev CT : TypeId := 26
/-- the config's box and the builder -/
structure Pn (w W0 : World) (c : Conf) (vf vc vv : Value) (acc : L) (W : World) : Prop where
  b0 : Has W0 w.heap.size CT (confV c vf vc vv)
  c0 : CF W0 vf vc vv c
  p0 : PCfgLib.Pow W0
  l0 : Below w.heap.size w W0
  bk : Bk W0 W0.heap.size acc W
section
variable {w W0 W W' : World} {c : Conf} {vf vc vv : Value} {acc : L}
theorem Pn.box (x : Pn w W0 c vf vc vv acc W) : Has W w.heap.size CT (confV c vf vc vv) := x.b0.below x.bk.2 x.b0.lt
theorem Pn.pw (x : Pn w W0 c vf vc vv acc W) : PCfgLib.Pow W := x.p0.below x.bk.2
theorem Pn.below (x : Pn w W0 c vf vc vv acc W) : Below w.heap.size w W := below_chain x.l0 x.bk.2
theorem Pn.call (x : Pn w W0 c vf vc vv acc W) (hb : Below W.heap.size W W') : Pn w W0 c vf vc vv acc W' := ⟨x.b0, x.c0, x.p0, x.l0, x.bk.keep hb⟩
theorem Pn.drew (x : Pn w W0 c vf vc vv acc W) : Pn w W0 c vf vc vv acc W.drew := x.call (below_drew (Below.refl _ _))
theorem Pn.text {acc' : L} (x : Pn w W0 c vf vc vv acc W) (hb : Bk W0 W0.heap.size acc' W') : Pn w W0 c vf vc vv acc' W' := ⟨x.b0, x.c0, x.p0, x.l0, hb⟩
theorem Pn.start {w : World} (hC : CF w vf vc vv c) (hp : PCfgLib.Pow w) : Pn w (w.alloc (.cells (confV c vf vc vv) CT)) c vf vc vv [] ((w.alloc (.cells (confV c vf vc vv) CT)).alloc (.cells #[.pointer none, .slice none 0 0] 63)) :=
  have ha := (Below.refl w.heap.size w).alloc (Nat.le_refl _) (.cells (confV c vf vc vv) CT)
  ⟨Has.new w _ _, hC.below ha, hp.below ha, ha, Bk.start _⟩
theorem ncells (x : Pn w W0 c vf vc vv acc W) : W.cell? ⟨w.heap.size, 0, none⟩ = some (.int .i64 c.conns) ∧ W.cell? ⟨w.heap.size, 1, none⟩ = some (.int .i64 c.body) ∧ W.cell? ⟨w.heap.size, 2, none⟩ = some (.int .i64 c.idle) ∧ W.cell? ⟨w.heap.size, 3, none⟩ = some (.int .i64 c.grace) ∧ W.cell? ⟨w.heap.size, 4, none⟩ = some (.int .i64 c.budget) ∧ W.cell? ⟨w.heap.size, 5, none⟩ = some (.int .i64 c.seed) :=
  have h := x.box
  ⟨h.cell 0, h.cell 1, h.cell 2, h.cell 3, h.cell 4, h.cell 5⟩
/-- and an item's box -/
structure Pi (w W0 : World) (c : Conf) (vf vc vv : Value) (acc : L) (gi : Nat) (t : TypeId) (cs : Array Value) (W : World) : Prop where
  pn : Pn w W0 c vf vc vv acc W
  it : Has W gi t cs
  hi : W0.heap.size < gi
variable {gi : Nat} {t : TypeId} {cs : Array Value}
theorem Pi.start (x : Pn w W0 c vf vc vv acc W) (t : TypeId) (cs : Array Value) : Pi w W0 c vf vc vv acc W.heap.size t cs (W.alloc (.cells cs t)) := ⟨x.call ((Below.refl _ _).alloc (Nat.le_refl _) _), Has.new _ _ _, x.bk.lt⟩
theorem Pi.call (x : Pi w W0 c vf vc vv acc gi t cs W) (hb : Below W.heap.size W W') : Pi w W0 c vf vc vv acc gi t cs W' := ⟨x.pn.call hb, x.it.below hb x.it.lt, x.hi⟩
theorem Pi.drew (x : Pi w W0 c vf vc vv acc gi t cs W) : Pi w W0 c vf vc vv acc gi t cs W.drew := x.call (below_drew (Below.refl _ _))
theorem Pi.text {acc' : L} (x : Pi w W0 c vf vc vv acc gi t cs W) (hb : Bk W0 W0.heap.size acc' W') (hk : Lib.OthersKept 5 (some W0.heap.size) W W') (ht : t ≠ 5) : Pi w W0 c vf vc vv acc' gi t cs W' := ⟨x.pn.text hb, has_others x.it hk (by have := x.hi; omega) ht, x.hi⟩
end
theorem fcells {w W0 W : World} {c : Conf} {vf vc vv : Value} {acc : L} {gi : Nat} {x : Filt} (h : Pi w W0 c vf vc vv acc gi 49 #[.int .i64 x.kind, .string (ofL x.name), .string (ofL x.value), .int .i64 x.n, .int .i64 x.m, .int .i64 x.k] W) : W.cell? ⟨gi, 0, none⟩ = some (.int .i64 x.kind) ∧ W.cell? ⟨gi, 1, none⟩ = some (.string (ofL x.name)) ∧ W.cell? ⟨gi, 2, none⟩ = some (.string (ofL x.value)) ∧ W.cell? ⟨gi, 3, none⟩ = some (.int .i64 x.n) ∧ W.cell? ⟨gi, 4, none⟩ = some (.int .i64 x.m) ∧ W.cell? ⟨gi, 5, none⟩ = some (.int .i64 x.k) :=
  ⟨h.it.cell 0, h.it.cell 1, h.it.cell 2, h.it.cell 3, h.it.cell 4, h.it.cell 5⟩
set_option maxHeartbeats 12800000 in
theorem pprint_any (c : Conf) (vf vc vv : Value) (hx : FitConf c) (hk : check14 c = 0) (w : World) (hp : PCfgLib.Pow w) (hC : CF w vf vc vv c) :
    Calls Tryz.prog 12 #[.agg (confV c vf vc vv)] w fun e w' => e = .returned (.string (ofL (print14 c))) ∧ Below w.heap.size w w' := by
  have hr := right_of hk
  have HX := Lib.hid hx
  have HR := Lib.hid hr
  have HN0 := Lib.hid (Pn.start hC hp)
  obtain ⟨⟨pf, cf, rfl⟩, ⟨pc, cc, rfl⟩, ⟨pv, cv, rfl⟩⟩ := R14Bnd.CF.vals hC
  have hfl := hx.filters.1
  have hcl := hx.clusters.1
  have hvl := hx.vhosts.1
  have hl0 : (textL [lineW LISTEN (listenW c)]).length ≤ 90000000000 := R14Print.part_len (B := c.filters.map (fun f => lineW FILTER (filtW f)) ++ (c.clusters.map (fun x => lineW CLUSTER (clusW x)) ++ c.vhosts.flatMap vhosLs)) hx hr rfl
  have hl1 : (lineW LISTEN (listenW c) ++ [10]).length ≤ 90000000000 := by simpa [textL] using hl0
  have hll : (lineW LISTEN (listenW c)).length ≤ 90000000000 := by rw [List.length_append] at hl1; omega
  have H0 := Lib.hid (fun w h => pdecimal_any c.conns hx.conns.1 hx.conns.2 w h)
  have H1 := Lib.hid (fun w h => pdecimal_any c.body hx.body.1 hx.body.2 w h)
  have H2 := Lib.hid (fun w h => pdecimal_any c.idle hx.idle.1 hx.idle.2 w h)
  have H3 := Lib.hid (fun w h => pdecimal_any c.grace hx.grace.1 hx.grace.2 w h)
  have H4 := Lib.hid (fun w h => pdecimal_any c.budget hx.budget.1 hx.budget.2 w h)
  have H5 := Lib.hid (fun w h => pdecimal_any c.seed hx.seed.1 hx.seed.2 w h)
  have HL : Hid (∀ W : World, Calls Tryz.prog 30 #[.slice (some ⟨W.heap.size, 0, none⟩) 7 7] (W.alloc (.cells #[.string ⟨#[108, 105, 115, 116, 101, 110]⟩, .string (ofL (decZ c.conns)), .string (ofL (decZ c.body)), .string (ofL (decZ c.idle)), .string (ofL (decZ c.grace)), .string (ofL (decZ c.budget)), .string (ofL (decZ c.seed))] 9)) fun e w' => e = .returned (.string (ofL (lineW LISTEN (listenW c) ++ [10]))) ∧ Below W.heap.size W w') := Lib.hid (fun W => pline_new LISTEN (listenW c) (by omega) (show 6 ≤ 1048000 by decide) W)
  have HV : Hid (textL [lineW LISTEN (listenW c)] = lineW LISTEN (listenW c) ++ [10]) := Lib.hid (by simp [textL])
  obtain ⟨LN, hLN⟩ : ∃ LN, LN = lineW LISTEN (listenW c) ++ [10] := ⟨_, rfl⟩
  rw [← hLN] at HL HV hl1
  obtain ⟨A0, hA0⟩ : ∃ A0, A0 = ofL (decZ c.conns) := ⟨_, rfl⟩
  rw [← hA0] at H0 HL
  obtain ⟨A1, hA1⟩ : ∃ A1, A1 = ofL (decZ c.body) := ⟨_, rfl⟩
  rw [← hA1] at H1 HL
  obtain ⟨A2, hA2⟩ : ∃ A2, A2 = ofL (decZ c.idle) := ⟨_, rfl⟩
  rw [← hA2] at H2 HL
  obtain ⟨A3, hA3⟩ : ∃ A3, A3 = ofL (decZ c.grace) := ⟨_, rfl⟩
  rw [← hA3] at H3 HL
  obtain ⟨A4, hA4⟩ : ∃ A4, A4 = ofL (decZ c.budget) := ⟨_, rfl⟩
  rw [← hA4] at H4 HL
  obtain ⟨A5, hA5⟩ : ∃ A5, A5 = ofL (decZ c.seed) := ⟨_, rfl⟩
  rw [← hA5] at H5 HL
  clear hA0 hA1 hA2 hA3 hA4 hA5 hx hr hk hC hp hl0 hll hLN
  obtain ⟨g, hg⟩ : ∃ g, g = w.heap.size := ⟨_, rfl⟩
  have HG := Lib.hid hg
  unfold confV at HN0 ⊢
  unfold CT at HN0
  generalize hW0 : w.alloc (.cells #[.int .i64 c.conns, .int .i64 c.body, .int .i64 c.idle, .int .i64 c.grace, .int .i64 c.budget, .int .i64 c.seed, .slice pf c.filters.length cf, .slice pc c.clusters.length cc, .slice pv c.vhosts.length cv] 26) = W0 at HN0
  have HW0 := Lib.hid hW0
  obtain ⟨b, hb⟩ : ∃ b, b = W0.heap.size := ⟨_, rfl⟩
  have HBb := Lib.hid hb
  have HB1 : Hid (w.heap.size + 1 = b) := Lib.hid (by rw [hb, ← hW0]; simp)
  clear hg hW0 hb
  go_enter Tryz.func12, Tryz.ntmps12
  go_wp2_with fail
  rw [HW0.out, HB1.out, ← HG.out]
  generalize (W0.alloc (.cells #[.pointer none, .slice none 0 0] 63)) = W1 at HN0 ⊢
  have P0 := HN0.out.drew
  have s0 := ncells P0
  rw [← HG.out] at s0
  go_region_held3 (fun w' => w'.cell? ⟨g, 0, none⟩ = some (.int .i64 c.conns) ∧ w'.cell? ⟨g, 1, none⟩ = some (.int .i64 c.body) ∧ w'.cell? ⟨g, 2, none⟩ = some (.int .i64 c.idle) ∧ w'.cell? ⟨g, 3, none⟩ = some (.int .i64 c.grace) ∧ w'.cell? ⟨g, 4, none⟩ = some (.int .i64 c.budget) ∧ w'.cell? ⟨g, 5, none⟩ = some (.int .i64 c.seed)) (first | exact s8 | exact s7 | exact (HG.out ▸ ncells (P6.call ((Below.refl _ _).alloc (Nat.le_refl _) _))) | exact s6 | exact s5 | exact s4 | exact s3 | exact s2 | exact s1 | exact s0)
    (first
      | (go_at_call 31; refine (H0.out _ P0.pw).mono ?_; rintro e v0 ⟨rfl, hb0⟩
         have P1 := P0.call hb0
         have s1 := ncells P1
         rw [← HG.out] at s1
         clear H0)
      | (go_at_call 31; refine (H1.out _ P1.pw).mono ?_; rintro e v1 ⟨rfl, hb1⟩
         have P2 := P1.call hb1
         have s2 := ncells P2
         rw [← HG.out] at s2
         clear H1)
      | (go_at_call 31; refine (H2.out _ P2.pw).mono ?_; rintro e v2 ⟨rfl, hb2⟩
         have P3 := P2.call hb2
         have s3 := ncells P3
         rw [← HG.out] at s3
         clear H2)
      | (go_at_call 31; refine (H3.out _ P3.pw).mono ?_; rintro e v3 ⟨rfl, hb3⟩
         have P4 := P3.call hb3
         have s4 := ncells P4
         rw [← HG.out] at s4
         clear H3)
      | (go_at_call 31; refine (H4.out _ P4.pw).mono ?_; rintro e v4 ⟨rfl, hb4⟩
         have P5 := P4.call hb4
         have s5 := ncells P5
         rw [← HG.out] at s5
         clear H4)
      | (go_at_call 31; refine (H5.out _ P5.pw).mono ?_; rintro e v5 ⟨rfl, hb5⟩
         have P6 := P5.call hb5
         have s6 := ncells P6
         rw [← HG.out] at s6
         clear H5)
      | (go_at_call 30; refine (HL.out _).mono ?_; rintro e v6 ⟨rfl, hb6⟩
         have P7 := P6.call hb6
         have s7 := ncells P7
         rw [← HG.out] at s7)
      | (go_at_call 29; rw [HBb.out]; refine (bk_text P7.bk LN (by simp; omega)).mono ?_; rintro e v7 ⟨rfl, hb7, _⟩
         have P8 := P7.text hb7
         have s8 := ncells P8
         rw [← HG.out] at s8))
  have K2 := Lib.hid P8
  rw [List.nil_append] at K2
  clear HL hl1 HN0 P0 s0 P1 s1 P2 s2 P3 s3 P4 s4 P5 s5 P6 s6 P7 s7 P8 s8 hb0 hb1 hb2 hb3 hb4 hb5 hb6 hb7
  have hc0 : (c.filters.length : Int) ≤ 1048576 := by omega
  have b6 : v7.cell? ⟨g, 6, none⟩ = some (.slice pf c.filters.length cf) := by
    have := K2.out.box.cell 6
    rw [← HG.out] at this
    exact this
  go_wp2_with fail
  clear b6
  go_loopw [36] (fun i2 wr => ∃ k : Nat, k ≤ c.filters.length ∧ i2 = .int .i64 k ∧ Hid (Pn w W0 c (.slice pf c.filters.length cf) (.slice pc c.clusters.length cc) (.slice pv c.vhosts.length cv) (textL (lineW LISTEN (listenW c) :: (c.filters.take k).map (fun f => lineW FILTER (filtW f)))) wr)) (fun i2 _ => c.filters.length - (intOf i2).toNat)
  case atStart => exact ⟨0, Nat.zero_le _, rfl, by rw [List.take_zero, List.map_nil, HV.out]; exact K2⟩
  case round =>
    obtain ⟨k, hk, rfl, HJ⟩ := hrel
    clear K2
    by_cases hlt : k < c.filters.length
    · have hki : (k : Int) < (c.filters.length : Int) := by omega
      have hk0 : (0 : Int) ≤ (k : Int) := by omega
      obtain ⟨gf, of, rfl, hxc⟩ := R14Check.filts_at HJ.out.c0.filters k hlt
      obtain ⟨x, hxx⟩ : ∃ x, x = c.filters[k] := ⟨_, rfl⟩
      obtain ⟨m0, m1, m2, m3, m4, m5⟩ := hxc x hxx
      have hup := HJ.out.bk.2
      replace m0 := cell_up hup m0
      replace m1 := cell_up hup m1
      replace m2 := cell_up hup m2
      replace m3 := cell_up hup m3
      replace m4 := cell_up hup m4
      replace m5 := cell_up hup m5
      have hfx : FitFilt x := by rw [hxx]; exact HX.out.filters.2 _ (List.getElem_mem hlt)
      have HS : Hid (textL (lineW LISTEN (listenW c) :: (c.filters.take (k + 1)).map (fun f => lineW FILTER (filtW f))) = textL (lineW LISTEN (listenW c) :: (c.filters.take k).map (fun f => lineW FILTER (filtW f))) ++ (lineW FILTER (filtW x) ++ [10])) := Lib.hid (by
        rw [List.take_succ_eq_append_getElem hlt, List.map_append, hxx, ← List.cons_append, textL_append]
        simp [textL])
      have hY1 : (textL (lineW LISTEN (listenW c) :: (c.filters.take (k + 1)).map (fun f => lineW FILTER (filtW f)))).length ≤ 90000000000 := by
        refine R14Print.part_len (B := (c.filters.drop (k + 1)).map (fun f => lineW FILTER (filtW f)) ++ (c.clusters.map (fun x => lineW CLUSTER (clusW x)) ++ c.vhosts.flatMap vhosLs)) HX.out HR.out ?_
        have e : c.filters.map (fun f => lineW FILTER (filtW f)) = (c.filters.take (k + 1)).map (fun f => lineW FILTER (filtW f)) ++ (c.filters.drop (k + 1)).map (fun f => lineW FILTER (filtW f)) := by rw [← List.map_append, List.take_append_drop]
        unfold linesC
        rw [e]
        simp only [List.cons_append, List.append_assoc]
      rw [HS.out, List.length_append] at hY1
      have hll : (lineW FILTER (filtW x)).length ≤ 90000000000 := by rw [List.length_append] at hY1; omega
      have H0 := Lib.hid (fun w h => pdecimal_any x.kind hfx.kind.1 hfx.kind.2 w h)
      have H1 := Lib.hid (fun w => pword_any (ofL x.name) (by rw [ofL_size]; have := hfx.name; omega) w)
      rw [toL_ofL] at H1
      have H2 := Lib.hid (fun w => pword_any (ofL x.value) (by rw [ofL_size]; have := hfx.value; omega) w)
      rw [toL_ofL] at H2
      have H3 := Lib.hid (fun w h => pdecimal_any x.n hfx.n.1 hfx.n.2 w h)
      have H4 := Lib.hid (fun w h => pdecimal_any x.m hfx.m.1 hfx.m.2 w h)
      have H5 := Lib.hid (fun w h => pdecimal_any x.k hfx.k.1 hfx.k.2 w h)
      have HL : Hid (∀ W : World, Calls Tryz.prog 30 #[.slice (some ⟨W.heap.size, 0, none⟩) 7 7] (W.alloc (.cells #[.string ⟨#[102, 105, 108, 116, 101, 114]⟩, .string (ofL (decZ x.kind)), .string (ofL (word x.name)), .string (ofL (word x.value)), .string (ofL (decZ x.n)), .string (ofL (decZ x.m)), .string (ofL (decZ x.k))] 9)) fun e w' => e = .returned (.string (ofL (lineW FILTER (filtW x) ++ [10]))) ∧ Below W.heap.size W w') := Lib.hid (fun W => pline_new FILTER (filtW x) (by omega) (show 6 ≤ 1048000 by decide) W)
      obtain ⟨LN2, hLN2⟩ : ∃ LN, LN = lineW FILTER (filtW x) ++ [10] := ⟨_, rfl⟩
      rw [← hLN2] at HL HS hY1
      have HY := Lib.hid hY1
      obtain ⟨A0, hA0⟩ : ∃ A0, A0 = ofL (decZ x.kind) := ⟨_, rfl⟩
      rw [← hA0] at H0 HL
      obtain ⟨A1, hA1⟩ : ∃ A1, A1 = ofL (word x.name) := ⟨_, rfl⟩
      rw [← hA1] at H1 HL
      obtain ⟨A2, hA2⟩ : ∃ A2, A2 = ofL (word x.value) := ⟨_, rfl⟩
      rw [← hA2] at H2 HL
      obtain ⟨A3, hA3⟩ : ∃ A3, A3 = ofL (decZ x.n) := ⟨_, rfl⟩
      rw [← hA3] at H3 HL
      obtain ⟨A4, hA4⟩ : ∃ A4, A4 = ofL (decZ x.m) := ⟨_, rfl⟩
      rw [← hA4] at H4 HL
      obtain ⟨A5, hA5⟩ : ∃ A5, A5 = ofL (decZ x.k) := ⟨_, rfl⟩
      rw [← hA5] at H5 HL
      have P00 := Lib.hid (Pi.start HJ.out 49 #[.int .i64 x.kind, .string (ofL x.name), .string (ofL x.value), .int .i64 x.n, .int .i64 x.m, .int .i64 x.k])
      obtain ⟨gi, hgi⟩ : ∃ gi, gi = wr.heap.size := ⟨_, rfl⟩
      rw [← hgi] at P00
      have HGi := Lib.hid hgi
      clear hxc hxx hfx hgi hup hY1 hll HJ hLN2 hA0 hA1 hA2 hA3 hA4 hA5
      go_wp2_with fail
      rw [← HGi.out]
      generalize wr.alloc (.cells #[.int .i64 x.kind, .string (ofL x.name), .string (ofL x.value), .int .i64 x.n, .int .i64 x.m, .int .i64 x.k] 49) = W2 at P00 ⊢
      clear m0 m1 m2 m3 m4 m5
      have P0 := P00.out.drew
      have s0 := fcells P0
      go_region_held3 (fun w' => w'.cell? ⟨gi, 0, none⟩ = some (.int .i64 x.kind) ∧ w'.cell? ⟨gi, 1, none⟩ = some (.string (ofL x.name)) ∧ w'.cell? ⟨gi, 2, none⟩ = some (.string (ofL x.value)) ∧ w'.cell? ⟨gi, 3, none⟩ = some (.int .i64 x.n) ∧ w'.cell? ⟨gi, 4, none⟩ = some (.int .i64 x.m) ∧ w'.cell? ⟨gi, 5, none⟩ = some (.int .i64 x.k)) (first | exact s8 | exact s7 | exact (fcells (P6.call ((Below.refl _ _).alloc (Nat.le_refl _) _))) | exact s6 | exact s5 | exact s4 | exact s3 | exact s2 | exact s1 | exact s0)
        (first
          | (go_at_call 31; refine (H0.out _ P0.pn.pw).mono ?_; rintro e v0 ⟨rfl, hb0⟩
             have P1 := P0.call hb0
             have s1 := fcells P1
             clear H0)
          | (go_at_call 19; refine (H1.out _).mono ?_; rintro e v1 ⟨rfl, hb1⟩
             have P2 := P1.call hb1
             have s2 := fcells P2
             clear H1)
          | (go_at_call 19; refine (H2.out _).mono ?_; rintro e v2 ⟨rfl, hb2⟩
             have P3 := P2.call hb2
             have s3 := fcells P3
             clear H2)
          | (go_at_call 31; refine (H3.out _ P3.pn.pw).mono ?_; rintro e v3 ⟨rfl, hb3⟩
             have P4 := P3.call hb3
             have s4 := fcells P4
             clear H3)
          | (go_at_call 31; refine (H4.out _ P4.pn.pw).mono ?_; rintro e v4 ⟨rfl, hb4⟩
             have P5 := P4.call hb4
             have s5 := fcells P5
             clear H4)
          | (go_at_call 31; refine (H5.out _ P5.pn.pw).mono ?_; rintro e v5 ⟨rfl, hb5⟩
             have P6 := P5.call hb5
             have s6 := fcells P6
             clear H5)
          | (go_at_call 30; refine (HL.out _).mono ?_; rintro e v6 ⟨rfl, hb6⟩
             have P7 := P6.call hb6
             have s7 := fcells P7)
          | (go_at_call 29; refine (bk_text P7.pn.bk LN2 (by have := HY.out; omega)).mono ?_; rintro e v7 ⟨rfl, hb7, hk7⟩
             have P8 := P7.text hb7 hk7 (by decide)
             have s8 := fcells P8))
      have K3 := Lib.hid P8.pn
      rw [← HS.out] at K3
      clear HL HY HS P00 P0 s0 P1 s1 P2 s2 P3 s3 P4 s4 P5 s5 P6 s6 P7 s7 P8 s8 hb0 hb1 hb2 hb3 hb4 hb5 hb6 hb7 hk7
      go_wp2_with fail
      go_roundw
      case rel => exact ⟨k + 1, by omega, by go_num, K3⟩
      case measure => simp [intOf]; omega
    · have hki : ¬ (k : Int) < (c.filters.length : Int) := by omega
      obtain rfl : k = c.filters.length := by omega
      have K3 := Lib.hid HJ.out
      rw [List.take_length] at K3
      clear HJ hlt
      have b7 : wr.cell? ⟨g, 7, none⟩ = some (.slice pc c.clusters.length cc) := by
        have := K3.out.box.cell 7
        rw [← HG.out] at this
        exact this
      go_wp2_with fail
      clear b7 hk hki
      go_loopw [65] (fun i2 wr => ∃ k : Nat, k ≤ c.clusters.length ∧ i2 = .int .i64 k ∧ Hid (Pn w W0 c (.slice pf c.filters.length cf) (.slice pc c.clusters.length cc) (.slice pv c.vhosts.length cv) (textL (lineW LISTEN (listenW c) :: (c.filters.map (fun f => lineW FILTER (filtW f)) ++ (c.clusters.take k).map (fun x => lineW CLUSTER (clusW x))))) wr)) (fun i2 _ => c.clusters.length - (intOf i2).toNat)
      case atStart => exact ⟨0, Nat.zero_le _, rfl, by rw [List.take_zero, List.map_nil, List.append_nil]; exact K3⟩
      case round =>
        obtain ⟨k, hk, rfl, HJ⟩ := hrel
        clear K3
        by_cases hlt : k < c.clusters.length
        · have hki : (k : Int) < (c.clusters.length : Int) := by omega
          have hk0 : (0 : Int) ≤ (k : Int) := by omega
          obtain ⟨gc, oc, rfl, hxc⟩ := R14Check.cluss_at HJ.out.c0.clusters k hlt
          obtain ⟨x, hxx⟩ : ∃ x, x = c.clusters[k] := ⟨_, rfl⟩
          obtain ⟨h, htx, m0, m1, m2, m3, m4, m5, m6, m7, m8⟩ := hxc x hxx
          obtain ⟨ph, ch, rfl, _, _⟩ := id htx
          have hup := HJ.out.bk.2
          replace m0 := cell_up hup m0
          replace m1 := cell_up hup m1
          replace m2 := cell_up hup m2
          replace m3 := cell_up hup m3
          replace m4 := cell_up hup m4
          replace m5 := cell_up hup m5
          replace m6 := cell_up hup m6
          replace m7 := cell_up hup m7
          replace m8 := cell_up hup m8
          have hfx : FitClus x := by rw [hxx]; exact HX.out.clusters.2 _ (List.getElem_mem hlt)
          have hrx : clusB x = true := by rw [hxx]; exact (HR.out.clusters _ (List.getElem_mem hlt)).1
          have hhn : x.hosts.length ≤ 16 := by
            unfold clusB inB at hrx
            simp only [Bool.and_eq_true, decide_eq_true_eq] at hrx
            omega
          have hhw : ∀ t ∈ x.hosts, word t = t := by
            unfold clusB at hrx
            simp only [Bool.and_eq_true] at hrx
            exact fun t ht => host_word (hosts_word hrx.2 t ht)
          have HLc := Lib.hid (fun W hp ht => PCfgY.pcluster_line x ph ch hfx hhn hhw W hp ht)
          have HS : Hid (textL (lineW LISTEN (listenW c) :: (c.filters.map (fun f => lineW FILTER (filtW f)) ++ (c.clusters.take (k + 1)).map (fun x => lineW CLUSTER (clusW x)))) = textL (lineW LISTEN (listenW c) :: (c.filters.map (fun f => lineW FILTER (filtW f)) ++ (c.clusters.take k).map (fun x => lineW CLUSTER (clusW x)))) ++ (lineW CLUSTER (clusW x) ++ [10])) := Lib.hid (by
            rw [List.take_succ_eq_append_getElem hlt, List.map_append, hxx, ← List.append_assoc, ← List.cons_append, textL_append]
            simp [textL])
          have hY1 : (textL (lineW LISTEN (listenW c) :: (c.filters.map (fun f => lineW FILTER (filtW f)) ++ (c.clusters.take (k + 1)).map (fun x => lineW CLUSTER (clusW x))))).length ≤ 90000000000 := by
            refine R14Print.part_len (B := (c.clusters.drop (k + 1)).map (fun x => lineW CLUSTER (clusW x)) ++ c.vhosts.flatMap vhosLs) HX.out HR.out ?_
            have e : c.clusters.map (fun x => lineW CLUSTER (clusW x)) = (c.clusters.take (k + 1)).map (fun x => lineW CLUSTER (clusW x)) ++ (c.clusters.drop (k + 1)).map (fun x => lineW CLUSTER (clusW x)) := by rw [← List.map_append, List.take_append_drop]
            unfold linesC
            rw [e]
            simp only [List.cons_append, List.append_assoc]
          rw [HS.out, List.length_append] at hY1
          obtain ⟨LN2, hLN2⟩ : ∃ LN, LN = lineW CLUSTER (clusW x) ++ [10] := ⟨_, rfl⟩
          rw [← hLN2] at HLc HS hY1
          have HY := Lib.hid hY1
          have P00 := Lib.hid (Pi.start HJ.out 38 #[.string (ofL x.name), .int .i64 x.policy, .slice ph x.hosts.length ch, .int .i64 x.conns, .int .i64 x.pending, .int .i64 x.try_, .int .i64 x.fails, .int .i64 x.eject, .int .i64 x.panic])
          have HTx := Lib.hid (Texts.Texts.below htx P00.out.pn.bk.2)
          obtain ⟨gi, hgi⟩ : ∃ gi, gi = wr.heap.size := ⟨_, rfl⟩
          rw [← hgi] at P00
          have HGi := Lib.hid hgi
          clear hxc hxx hfx hgi hup hY1 HJ hLN2 hhw hhn hrx htx
          go_wp2_with fail
          refine (HLc.out _ P00.out.pn.pw HTx.out).mono ?_
          rintro e v1 ⟨rfl, hb1⟩
          have P1 := Lib.hid (P00.out.call hb1)
          clear m0 m1 m2 m3 m4 m5 m6 m7 m8 HLc HTx P00 hb1
          go_wp2_with fail
          refine (bk_text P1.out.pn.bk LN2 (by have := HY.out; omega)).mono ?_
          rintro e v2 ⟨rfl, hb2, _⟩
          have K4 := Lib.hid (P1.out.pn.text hb2)
          rw [← HS.out] at K4
          clear P1 hb2 HY HS
          go_wp2_with fail
          go_roundw
          case rel => exact ⟨k + 1, by omega, by go_num, K4⟩
          case measure => simp [intOf]; omega
        · have hki : ¬ (k : Int) < (c.clusters.length : Int) := by omega
          obtain rfl : k = c.clusters.length := by omega
          have K4 := Lib.hid HJ.out
          rw [List.take_length] at K4
          clear HJ hlt
          have b8 : wr.cell? ⟨g, 8, none⟩ = some (.slice pv c.vhosts.length cv) := by
            have := K4.out.box.cell 8
            rw [← HG.out] at this
            exact this
          go_wp2_with fail
          clear b8 hk hki
          go_loopw [76] (fun i2 wr => ∃ k : Nat, k ≤ c.vhosts.length ∧ i2 = .int .i64 k ∧ Hid (Pn w W0 c (.slice pf c.filters.length cf) (.slice pc c.clusters.length cc) (.slice pv c.vhosts.length cv) (textL (lineW LISTEN (listenW c) :: (c.filters.map (fun f => lineW FILTER (filtW f)) ++ (c.clusters.map (fun x => lineW CLUSTER (clusW x)) ++ (c.vhosts.take k).flatMap vhosLs)))) wr)) (fun i2 _ => c.vhosts.length - (intOf i2).toNat)
          case atStart => exact ⟨0, Nat.zero_le _, rfl, by rw [List.take_zero, List.flatMap_nil, List.append_nil]; exact K4⟩
          case round =>
            obtain ⟨k, hk, rfl, HJ⟩ := hrel
            clear K4
            by_cases hlt : k < c.vhosts.length
            · have hki : (k : Int) < (c.vhosts.length : Int) := by omega
              have hk0 : (0 : Int) ≤ (k : Int) := by omega
              obtain ⟨gs, os, hvv, rfl, hrt, d0, d1⟩ := R14Vhost.vhos_at HJ.out.c0.vhosts k hlt
              obtain ⟨V, hV⟩ : ∃ V, V = c.vhosts[k] := ⟨_, rfl⟩
              rw [← hV] at d0 hrt
              have hup := HJ.out.bk.2
              replace d0 := cell_up hup d0
              replace d1 := cell_up hup d1
              have hfx : FitVhos V := by rw [hV]; exact HX.out.vhosts.2 _ (List.getElem_mem hlt)
              have HFx := Lib.hid hfx
              have hrl : V.routes.length ≤ 1048576 := hfx.routes.1
              have HS : Hid (textL (lineW LISTEN (listenW c) :: (c.filters.map (fun f => lineW FILTER (filtW f)) ++ (c.clusters.map (fun x => lineW CLUSTER (clusW x)) ++ (c.vhosts.take (k + 1)).flatMap vhosLs))) = textL (lineW LISTEN (listenW c) :: (c.filters.map (fun f => lineW FILTER (filtW f)) ++ (c.clusters.map (fun x => lineW CLUSTER (clusW x)) ++ (c.vhosts.take k).flatMap vhosLs))) ++ textL (vhosLs V)) := Lib.hid (by
                rw [List.take_succ_eq_append_getElem hlt, List.flatMap_append, hV, ← List.append_assoc, ← List.append_assoc, ← List.cons_append, textL_append]
                simp [textL])
              have hY1 : (textL (lineW LISTEN (listenW c) :: (c.filters.map (fun f => lineW FILTER (filtW f)) ++ (c.clusters.map (fun x => lineW CLUSTER (clusW x)) ++ (c.vhosts.take (k + 1)).flatMap vhosLs)))).length ≤ 90000000000 := by
                refine R14Print.part_len (B := (c.vhosts.drop (k + 1)).flatMap vhosLs) HX.out HR.out ?_
                have e : c.vhosts.flatMap vhosLs = (c.vhosts.take (k + 1)).flatMap vhosLs ++ (c.vhosts.drop (k + 1)).flatMap vhosLs := by rw [← List.flatMap_append, List.take_append_drop]
                unfold linesC
                rw [e]
                simp only [List.cons_append, List.append_assoc]
              rw [HS.out] at hY1
              obtain ⟨XX, hXX⟩ : ∃ XX, Hid (XX = textL (lineW LISTEN (listenW c) :: (c.filters.map (fun f => lineW FILTER (filtW f)) ++ (c.clusters.map (fun x => lineW CLUSTER (clusW x)) ++ (c.vhosts.take k).flatMap vhosLs)))) := ⟨_, Lib.hid rfl⟩
              rw [← hXX.out] at HS hY1 HJ
              have HLen := Lib.hid hY1
              have hll : (lineW VHOST [word V.domain] ++ [10]).length + XX.length ≤ 90000000000 := by
                have h1 := hY1
                unfold vhosLs at h1
                rw [textL_cons, List.length_append, List.length_append] at h1
                rw [List.length_append]
                have : (lineW VHOST [word V.domain]).length + 1 ≤ (lineW VHOST [word V.domain] ++ [10]).length := by rw [List.length_append]; simp
                simp only [List.length_append, List.length_cons, List.length_nil] at h1 ⊢
                omega
              have hll2 : (lineW VHOST [word V.domain]).length ≤ 90000000000 := by rw [List.length_append] at hll; omega
              have HWd := Lib.hid (fun w => pword_any (ofL V.domain) (by rw [ofL_size]; have := hfx.domain; omega) w)
              rw [toL_ofL] at HWd
              have HL : Hid (∀ W : World, Calls Tryz.prog 30 #[.slice (some ⟨W.heap.size, 0, none⟩) 2 2] (W.alloc (.cells #[.string ⟨#[118, 104, 111, 115, 116]⟩, .string (ofL (word V.domain))] 9)) fun e w' => e = .returned (.string (ofL (lineW VHOST [word V.domain] ++ [10]))) ∧ Below W.heap.size W w') := Lib.hid (fun W => pline_new VHOST [word V.domain] (by omega) (show 1 ≤ 1048000 by decide) W)
              obtain ⟨LN2, hLN2⟩ : ∃ LN, Hid (LN = lineW VHOST [word V.domain] ++ [10]) := ⟨_, Lib.hid rfl⟩
              rw [← hLN2.out] at HL hll
              have HY := Lib.hid hll
              generalize ofL (word V.domain) = A at HWd HL
              have hrtW := hrt
              have hr1 : 0 < V.routes.length := by
                have := (HR.out.vhosts _ (List.getElem_mem hlt)).2.1
                rw [← hV] at this
                unfold inB at this
                simp only [Bool.and_eq_true, decide_eq_true_eq] at this
                omega
              obtain ⟨pr, cr, rfl, _, hrc0⟩ := hrt.parts
              obtain ⟨gr, orr, rfl, _, _⟩ := hrc0 hr1
              clear hrc0 hr1
              have P00 := Lib.hid (Pi.start HJ.out 43 #[.string (ofL V.domain), .slice (some ⟨gr, orr, none⟩) V.routes.length cr])
              have HRt := Lib.hid hrtW
              have HHV := Lib.hid hV
              clear hV hfx hup hY1 hll hll2 HJ hrt hrtW
              go_wp2_with fail
              refine (HWd.out _).mono ?_
              rintro e v1 ⟨rfl, hb1⟩
              have P1 := Lib.hid (P00.out.call hb1)
              clear d0 d1 HWd P00 hb1
              go_wp2_with fail
              refine (HL.out _).mono ?_
              rintro e v2 ⟨rfl, hb2⟩
              have P2 := Lib.hid (P1.out.call hb2)
              clear P1 hb2 HL
              go_wp2_with fail
              refine (bk_text P2.out.pn.bk LN2 (by have := HY.out; omega)).mono ?_
              rintro e v3 ⟨rfl, hb3, hk3⟩
              have P3 := Lib.hid (P2.out.text hb3 hk3 (by decide))
              clear P2 hb3 hk3 HY
              have b1 : v3.cell? ⟨wr.heap.size, 1, none⟩ = some (.slice (some ⟨gr, orr, none⟩) V.routes.length cr) := P3.out.it.cell 1
              have K5 := Lib.hid P3.out.pn
              clear P3
              go_wp2_with fail
              clear b1
              go_loopw [89] (fun i2 wr => ∃ k2 : Nat, k2 ≤ V.routes.length ∧ i2 = .int .i64 k2 ∧ Hid (Pn w W0 c (.slice pf c.filters.length cf) (.slice pc c.clusters.length cc) (.slice (some ⟨gs, os, none⟩) c.vhosts.length cv) (XX ++ textL (lineW VHOST [word V.domain] :: (V.routes.take k2).map (fun r => lineW ROUTE (routW r)))) wr)) (fun i2 _ => V.routes.length - (intOf i2).toNat)
              case atStart => exact ⟨0, Nat.zero_le _, rfl, by rw [List.take_zero, List.map_nil, show textL [lineW VHOST [word V.domain]] = LN2 by rw [hLN2.out]; simp [textL]]; exact K5⟩
              case round =>
                obtain ⟨k2, hk2, rfl, HI⟩ := hrel
                clear K5
                by_cases hlt2 : k2 < V.routes.length
                · have hki2 : (k2 : Int) < (V.routes.length : Int) := by omega
                  have hk20 : (0 : Int) ≤ (k2 : Int) := by omega
                  obtain ⟨p2, c2, hv2, _, hrc⟩ := (ConfMem.Routs.below HRt.out HI.out.bk.2).parts
                  injection hv2 with e1 e2 e3
                  clear e2
                  subst e3
                  obtain ⟨gr2, or2, hpr, _, hcell⟩ := hrc (by omega)
                  rw [← e1] at hpr
                  injection hpr with hpr
                  injection hpr with a1 a2
                  subst a1
                  subst a2
                  clear e1
                  obtain ⟨r, hr⟩ : ∃ r, r = V.routes[k2] := ⟨_, rfl⟩
                  obtain ⟨n0, n1, n2, n3, n4, n5, n6, n7, n8, n9, n10, n11, n12⟩ := hcell k2 hlt2
                  rw [← hr] at n0 n1 n2 n3 n4 n5 n6 n7 n8 n9 n10 n11 n12
                  have hfr : FitRout r := by rw [hr]; exact HFx.out.routes.2 _ (List.getElem_mem hlt2)
                  have HLr := Lib.hid (fun w hp => proute_line r hfr w hp)
                  have HS2 : Hid (XX ++ textL (lineW VHOST [word V.domain] :: (V.routes.take (k2 + 1)).map (fun r => lineW ROUTE (routW r))) = XX ++ textL (lineW VHOST [word V.domain] :: (V.routes.take k2).map (fun r => lineW ROUTE (routW r))) ++ (lineW ROUTE (routW r) ++ [10])) := Lib.hid (by
                    rw [List.take_succ_eq_append_getElem hlt2, List.map_append, hr, ← List.cons_append, textL_append]
                    simp [textL])
                  have hP : (XX ++ textL (lineW VHOST [word V.domain] :: (V.routes.take (k2 + 1)).map (fun r => lineW ROUTE (routW r)))).length ≤ 90000000000 := by
                    have h1 := HLen.out
                    have h2 : vhosLs V = (lineW VHOST [word V.domain] :: (V.routes.take (k2 + 1)).map (fun r => lineW ROUTE (routW r))) ++ (V.routes.drop (k2 + 1)).map (fun r => lineW ROUTE (routW r)) := by rw [List.cons_append, ← List.map_append, List.take_append_drop]; rfl
                    rw [h2, textL_append] at h1
                    simp only [List.length_append] at h1 ⊢
                    omega
                  rw [HS2.out, List.length_append] at hP
                  obtain ⟨LN3, hLN3⟩ : ∃ LN, LN = lineW ROUTE (routW r) ++ [10] := ⟨_, rfl⟩
                  rw [← hLN3] at HLr HS2 hP
                  have HY := Lib.hid hP
                  have P00 := Lib.hid (Pi.start HI.out 45 #[.bool r.pre, .string (ofL r.path), .string (ofL r.method), .string (ofL r.field), .string (ofL r.value), .int .i64 r.action, .string (ofL r.cluster), .int .i64 r.status, .string (ofL r.text), .string (ofL r.rewrite), .int .i64 r.retries, .int .i64 r.timeout, .bool r.upgrade])
                  clear hcell hrc hr hfr hP hLN3 HI
                  go_wp2_with fail
                  refine (HLr.out _ P00.out.pn.pw).mono ?_
                  rintro e v4 ⟨rfl, hb4⟩
                  have P1 := Lib.hid (P00.out.call hb4)
                  clear n0 n1 n2 n3 n4 n5 n6 n7 n8 n9 n10 n11 n12 HLr P00 hb4
                  go_wp2_with fail
                  refine (bk_text P1.out.pn.bk LN3 (by have := HY.out; omega)).mono ?_
                  rintro e v5 ⟨rfl, hb5, _⟩
                  have K6 := Lib.hid (P1.out.pn.text hb5)
                  rw [← HS2.out] at K6
                  clear P1 hb5 HY HS2
                  go_wp2_with fail
                  go_roundw
                  case rel => exact ⟨k2 + 1, by omega, by go_num, K6⟩
                  case measure => simp [intOf]; omega
                · have hki2 : ¬ (k2 : Int) < (V.routes.length : Int) := by omega
                  obtain rfl : k2 = V.routes.length := by omega
                  have K6 := Lib.hid HI.out
                  rw [List.take_length, show textL (lineW VHOST [word V.domain] :: V.routes.map (fun r => lineW ROUTE (routW r))) = textL (vhosLs V) from rfl, ← HS.out] at K6
                  clear HI hlt2 HRt HS
                  go_wp2_with fail
                  go_roundw
                  case rel => exact ⟨k + 1, by omega, by go_num, K6⟩
                  case measure => simp [intOf]; omega
            · have hki : ¬ (k : Int) < (c.vhosts.length : Int) := by omega
              obtain rfl : k = c.vhosts.length := by omega
              have K5 := Lib.hid HJ.out
              rw [List.take_length, show textL (lineW LISTEN (listenW c) :: (c.filters.map (fun f => lineW FILTER (filtW f)) ++ (c.clusters.map (fun x => lineW CLUSTER (clusW x)) ++ c.vhosts.flatMap vhosLs))) = print14 c by rw [print_text]; rfl] at K5
              clear HJ hlt hk
              go_wp2_with fail
              refine (bk_out K5.out.bk).mono ?_
              rintro e v6 ⟨rfl, hb6⟩
              have HE : Hid (Below w.heap.size w v6) := Lib.hid (below_chain K5.out.l0 hb6)
              clear K5 hb6
              go_wp2_with fail
              go_ret
              exact ⟨rfl, HE.out⟩
end Go.Proofs.YtfihehobkbfmiaaGreatDoor.PCfgZ

/- CONTRACTS of the program's package config, and what they ask of the world: MaxLen's cell and strconv's table. -/
namespace Go.Proofs.YtfihehobkbfmiaaGreatDoor.ConfObj
open Go.ChangeShapes Go.WideShapes Go.ChangeAt Go.RowKit Bytes LexPure CutAt ConfPure ConfMem Mem PUnder
set_option maxRecDepth 100000
set_option linter.unusedVariables false
def Fit (w : World) : Prop := MaxInt w ∧ PCfgLib.Pow w
theorem Fit.below {w w' : World} (h : Fit w) (hb : Below w.heap.size w w') : Fit w' := ⟨h.1.below hb, h.2.below hb⟩
theorem pow_of_laid {W : World} {L : List (String × DataW Unit)} (hL : L.filter (fun x => x.1 == "internal/strconv.uint64pow10") = [("internal/strconv.uint64pow10", Rows.laid_internal_strconv_uint64pow10)]) (h0 : laidMetH Tryz.prog L W) : PCfgLib.Pow W := by
  have h := laidMetH.filter (fun x => x.1 == "internal/strconv.uint64pow10") h0
  rw [hL, MakeChecks.laidMetH_plain _ _ _ (by kernel_rfl)] at h
  exact Lib.tabIs_of_head (g := 1) (t := 153) (e := 135) (n := 20) (by kernel_rfl) (by kernel_rfl) Tryz.underlying153 Tryz.underlying135 (by kernel_rfl) (by kernel_rfl) h
theorem Fit.of {w : World} (h : w.ShapedOpen Tryz.prog) (hp : PCfgLib.Pow w) : Fit w := ⟨MaxInt.of_shape h, hp⟩
theorem clusE_not : ∀ (a l : List Clus), clusE a l ≠ 140
  | _, [] => (show (0 : Int) ≠ 140 by decide)
  | a, c :: l => by
    unfold clusE
    split
    · decide
    split
    · decide
    · exact clusE_not _ l
theorem vhosE_not (cs : List Clus) : ∀ (a l : List Vhos), vhosE cs a l ≠ 140
  | _, [] => (show (0 : Int) ≠ 140 by decide)
  | a, v :: l => by
    unfold vhosE
    split
    · decide
    split
    · decide
    · exact vhosE_not cs _ l
theorem check_not (c : Conf) : check14 c ≠ 140 := by
  unfold check14
  split
  · decide
  split
  · decide
  split
  · exact clusE_not _ _
  · exact vhosE_not _ _ _
/-- what a text's config is, where its answer is known -/
theorem fit_of {t : L} {c : Conf} {n e : Int} (h : parse14 t = (c, n, e)) (he : e = 0 ∨ e = 140) (hc : e = 0 → FitConf c) : ∀ c', goP 0 zeroC (cutB 10 t) = .inr c' → FitConf c' := by
  intro c' hg
  by_cases hk : check14 c' = 0
  · rw [PCfgH.parse_ok hg hk] at h
    injection h with h1 h2
    injection h2 with h2 h3
    subst h1
    exact hc h3.symm
  · rw [PCfgH.parse_not hg hk] at h
    injection h with h1 h2
    injection h2 with h2 h3
    rcases he with he | he
    · exact absurd (h3.trans he) hk
    · exact absurd (h3.trans he) (check_not c')
theorem pcheck_any (c : Conf) (vf vc vv : Value) (hx : FitConf c) (w : World) (hm : Fit w) (hC : CF w vf vc vv c) :
    Calls Tryz.prog 10 #[.agg (confV c vf vc vv)] w fun e w' => e = .returned (.int .i64 (check14 c)) ∧ Below w.heap.size w w' := PCfgK.pcheck_any c vf vc vv hx w hm.1 hm.2 hC
theorem pprint_any (c : Conf) (vf vc vv : Value) (hx : FitConf c) (hk : check14 c = 0) (w : World) (hm : Fit w) (hC : CF w vf vc vv c) :
    Calls Tryz.prog 12 #[.agg (confV c vf vc vv)] w fun e w' => e = .returned (.string (ofL (print14 c))) ∧ Below w.heap.size w w' := PCfgZ.pprint_any c vf vc vv hx hk w hm.2 hC
theorem pparse_any (s : ByteArray) (hs : s.size ≤ 274877906944) (hfit : ∀ c, goP 0 zeroC (cutB 10 (toL s)) = .inr c → FitConf c) (w : World) (hm : Fit w) :
    Calls Tryz.prog 13 #[.string s] w fun e w' => ∃ vf vc vv, e = .returned (.tuple #[.agg (confV (parse14 (toL s)).1 vf vc vv), .int .i64 (parse14 (toL s)).2.1, .int .i64 (parse14 (toL s)).2.2]) ∧ CF w' vf vc vv (parse14 (toL s)).1 ∧ Below w.heap.size w w' := by
  refine (PCfgH.pparse_any s hs hfit w hm.1 hm.2).mono ?_
  rintro e w' ⟨hb, g, vf, vc, vv, CL, VL, he, O, _⟩
  exact ⟨vf, vc, vv, he, ConfCF.OCs.cf O, hb⟩
theorem pword_any (s : ByteArray) (hs : s.size ≤ 1048576) (w : World) (hm : Fit w) :
    Calls Tryz.prog 19 #[.string s] w fun e w' => e = .returned (.string (ofL (word (toL s)))) ∧ Below w.heap.size w w' := PCfgW.pword_any s (by omega) w
end Go.Proofs.YtfihehobkbfmiaaGreatDoor.ConfObj
