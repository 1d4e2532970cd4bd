/- Texts of this seat, one behind another: PCfgS, PCfgC, PCfgR, PCfgV. -/
import Derived.Shelf.Abstract
import Derived.Deep.RegionHeld3
import Derived.Handy
import Derived.Test.YtfihehobkbfmiaaGreatDoorA3
import Derived.Test.YtfihehobkbfmiaaGreatDoorA4
import Derived.Test.YtfihehobkbfmiaaGreatDoorA1
/- Layer 14 of the program: stands. -/
namespace Go.Proofs.YtfihehobkbfmiaaGreatDoor.PCfgS
open Go.ChangeShapes Go.WideShapes Go.ChangeAt Go.RowKit Bytes LexPure ConfPure ConfMem ConfAt Ret Mem Texts PCfgBox R14Name
set_option maxRecDepth 100000
set_option linter.unusedVariables false
set_option linter.unusedSimpArgs false
theorem any_step {α : Type} (G : List α) (q : α → Bool) (k : Nat) (h : k < G.length) : (G.take (k + 1)).any q = ((G.take k).any q || q G[k]) := by
  rw [List.take_succ_eq_append_getElem h, List.any_append]
  simp
theorem any_take {α : Type} {G : List α} {q : α → Bool} {k : Nat} (h : k < G.length) (hq : q G[k] = true) : G.any q = true := List.any_eq_true.2 ⟨_, List.getElem_mem h, hq⟩
theorem pnmC_any (x : Clus) (h : Value) (w : World) :
    Calls Tryz.prog 53 #[.agg #[.string (ofL x.name), .int .i64 x.policy, h, .int .i64 x.conns, .int .i64 x.pending, .int .i64 x.try_, .int .i64 x.fails, .int .i64 x.eject, .int .i64 x.panic]] w fun e w' => e = .returned (.string (ofL x.name)) ∧ Below w.heap.size w w' := by
  go_enter Tryz.func53, Tryz.ntmps53
  go_wp2_with fail
  go_ret
  exact ⟨rfl, (Below.refl _ _).alloc (Nat.le_refl _) _⟩
set_option maxHeartbeats 3200000 in
theorem pstC1_any (x : Clus) (h : Value) (nm : L) (b5 b4 : Nat) (w : World) (h5 : w.cell? ⟨b5, 0, none⟩ = some (.func (.func 53) #[] #[])) (h4 : w.cell? ⟨b4, 0, none⟩ = some (.string (ofL nm))) :
    Calls Tryz.prog 85 #[.agg #[.string (ofL x.name), .int .i64 x.policy, h, .int .i64 x.conns, .int .i64 x.pending, .int .i64 x.try_, .int .i64 x.fails, .int .i64 x.eject, .int .i64 x.panic], .pointer (some ⟨b5, 0, none⟩), .pointer (some ⟨b4, 0, none⟩)] w fun e w' => e = .returned (.bool (x.name == nm)) ∧ Below w.heap.size w w' := by
  have HN := Lib.hid (fun w => pnmC_any x h w)
  have te := text_eq x.name nm
  generalize (x.name == nm) = b at te ⊢
  have l5 := World.block_lt_of_cell? w _ h5
  have l4 := World.block_lt_of_cell? w _ h4
  have K1 := (Ob.start w 38 #[.string (ofL x.name), .int .i64 x.policy, h, .int .i64 x.conns, .int .i64 x.pending, .int .i64 x.try_, .int .i64 x.fails, .int .i64 x.eject, .int .i64 x.panic]).drew
  have bA : Below w.heap.size w (w.alloc (.cells #[.string (ofL x.name), .int .i64 x.policy, h, .int .i64 x.conns, .int .i64 x.pending, .int .i64 x.try_, .int .i64 x.fails, .int .i64 x.eject, .int .i64 x.panic] 38)).drew := below_drew ((Below.refl _ _).alloc (Nat.le_refl _) _)
  have q5 := (bA.cell (p := ⟨b5, 0, none⟩) l5).trans h5
  have q4 := (bA.cell (p := ⟨b4, 0, none⟩) l4).trans h4
  have q := And.intro q5 (And.intro q4 (show (w.alloc (.cells #[.string (ofL x.name), .int .i64 x.policy, h, .int .i64 x.conns, .int .i64 x.pending, .int .i64 x.try_, .int .i64 x.fails, .int .i64 x.eject, .int .i64 x.panic] 38)).drew.cell? ⟨w.heap.size, 0, none⟩ = some (.string (ofL x.name)) ∧ (w.alloc (.cells #[.string (ofL x.name), .int .i64 x.policy, h, .int .i64 x.conns, .int .i64 x.pending, .int .i64 x.try_, .int .i64 x.fails, .int .i64 x.eject, .int .i64 x.panic] 38)).drew.cell? ⟨w.heap.size, 1, none⟩ = some (.int .i64 x.policy) ∧ (w.alloc (.cells #[.string (ofL x.name), .int .i64 x.policy, h, .int .i64 x.conns, .int .i64 x.pending, .int .i64 x.try_, .int .i64 x.fails, .int .i64 x.eject, .int .i64 x.panic] 38)).drew.cell? ⟨w.heap.size, 2, none⟩ = some (h) ∧ (w.alloc (.cells #[.string (ofL x.name), .int .i64 x.policy, h, .int .i64 x.conns, .int .i64 x.pending, .int .i64 x.try_, .int .i64 x.fails, .int .i64 x.eject, .int .i64 x.panic] 38)).drew.cell? ⟨w.heap.size, 3, none⟩ = some (.int .i64 x.conns) ∧ (w.alloc (.cells #[.string (ofL x.name), .int .i64 x.policy, h, .int .i64 x.conns, .int .i64 x.pending, .int .i64 x.try_, .int .i64 x.fails, .int .i64 x.eject, .int .i64 x.panic] 38)).drew.cell? ⟨w.heap.size, 4, none⟩ = some (.int .i64 x.pending) ∧ (w.alloc (.cells #[.string (ofL x.name), .int .i64 x.policy, h, .int .i64 x.conns, .int .i64 x.pending, .int .i64 x.try_, .int .i64 x.fails, .int .i64 x.eject, .int .i64 x.panic] 38)).drew.cell? ⟨w.heap.size, 5, none⟩ = some (.int .i64 x.try_) ∧ (w.alloc (.cells #[.string (ofL x.name), .int .i64 x.policy, h, .int .i64 x.conns, .int .i64 x.pending, .int .i64 x.try_, .int .i64 x.fails, .int .i64 x.eject, .int .i64 x.panic] 38)).drew.cell? ⟨w.heap.size, 6, none⟩ = some (.int .i64 x.fails) ∧ (w.alloc (.cells #[.string (ofL x.name), .int .i64 x.policy, h, .int .i64 x.conns, .int .i64 x.pending, .int .i64 x.try_, .int .i64 x.fails, .int .i64 x.eject, .int .i64 x.panic] 38)).drew.cell? ⟨w.heap.size, 7, none⟩ = some (.int .i64 x.eject) ∧ (w.alloc (.cells #[.string (ofL x.name), .int .i64 x.policy, h, .int .i64 x.conns, .int .i64 x.pending, .int .i64 x.try_, .int .i64 x.fails, .int .i64 x.eject, .int .i64 x.panic] 38)).drew.cell? ⟨w.heap.size, 8, none⟩ = some (.int .i64 x.panic) from ⟨K1.box.cell 0, K1.box.cell 1, K1.box.cell 2, K1.box.cell 3, K1.box.cell 4, K1.box.cell 5, K1.box.cell 6, K1.box.cell 7, K1.box.cell 8⟩))
  have hne5 : b5 ≠ w.heap.size := Nat.ne_of_lt l5
  have hne4 : b4 ≠ w.heap.size := Nat.ne_of_lt l4
  go_enter Tryz.func85, Tryz.ntmps85
  go_wp2_with fail
  go_region_held3 (fun w' => w'.cell? ⟨b5, 0, none⟩ = some (.func (.func 53) #[] #[]) ∧ w'.cell? ⟨b4, 0, none⟩ = some (.string (ofL nm)) ∧ w'.cell? ⟨w.heap.size, 0, none⟩ = some (.string (ofL x.name)) ∧ w'.cell? ⟨w.heap.size, 1, none⟩ = some (.int .i64 x.policy) ∧ w'.cell? ⟨w.heap.size, 2, none⟩ = some (h) ∧ w'.cell? ⟨w.heap.size, 3, none⟩ = some (.int .i64 x.conns) ∧ w'.cell? ⟨w.heap.size, 4, none⟩ = some (.int .i64 x.pending) ∧ w'.cell? ⟨w.heap.size, 5, none⟩ = some (.int .i64 x.try_) ∧ w'.cell? ⟨w.heap.size, 6, none⟩ = some (.int .i64 x.fails) ∧ w'.cell? ⟨w.heap.size, 7, none⟩ = some (.int .i64 x.eject) ∧ w'.cell? ⟨w.heap.size, 8, none⟩ = some (.int .i64 x.panic)) (first | exact s2 | exact q)
    (first
      | (go_at_call 53; refine (HN.out _).mono ?_; rintro e w2 ⟨rfl, hb2⟩
         have K2 := K1.call hb2
         have s2 := And.intro ((hb2.cell (p := ⟨b5, 0, none⟩) (Nat.lt_trans l5 K1.box.lt)).trans q5) (And.intro ((hb2.cell (p := ⟨b4, 0, none⟩) (Nat.lt_trans l4 K1.box.lt)).trans q4) (show w2.cell? ⟨w.heap.size, 0, none⟩ = some (.string (ofL x.name)) ∧ w2.cell? ⟨w.heap.size, 1, none⟩ = some (.int .i64 x.policy) ∧ w2.cell? ⟨w.heap.size, 2, none⟩ = some (h) ∧ w2.cell? ⟨w.heap.size, 3, none⟩ = some (.int .i64 x.conns) ∧ w2.cell? ⟨w.heap.size, 4, none⟩ = some (.int .i64 x.pending) ∧ w2.cell? ⟨w.heap.size, 5, none⟩ = some (.int .i64 x.try_) ∧ w2.cell? ⟨w.heap.size, 6, none⟩ = some (.int .i64 x.fails) ∧ w2.cell? ⟨w.heap.size, 7, none⟩ = some (.int .i64 x.eject) ∧ w2.cell? ⟨w.heap.size, 8, none⟩ = some (.int .i64 x.panic) from ⟨K2.box.cell 0, K2.box.cell 1, K2.box.cell 2, K2.box.cell 3, K2.box.cell 4, K2.box.cell 5, K2.box.cell 6, K2.box.cell 7, K2.box.cell 8⟩))))
  go_wp2_with fail
  go_ret
  exact ⟨rfl, K2.below⟩
set_option maxHeartbeats 3200000 in
theorem pidxC_any (q : Clus → Bool) (b5 b4 : Nat) (v : Value) (G : List Clus) (hle2 : G.length ≤ 1099512676352) (w : World) (hF : Cluss w v G)
    (hcall : ∀ (x : Clus) (h : Value) (W : World), Below w.heap.size w W → Calls Tryz.prog 85 #[.agg #[.string (ofL x.name), .int .i64 x.policy, h, .int .i64 x.conns, .int .i64 x.pending, .int .i64 x.try_, .int .i64 x.fails, .int .i64 x.eject, .int .i64 x.panic], .pointer (some ⟨b5, 0, none⟩), .pointer (some ⟨b4, 0, none⟩)] W fun e w' => e = .returned (.bool (q x)) ∧ Below W.heap.size W w') :
    Calls Tryz.prog 118 #[v, .func (.func 85) #[] #[.pointer (some ⟨b5, 0, none⟩), .pointer (some ⟨b4, 0, none⟩)]] w fun e w' => ∃ r : Int, e = .returned (.int .i64 r) ∧ (decide (0 ≤ r) = G.any q) ∧ Below w.heap.size w w' := by
  have HF := Lib.hid hF
  obtain ⟨p, cap, rfl⟩ : ∃ p cap, v = .slice p G.length cap := by obtain ⟨p, cap, h, _⟩ := hF.parts; exact ⟨p, cap, h⟩
  replace hcall := Lib.hid hcall
  clear hF
  have HB0 := Lib.hid (Below.refl w.heap.size w)
  go_enter Tryz.func118, Tryz.ntmps118
  go_wp2_with fail
  go_loopw [5, 8] (fun _ i wr => ∃ k : Nat, k ≤ G.length ∧ i = .int .i64 k ∧ Hid ((G.take k).any q = false) ∧ Hid (Below w.heap.size w wr)) (fun _ i _ => G.length - (intOf i).toNat)
  case atStart => exact ⟨0, Nat.zero_le _, rfl, Lib.hid rfl, HB0⟩
  case round =>
    obtain ⟨k, hk, rfl, ha, HB⟩ := hrel
    clear HB0
    by_cases hlt : k < G.length
    · have hki : (k : Int) < (G.length : Int) := by omega
      have hk0 : (0 : Int) ≤ (k : Int) := by omega
      have HT := Lib.hid (any_step G q k hlt)
      have HAny := Lib.hid (fun hq => any_take (q := q) hlt hq)
      obtain ⟨x, hx⟩ : ∃ x, x = G[k] := ⟨_, rfl⟩
      obtain ⟨g, o, rfl, hgl, hcell⟩ := cluss_at HF.out k hlt
      obtain ⟨h, -, m0, m1, m2, m3, m4, m5, m6, m7, m8⟩ := hcell x hx
      rw [← hx] at HT HAny
      have HA := Lib.hid (hcall.out x h wr HB.out)
      replace m0 := (HB.out.cell (p := ⟨g, o + k * 9, none⟩) hgl).trans m0
      replace m1 := (HB.out.cell (p := ⟨g, o + k * 9 + 1, none⟩) hgl).trans m1
      replace m2 := (HB.out.cell (p := ⟨g, o + k * 9 + 2, none⟩) hgl).trans m2
      replace m3 := (HB.out.cell (p := ⟨g, o + k * 9 + 3, none⟩) hgl).trans m3
      replace m4 := (HB.out.cell (p := ⟨g, o + k * 9 + 4, none⟩) hgl).trans m4
      replace m5 := (HB.out.cell (p := ⟨g, o + k * 9 + 5, none⟩) hgl).trans m5
      replace m6 := (HB.out.cell (p := ⟨g, o + k * 9 + 6, none⟩) hgl).trans m6
      replace m7 := (HB.out.cell (p := ⟨g, o + k * 9 + 7, none⟩) hgl).trans m7
      replace m8 := (HB.out.cell (p := ⟨g, o + k * 9 + 8, none⟩) hgl).trans m8
      clear hcell
      obtain ⟨b, hb⟩ : ∃ b, b = q x := ⟨_, rfl⟩
      rw [← hb] at HA HT HAny
      clear hx hb
      cases b with
      | false =>
        have HT2 : Hid ((G.take (k + 1)).any q = false) := Lib.hid (by rw [HT.out, ha.out]; rfl)
        clear HT ha HAny
        go_wp2_with fail
        refine HA.out.mono ?_
        rintro e w2 ⟨rfl, hb2⟩
        have HB2 := Lib.hid (below_chain HB.out hb2)
        clear hb2
        go_wp2_with fail
        go_roundw
        case rel => exact ⟨k + 1, by omega, by go_num, HT2, HB2⟩
        case measure => simp [intOf]; omega
      | true =>
        have HV : Hid (decide ((0 : Int) ≤ (k : Int)) = G.any q) := Lib.hid (by
          rw [decide_eq_true (by omega)]
          exact (HAny.out rfl).symm)
        clear ha HT HAny
        go_wp2_with fail
        refine HA.out.mono ?_
        rintro e w2 ⟨rfl, hb2⟩
        have HB2 := Lib.hid (below_chain HB.out hb2)
        clear hb2
        go_wp2_with fail
        go_ret
        exact ⟨_, rfl, HV.out, HB2.out⟩
    · have HV : Hid (decide ((0 : Int) ≤ -1) = G.any q) := Lib.hid (by
        have h := ha.out
        rw [List.take_of_length_le (by omega)] at h
        rw [h]
        rfl)
      have hki : ¬ (k : Int) < (G.length : Int) := by omega
      clear ha
      go_wp2_with fail
      go_ret
      exact ⟨_, rfl, HV.out, HB.out⟩
set_option maxHeartbeats 1600000 in
theorem phasC_any (q : Clus → Bool) (b5 b4 : Nat) (v : Value) (G : List Clus) (hle2 : G.length ≤ 1099512676352) (w : World) (hF : Cluss w v G)
    (hcall : ∀ (x : Clus) (h : Value) (W : World), Below w.heap.size w W → Calls Tryz.prog 85 #[.agg #[.string (ofL x.name), .int .i64 x.policy, h, .int .i64 x.conns, .int .i64 x.pending, .int .i64 x.try_, .int .i64 x.fails, .int .i64 x.eject, .int .i64 x.panic], .pointer (some ⟨b5, 0, none⟩), .pointer (some ⟨b4, 0, none⟩)] W fun e w' => e = .returned (.bool (q x)) ∧ Below W.heap.size W w') :
    Calls Tryz.prog 84 #[v, .func (.func 85) #[] #[.pointer (some ⟨b5, 0, none⟩), .pointer (some ⟨b4, 0, none⟩)]] w fun e w' => e = .returned (.bool (G.any q)) ∧ Below w.heap.size w w' := by
  have HI := Lib.hid (pidxC_any q b5 b4 v G hle2 w hF hcall)
  clear hF hcall
  generalize G.any q = b at *
  go_enter Tryz.func84, Tryz.ntmps84
  go_wp2_with fail
  refine HI.out.mono ?_
  rintro e w2 ⟨r, rfl, hr, hb2⟩
  have HB := Lib.hid hb2
  have HR := Lib.hid hr
  clear hb2 hr
  go_wp2_with fail
  all_goals
    go_ret
    refine ⟨ret_bool ?_, HB.out⟩
    rw [← HR.out]
set_option maxHeartbeats 1600000 in
theorem pstandsC_any (nm : L) (v : Value) (G : List Clus) (hle2 : G.length ≤ 1099512676352) (w : World) (hF : Cluss w v G) :
    Calls Tryz.prog 52 #[v, .string (ofL nm), .func (.func 53) #[] #[]] w fun e w' => e = .returned (.bool (G.any (fun x => x.name == nm))) ∧ Below w.heap.size w w' := by
  have HB0 : Below w.heap.size w ((w.alloc (.cells #[.string (ofL nm)] 9)).alloc (.cells #[.func (.func 53) #[] #[]] 70)) := ((Below.refl _ _).alloc (Nat.le_refl _) _).alloc (by simp) _
  have HH := Lib.hid (phasC_any (fun x => x.name == nm) (w.heap.size + 1) w.heap.size v G hle2 ((w.alloc (.cells #[.string (ofL nm)] 9)).alloc (.cells #[.func (.func 53) #[] #[]] 70)) (hF.below HB0) (fun x h W hW => by
    have c4 := (((Has.new w 9 #[.string (ofL nm)]).alloc (.cells #[.func (.func 53) #[] #[]] 70)).below hW (by simp; omega)).cell 0
    have c5 := (Has.new (w.alloc (.cells #[.string (ofL nm)] 9)) 70 #[.func (.func 53) #[] #[]]).below hW (by simp)
    rw [show (w.alloc (.cells #[.string (ofL nm)] 9)).heap.size = w.heap.size + 1 by simp] at c5
    exact pstC1_any x h nm _ _ W (c5.cell 0) c4))
  generalize G.any (fun x => x.name == nm) = b at HH ⊢
  have HB := Lib.hid HB0
  clear HB0 hF
  go_enter Tryz.func52, Tryz.ntmps52
  go_wp2_with fail
  refine HH.out.mono ?_
  rintro e w2 ⟨rfl, hb2⟩
  have HB2 := Lib.hid (below_chain HB.out hb2)
  clear hb2
  go_wp2_with fail
  go_ret
  exact ⟨rfl, HB2.out⟩
theorem pnmV_any (x : Vhos) (h : Value) (w : World) :
    Calls Tryz.prog 58 #[.agg #[.string (ofL x.domain), h]] w fun e w' => e = .returned (.string (ofL x.domain)) ∧ Below w.heap.size w w' := by
  go_enter Tryz.func58, Tryz.ntmps58
  go_wp2_with fail
  go_ret
  exact ⟨rfl, (Below.refl _ _).alloc (Nat.le_refl _) _⟩
set_option maxHeartbeats 3200000 in
theorem pstV1_any (x : Vhos) (h : Value) (nm : L) (b5 b4 : Nat) (w : World) (h5 : w.cell? ⟨b5, 0, none⟩ = some (.func (.func 58) #[] #[])) (h4 : w.cell? ⟨b4, 0, none⟩ = some (.string (ofL nm))) :
    Calls Tryz.prog 92 #[.agg #[.string (ofL x.domain), h], .pointer (some ⟨b5, 0, none⟩), .pointer (some ⟨b4, 0, none⟩)] w fun e w' => e = .returned (.bool (x.domain == nm)) ∧ Below w.heap.size w w' := by
  have HN := Lib.hid (fun w => pnmV_any x h w)
  have te := text_eq x.domain nm
  generalize (x.domain == nm) = b at te ⊢
  have l5 := World.block_lt_of_cell? w _ h5
  have l4 := World.block_lt_of_cell? w _ h4
  have K1 := (Ob.start w 43 #[.string (ofL x.domain), h]).drew
  have bA : Below w.heap.size w (w.alloc (.cells #[.string (ofL x.domain), h] 43)).drew := below_drew ((Below.refl _ _).alloc (Nat.le_refl _) _)
  have q5 := (bA.cell (p := ⟨b5, 0, none⟩) l5).trans h5
  have q4 := (bA.cell (p := ⟨b4, 0, none⟩) l4).trans h4
  have q := And.intro q5 (And.intro q4 (show (w.alloc (.cells #[.string (ofL x.domain), h] 43)).drew.cell? ⟨w.heap.size, 0, none⟩ = some (.string (ofL x.domain)) ∧ (w.alloc (.cells #[.string (ofL x.domain), h] 43)).drew.cell? ⟨w.heap.size, 1, none⟩ = some (h) from ⟨K1.box.cell 0, K1.box.cell 1⟩))
  have hne5 : b5 ≠ w.heap.size := Nat.ne_of_lt l5
  have hne4 : b4 ≠ w.heap.size := Nat.ne_of_lt l4
  go_enter Tryz.func92, Tryz.ntmps92
  go_wp2_with fail
  go_region_held3 (fun w' => w'.cell? ⟨b5, 0, none⟩ = some (.func (.func 58) #[] #[]) ∧ w'.cell? ⟨b4, 0, none⟩ = some (.string (ofL nm)) ∧ w'.cell? ⟨w.heap.size, 0, none⟩ = some (.string (ofL x.domain)) ∧ w'.cell? ⟨w.heap.size, 1, none⟩ = some (h)) (first | exact s2 | exact q)
    (first
      | (go_at_call 58; refine (HN.out _).mono ?_; rintro e w2 ⟨rfl, hb2⟩
         have K2 := K1.call hb2
         have s2 := And.intro ((hb2.cell (p := ⟨b5, 0, none⟩) (Nat.lt_trans l5 K1.box.lt)).trans q5) (And.intro ((hb2.cell (p := ⟨b4, 0, none⟩) (Nat.lt_trans l4 K1.box.lt)).trans q4) (show w2.cell? ⟨w.heap.size, 0, none⟩ = some (.string (ofL x.domain)) ∧ w2.cell? ⟨w.heap.size, 1, none⟩ = some (h) from ⟨K2.box.cell 0, K2.box.cell 1⟩))))
  go_wp2_with fail
  go_ret
  exact ⟨rfl, K2.below⟩
set_option maxHeartbeats 3200000 in
theorem pidxV_any (q : Vhos → Bool) (b5 b4 : Nat) (v : Value) (G : List Vhos) (hle2 : G.length ≤ 1099512676352) (w : World) (hF : Vhoss w v G)
    (hcall : ∀ (x : Vhos) (h : Value) (W : World), Below w.heap.size w W → Calls Tryz.prog 92 #[.agg #[.string (ofL x.domain), h], .pointer (some ⟨b5, 0, none⟩), .pointer (some ⟨b4, 0, none⟩)] W fun e w' => e = .returned (.bool (q x)) ∧ Below W.heap.size W w') :
    Calls Tryz.prog 123 #[v, .func (.func 92) #[] #[.pointer (some ⟨b5, 0, none⟩), .pointer (some ⟨b4, 0, none⟩)]] w fun e w' => ∃ r : Int, e = .returned (.int .i64 r) ∧ (decide (0 ≤ r) = G.any q) ∧ Below w.heap.size w w' := by
  have HF := Lib.hid hF
  obtain ⟨p, cap, rfl⟩ : ∃ p cap, v = .slice p G.length cap := by obtain ⟨p, cap, h, _⟩ := hF.parts; exact ⟨p, cap, h⟩
  replace hcall := Lib.hid hcall
  clear hF
  have HB0 := Lib.hid (Below.refl w.heap.size w)
  go_enter Tryz.func123, Tryz.ntmps123
  go_wp2_with fail
  go_loopw [5, 8] (fun _ i wr => ∃ k : Nat, k ≤ G.length ∧ i = .int .i64 k ∧ Hid ((G.take k).any q = false) ∧ Hid (Below w.heap.size w wr)) (fun _ i _ => G.length - (intOf i).toNat)
  case atStart => exact ⟨0, Nat.zero_le _, rfl, Lib.hid rfl, HB0⟩
  case round =>
    obtain ⟨k, hk, rfl, ha, HB⟩ := hrel
    clear HB0
    by_cases hlt : k < G.length
    · have hki : (k : Int) < (G.length : Int) := by omega
      have hk0 : (0 : Int) ≤ (k : Int) := by omega
      have HT := Lib.hid (any_step G q k hlt)
      have HAny := Lib.hid (fun hq => any_take (q := q) hlt hq)
      obtain ⟨x, hx⟩ : ∃ x, x = G[k] := ⟨_, rfl⟩
      obtain ⟨g, o, rfl, hgl, hcell⟩ := vhoss_at HF.out k hlt
      obtain ⟨h, -, m0, m1⟩ := hcell x hx
      rw [← hx] at HT HAny
      have HA := Lib.hid (hcall.out x h wr HB.out)
      replace m0 := (HB.out.cell (p := ⟨g, o + k * 2, none⟩) hgl).trans m0
      replace m1 := (HB.out.cell (p := ⟨g, o + k * 2 + 1, none⟩) hgl).trans m1
      clear hcell
      obtain ⟨b, hb⟩ : ∃ b, b = q x := ⟨_, rfl⟩
      rw [← hb] at HA HT HAny
      clear hx hb
      cases b with
      | false =>
        have HT2 : Hid ((G.take (k + 1)).any q = false) := Lib.hid (by rw [HT.out, ha.out]; rfl)
        clear HT ha HAny
        go_wp2_with fail
        refine HA.out.mono ?_
        rintro e w2 ⟨rfl, hb2⟩
        have HB2 := Lib.hid (below_chain HB.out hb2)
        clear hb2
        go_wp2_with fail
        go_roundw
        case rel => exact ⟨k + 1, by omega, by go_num, HT2, HB2⟩
        case measure => simp [intOf]; omega
      | true =>
        have HV : Hid (decide ((0 : Int) ≤ (k : Int)) = G.any q) := Lib.hid (by
          rw [decide_eq_true (by omega)]
          exact (HAny.out rfl).symm)
        clear ha HT HAny
        go_wp2_with fail
        refine HA.out.mono ?_
        rintro e w2 ⟨rfl, hb2⟩
        have HB2 := Lib.hid (below_chain HB.out hb2)
        clear hb2
        go_wp2_with fail
        go_ret
        exact ⟨_, rfl, HV.out, HB2.out⟩
    · have HV : Hid (decide ((0 : Int) ≤ -1) = G.any q) := Lib.hid (by
        have h := ha.out
        rw [List.take_of_length_le (by omega)] at h
        rw [h]
        rfl)
      have hki : ¬ (k : Int) < (G.length : Int) := by omega
      clear ha
      go_wp2_with fail
      go_ret
      exact ⟨_, rfl, HV.out, HB.out⟩
set_option maxHeartbeats 1600000 in
theorem phasV_any (q : Vhos → Bool) (b5 b4 : Nat) (v : Value) (G : List Vhos) (hle2 : G.length ≤ 1099512676352) (w : World) (hF : Vhoss w v G)
    (hcall : ∀ (x : Vhos) (h : Value) (W : World), Below w.heap.size w W → Calls Tryz.prog 92 #[.agg #[.string (ofL x.domain), h], .pointer (some ⟨b5, 0, none⟩), .pointer (some ⟨b4, 0, none⟩)] W fun e w' => e = .returned (.bool (q x)) ∧ Below W.heap.size W w') :
    Calls Tryz.prog 91 #[v, .func (.func 92) #[] #[.pointer (some ⟨b5, 0, none⟩), .pointer (some ⟨b4, 0, none⟩)]] w fun e w' => e = .returned (.bool (G.any q)) ∧ Below w.heap.size w w' := by
  have HI := Lib.hid (pidxV_any q b5 b4 v G hle2 w hF hcall)
  clear hF hcall
  generalize G.any q = b at *
  go_enter Tryz.func91, Tryz.ntmps91
  go_wp2_with fail
  refine HI.out.mono ?_
  rintro e w2 ⟨r, rfl, hr, hb2⟩
  have HB := Lib.hid hb2
  have HR := Lib.hid hr
  clear hb2 hr
  go_wp2_with fail
  all_goals
    go_ret
    refine ⟨ret_bool ?_, HB.out⟩
    rw [← HR.out]
set_option maxHeartbeats 1600000 in
theorem pstandsV_any (nm : L) (v : Value) (G : List Vhos) (hle2 : G.length ≤ 1099512676352) (w : World) (hF : Vhoss w v G) :
    Calls Tryz.prog 57 #[v, .string (ofL nm), .func (.func 58) #[] #[]] w fun e w' => e = .returned (.bool (G.any (fun x => x.domain == nm))) ∧ Below w.heap.size w w' := by
  have HB0 : Below w.heap.size w ((w.alloc (.cells #[.string (ofL nm)] 9)).alloc (.cells #[.func (.func 58) #[] #[]] 89)) := ((Below.refl _ _).alloc (Nat.le_refl _) _).alloc (by simp) _
  have HH := Lib.hid (phasV_any (fun x => x.domain == nm) (w.heap.size + 1) w.heap.size v G hle2 ((w.alloc (.cells #[.string (ofL nm)] 9)).alloc (.cells #[.func (.func 58) #[] #[]] 89)) (hF.below HB0) (fun x h W hW => by
    have c4 := (((Has.new w 9 #[.string (ofL nm)]).alloc (.cells #[.func (.func 58) #[] #[]] 89)).below hW (by simp; omega)).cell 0
    have c5 := (Has.new (w.alloc (.cells #[.string (ofL nm)] 9)) 89 #[.func (.func 58) #[] #[]]).below hW (by simp)
    rw [show (w.alloc (.cells #[.string (ofL nm)] 9)).heap.size = w.heap.size + 1 by simp] at c5
    exact pstV1_any x h nm _ _ W (c5.cell 0) c4))
  generalize G.any (fun x => x.domain == nm) = b at HH ⊢
  have HB := Lib.hid HB0
  clear HB0 hF
  go_enter Tryz.func57, Tryz.ntmps57
  go_wp2_with fail
  refine HH.out.mono ?_
  rintro e w2 ⟨rfl, hb2⟩
  have HB2 := Lib.hid (below_chain HB.out hb2)
  clear hb2
  go_wp2_with fail
  go_ret
  exact ⟨rfl, HB2.out⟩
theorem pnmS_any (x : L) (w : World) :
    Calls Tryz.prog 88 #[.string (ofL x)] w fun e w' => e = .returned (.string (ofL x)) ∧ Below w.heap.size w w' := by
  go_enter Tryz.func88, Tryz.ntmps88
  go_wp2_with fail
  go_ret
  exact ⟨rfl, Below.refl _ _⟩
set_option maxHeartbeats 3200000 in
theorem pstS1_any (x : L) (nm : L) (b5 b4 : Nat) (w : World) (h5 : w.cell? ⟨b5, 0, none⟩ = some (.func (.func 88) #[] #[])) (h4 : w.cell? ⟨b4, 0, none⟩ = some (.string (ofL nm))) :
    Calls Tryz.prog 121 #[.string (ofL x), .pointer (some ⟨b5, 0, none⟩), .pointer (some ⟨b4, 0, none⟩)] w fun e w' => e = .returned (.bool (x == nm)) ∧ Below w.heap.size w w' := by
  have HN := Lib.hid (fun w => pnmS_any x w)
  have te := text_eq x nm
  generalize (x == nm) = b at te ⊢
  have l5 := World.block_lt_of_cell? w _ h5
  have l4 := World.block_lt_of_cell? w _ h4
  have q5 : w.drew.cell? ⟨b5, 0, none⟩ = some (.func (.func 88) #[] #[]) := h5
  have q4 : w.drew.cell? ⟨b4, 0, none⟩ = some (.string (ofL nm)) := h4
  go_enter Tryz.func121, Tryz.ntmps121
  go_wp2_with fail
  have HB0 : Below w.heap.size w w.drew := below_drew (Below.refl _ _)
  go_region_held3 (fun w' => w'.cell? ⟨b5, 0, none⟩ = some (.func (.func 88) #[] #[]) ∧ w'.cell? ⟨b4, 0, none⟩ = some (.string (ofL nm))) (first | exact s2 | exact ⟨q5, q4⟩)
    (first
      | (go_at_call 88; refine (HN.out _).mono ?_; rintro e w2 ⟨rfl, hb2⟩
         have s2 := And.intro ((hb2.cell (p := ⟨b5, 0, none⟩) l5).trans q5) ((hb2.cell (p := ⟨b4, 0, none⟩) l4).trans q4)
         have HB2 := below_chain HB0 hb2))
  go_wp2_with fail
  go_ret
  exact ⟨rfl, HB2⟩
set_option maxHeartbeats 3200000 in
theorem pidxS_any (q : L → Bool) (b5 b4 : Nat) (v : Value) (G : List L) (hle2 : G.length ≤ 1099512676352) (w : World) (hF : Texts w v G)
    (hcall : ∀ (x : L) (W : World), Below w.heap.size w W → Calls Tryz.prog 121 #[.string (ofL x), .pointer (some ⟨b5, 0, none⟩), .pointer (some ⟨b4, 0, none⟩)] W fun e w' => e = .returned (.bool (q x)) ∧ Below W.heap.size W w') :
    Calls Tryz.prog 135 #[v, .func (.func 121) #[] #[.pointer (some ⟨b5, 0, none⟩), .pointer (some ⟨b4, 0, none⟩)]] w fun e w' => ∃ r : Int, e = .returned (.int .i64 r) ∧ (decide (0 ≤ r) = G.any q) ∧ Below w.heap.size w w' := by
  have HF := Lib.hid hF
  obtain ⟨p, cap, rfl⟩ : ∃ p cap, v = .slice p G.length cap := by obtain ⟨p, cap, h, _⟩ := hF; exact ⟨p, cap, h⟩
  replace hcall := Lib.hid hcall
  clear hF
  have HB0 := Lib.hid (Below.refl w.heap.size w)
  go_enter Tryz.func135, Tryz.ntmps135
  go_wp2_with fail
  go_loopw [5, 8] (fun _ i wr => ∃ k : Nat, k ≤ G.length ∧ i = .int .i64 k ∧ Hid ((G.take k).any q = false) ∧ Hid (Below w.heap.size w wr)) (fun _ i _ => G.length - (intOf i).toNat)
  case atStart => exact ⟨0, Nat.zero_le _, rfl, Lib.hid rfl, HB0⟩
  case round =>
    obtain ⟨k, hk, rfl, ha, HB⟩ := hrel
    clear HB0
    by_cases hlt : k < G.length
    · have hki : (k : Int) < (G.length : Int) := by omega
      have hk0 : (0 : Int) ≤ (k : Int) := by omega
      have HT := Lib.hid (any_step G q k hlt)
      have HAny := Lib.hid (fun hq => any_take (q := q) hlt hq)
      obtain ⟨x, hx⟩ : ∃ x, x = G[k] := ⟨_, rfl⟩
      obtain ⟨g, o, rfl, hgl, hcell⟩ := texts_at HF.out k hlt
      have m0 := hcell x hx
      rw [← hx] at HT HAny
      have HA := Lib.hid (hcall.out x wr HB.out)
      replace m0 := (HB.out.cell (p := ⟨g, o + k, none⟩) hgl).trans m0
      clear hcell
      obtain ⟨b, hb⟩ : ∃ b, b = q x := ⟨_, rfl⟩
      rw [← hb] at HA HT HAny
      clear hx hb
      cases b with
      | false =>
        have HT2 : Hid ((G.take (k + 1)).any q = false) := Lib.hid (by rw [HT.out, ha.out]; rfl)
        clear HT ha HAny
        go_wp2_with fail
        refine HA.out.mono ?_
        rintro e w2 ⟨rfl, hb2⟩
        have HB2 := Lib.hid (below_chain HB.out hb2)
        clear hb2
        go_wp2_with fail
        go_roundw
        case rel => exact ⟨k + 1, by omega, by go_num, HT2, HB2⟩
        case measure => simp [intOf]; omega
      | true =>
        have HV : Hid (decide ((0 : Int) ≤ (k : Int)) = G.any q) := Lib.hid (by
          rw [decide_eq_true (by omega)]
          exact (HAny.out rfl).symm)
        clear ha HT HAny
        go_wp2_with fail
        refine HA.out.mono ?_
        rintro e w2 ⟨rfl, hb2⟩
        have HB2 := Lib.hid (below_chain HB.out hb2)
        clear hb2
        go_wp2_with fail
        go_ret
        exact ⟨_, rfl, HV.out, HB2.out⟩
    · have HV : Hid (decide ((0 : Int) ≤ -1) = G.any q) := Lib.hid (by
        have h := ha.out
        rw [List.take_of_length_le (by omega)] at h
        rw [h]
        rfl)
      have hki : ¬ (k : Int) < (G.length : Int) := by omega
      clear ha
      go_wp2_with fail
      go_ret
      exact ⟨_, rfl, HV.out, HB.out⟩
set_option maxHeartbeats 1600000 in
theorem phasS_any (q : L → Bool) (b5 b4 : Nat) (v : Value) (G : List L) (hle2 : G.length ≤ 1099512676352) (w : World) (hF : Texts w v G)
    (hcall : ∀ (x : L) (W : World), Below w.heap.size w W → Calls Tryz.prog 121 #[.string (ofL x), .pointer (some ⟨b5, 0, none⟩), .pointer (some ⟨b4, 0, none⟩)] W fun e w' => e = .returned (.bool (q x)) ∧ Below W.heap.size W w') :
    Calls Tryz.prog 120 #[v, .func (.func 121) #[] #[.pointer (some ⟨b5, 0, none⟩), .pointer (some ⟨b4, 0, none⟩)]] w fun e w' => e = .returned (.bool (G.any q)) ∧ Below w.heap.size w w' := by
  have HI := Lib.hid (pidxS_any q b5 b4 v G hle2 w hF hcall)
  clear hF hcall
  generalize G.any q = b at *
  go_enter Tryz.func120, Tryz.ntmps120
  go_wp2_with fail
  refine HI.out.mono ?_
  rintro e w2 ⟨r, rfl, hr, hb2⟩
  have HB := Lib.hid hb2
  have HR := Lib.hid hr
  clear hb2 hr
  go_wp2_with fail
  all_goals
    go_ret
    refine ⟨ret_bool ?_, HB.out⟩
    rw [← HR.out]
set_option maxHeartbeats 1600000 in
theorem pstandsS_any (nm : L) (v : Value) (G : List L) (hle2 : G.length ≤ 1099512676352) (w : World) (hF : Texts w v G) :
    Calls Tryz.prog 87 #[v, .string (ofL nm), .func (.func 88) #[] #[]] w fun e w' => e = .returned (.bool (G.any (fun x => x == nm))) ∧ Below w.heap.size w w' := by
  have HB0 : Below w.heap.size w ((w.alloc (.cells #[.string (ofL nm)] 9)).alloc (.cells #[.func (.func 88) #[] #[]] 53)) := ((Below.refl _ _).alloc (Nat.le_refl _) _).alloc (by simp) _
  have HH := Lib.hid (phasS_any (fun x => x == nm) (w.heap.size + 1) w.heap.size v G hle2 ((w.alloc (.cells #[.string (ofL nm)] 9)).alloc (.cells #[.func (.func 88) #[] #[]] 53)) (Texts.below hF HB0) (fun x W hW => by
    have c4 := (((Has.new w 9 #[.string (ofL nm)]).alloc (.cells #[.func (.func 88) #[] #[]] 53)).below hW (by simp; omega)).cell 0
    have c5 := (Has.new (w.alloc (.cells #[.string (ofL nm)] 9)) 53 #[.func (.func 88) #[] #[]]).below hW (by simp)
    rw [show (w.alloc (.cells #[.string (ofL nm)] 9)).heap.size = w.heap.size + 1 by simp] at c5
    exact pstS1_any x nm _ _ W (c5.cell 0) c4))
  generalize G.any (fun x => x == nm) = b at HH ⊢
  have HB := Lib.hid HB0
  clear HB0 hF
  go_enter Tryz.func87, Tryz.ntmps87
  go_wp2_with fail
  refine HH.out.mono ?_
  rintro e w2 ⟨rfl, hb2⟩
  have HB2 := Lib.hid (below_chain HB.out hb2)
  clear hb2
  go_wp2_with fail
  go_ret
  exact ⟨rfl, HB2.out⟩
end Go.Proofs.YtfihehobkbfmiaaGreatDoor.PCfgS

/- Layer 14 of the program: clusters and routes, one by one. -/
namespace Go.Proofs.YtfihehobkbfmiaaGreatDoor.PCfgC
open Go.ChangeShapes Go.WideShapes Go.ChangeAt Go.RowKit Bytes LexPure ConfPure ConfMem ConfAt Ret Mem Texts PCfgLib PCfgBox PCfgT PCfgS R14Name
set_option maxRecDepth 100000
set_option linter.unusedVariables false
set_option linter.unusedSimpArgs false
theorem ret_int {a b : Int} (h : a = b) : Ending.returned (.int .i64 a) = .returned (.int .i64 b) := by rw [h]
theorem ite_int (n m : Int) (A B : Bool) : (if n = m then A else B) = cond (n == m) A B := by
  by_cases h : n = m
  · rw [if_pos h, h, beq_self_eq_true]; rfl
  · rw [if_neg h, beq_false_of_ne h]; rfl
theorem ite_list (l m : L) (A B : Bool) : (if l = m then A else B) = cond (l == m) A B := by
  by_cases h : l = m
  · rw [if_pos h, h, beq_self_eq_true]; rfl
  · rw [if_neg h, beq_false_of_ne h]; rfl
def limB (x : Clus) : Bool := inB x.policy 1 4 && inB x.conns 1 64 && inB x.pending 0 256 && inB x.try_ 1 1048576 && inB x.fails 1 1000 && inB x.eject 1 1048576 && inB x.panic 0 100
set_option maxHeartbeats 3200000 in
theorem plim_any (x : Clus) (hv : Value) (w : World) :
    Calls Tryz.prog 55 #[.agg #[.string (ofL x.name), .int .i64 x.policy, hv, .int .i64 x.conns, .int .i64 x.pending, .int .i64 x.try_, .int .i64 x.fails, .int .i64 x.eject, .int .i64 x.panic]] w fun e w' => e = .returned (.bool (limB x)) ∧ Below w.heap.size w w' := by
  have H0 := Lib.hid (fun w => pwithin_any x.policy 1 4 w)
  have H1 := Lib.hid (fun w => pwithin_any x.conns 1 64 w)
  have H2 := Lib.hid (fun w => pwithin_any x.pending 0 256 w)
  have H3 := Lib.hid (fun w => pwithin_any x.try_ 1 1048576 w)
  have H4 := Lib.hid (fun w => pwithin_any x.fails 1 1000 w)
  have H5 := Lib.hid (fun w => pwithin_any x.eject 1 1048576 w)
  have H6 := Lib.hid (fun w => pwithin_any x.panic 0 100 w)
  obtain ⟨r0, hr0⟩ : ∃ r0, r0 = inB x.policy 1 4 := ⟨_, rfl⟩
  rw [← hr0] at H0
  obtain ⟨r1, hr1⟩ : ∃ r1, r1 = inB x.conns 1 64 := ⟨_, rfl⟩
  rw [← hr1] at H1
  obtain ⟨r2, hr2⟩ : ∃ r2, r2 = inB x.pending 0 256 := ⟨_, rfl⟩
  rw [← hr2] at H2
  obtain ⟨r3, hr3⟩ : ∃ r3, r3 = inB x.try_ 1 1048576 := ⟨_, rfl⟩
  rw [← hr3] at H3
  obtain ⟨r4, hr4⟩ : ∃ r4, r4 = inB x.fails 1 1000 := ⟨_, rfl⟩
  rw [← hr4] at H4
  obtain ⟨r5, hr5⟩ : ∃ r5, r5 = inB x.eject 1 1048576 := ⟨_, rfl⟩
  rw [← hr5] at H5
  obtain ⟨r6, hr6⟩ : ∃ r6, r6 = inB x.panic 0 100 := ⟨_, rfl⟩
  rw [← hr6] at H6
  have HV : Hid (limB x = (r0 && r1 && r2 && r3 && r4 && r5 && r6)) := Lib.hid (by unfold limB; rw [hr0, hr1, hr2, hr3, hr4, hr5, hr6])
  have K0 := Lib.hid (Ob.start w 38 #[.string (ofL x.name), .int .i64 x.policy, hv, .int .i64 x.conns, .int .i64 x.pending, .int .i64 x.try_, .int .i64 x.fails, .int .i64 x.eject, .int .i64 x.panic])
  clear hr0 hr1 hr2 hr3 hr4 hr5 hr6
  go_enter Tryz.func55, Tryz.ntmps55
  go_wp2_with fail
  refine (H0.out _).mono ?_
  rintro e v1 ⟨rfl, rfl⟩
  clear H0
  cases r0 with
  | false =>
    go_wp2_with fail
    go_ret
    exact ⟨ret_bool (by rw [HV.out]; simp), K0.out.below⟩
  | true =>
  go_wp2_with fail
  refine (H1.out _).mono ?_
  rintro e v2 ⟨rfl, rfl⟩
  clear H1
  cases r1 with
  | false =>
    go_wp2_with fail
    go_ret
    exact ⟨ret_bool (by rw [HV.out]; simp), K0.out.below⟩
  | true =>
  go_wp2_with fail
  refine (H2.out _).mono ?_
  rintro e v3 ⟨rfl, rfl⟩
  clear H2
  cases r2 with
  | false =>
    go_wp2_with fail
    go_ret
    exact ⟨ret_bool (by rw [HV.out]; simp), K0.out.below⟩
  | true =>
  go_wp2_with fail
  refine (H3.out _).mono ?_
  rintro e v4 ⟨rfl, rfl⟩
  clear H3
  cases r3 with
  | false =>
    go_wp2_with fail
    go_ret
    exact ⟨ret_bool (by rw [HV.out]; simp), K0.out.below⟩
  | true =>
  go_wp2_with fail
  refine (H4.out _).mono ?_
  rintro e v5 ⟨rfl, rfl⟩
  clear H4
  cases r4 with
  | false =>
    go_wp2_with fail
    go_ret
    exact ⟨ret_bool (by rw [HV.out]; simp), K0.out.below⟩
  | true =>
  go_wp2_with fail
  refine (H5.out _).mono ?_
  rintro e v6 ⟨rfl, rfl⟩
  clear H5
  cases r5 with
  | false =>
    go_wp2_with fail
    go_ret
    exact ⟨ret_bool (by rw [HV.out]; simp), K0.out.below⟩
  | true =>
  go_wp2_with fail
  refine (H6.out _).mono ?_
  rintro e v7 ⟨rfl, rfl⟩
  clear H6
  cases r6 with
  | false =>
    go_wp2_with fail
    go_ret
    exact ⟨ret_bool (by rw [HV.out]; simp), K0.out.below⟩
  | true =>
  go_wp2_with fail
  go_ret
  exact ⟨ret_bool (by rw [HV.out]; simp), K0.out.below⟩
theorem hosts_step (ahead hs : List L) (h : L) : hostsB ahead (h :: hs) = (hostB h && !(ahead.any (fun x => x == h)) && hostsB (ahead ++ [h]) hs) := by
  conv => lhs; unfold hostsB
  rw [List.contains_eq_any_beq]
  congr 3
  induction ahead with
  | nil => rfl
  | cons a l ih => rw [List.any_cons, List.any_cons, ih, Bool.beq_comm (a := h)]
set_option maxHeartbeats 6400000 in
theorem phosts_any (G : List L) (v : Value) (hx : G.length ≤ 1048576 ∧ ∀ t ∈ G, t.length ≤ 1048576) (w : World) (hm : MaxInt w) (hp : Pow w) (hT : Texts w v G) (hcp : CapOk v) :
    Calls Tryz.prog 54 #[v] w fun e w' => e = .returned (.bool (inB G.length 1 16 && hostsB [] G)) ∧ Below w.heap.size w w' := by
  have HT := Lib.hid hT
  obtain ⟨p, cap, rfl⟩ : ∃ p cap, v = .slice p G.length cap := by obtain ⟨p, cap, h, _⟩ := hT; exact ⟨p, cap, h⟩
  have hcap : G.length ≤ cap := hcp _ _ _ rfl
  have HM := Lib.hid hm
  have HP := Lib.hid hp
  have hgl := hx.1
  have HX := Lib.hid hx
  have HL := Lib.hid (fun w => pwithin_any ((G.length : Nat) : Int) 1 16 w)
  obtain ⟨r0, hr0⟩ : ∃ r, r = inB ((G.length : Nat) : Int) 1 16 := ⟨_, rfl⟩
  rw [← hr0] at HL ⊢
  clear hr0 hx hm hp hT
  go_enter Tryz.func54, Tryz.ntmps54
  go_wp2_with fail
  refine (HL.out _).mono ?_
  rintro e w1 ⟨rfl, rfl⟩
  clear HL
  cases r0 with
  | false =>
    go_wp2_with fail
    go_ret
    exact ⟨ret_bool (by simp), Below.refl _ _⟩
  | true =>
  go_wp2_with fail
  go_loopw [11] (fun i wr => ∃ k : Nat, k ≤ G.length ∧ i = .int .i64 k ∧ Hid (hostsB [] G = hostsB (G.take k) (G.drop k) ∧ Below w.heap.size w wr)) (fun i _ => G.length - (intOf i).toNat)
  case atStart => exact ⟨0, Nat.zero_le _, rfl, Lib.hid ⟨by simp, Below.refl _ _⟩⟩
  case round =>
    obtain ⟨k, hk, rfl, HJ⟩ := hrel
    by_cases hlt : k < G.length
    · have hki : (k : Int) < (G.length : Int) := by omega
      have hk0 : (0 : Int) ≤ (k : Int) := by omega
      have HTk := Lib.hid (fun cap2 => texts_take HT.out k hk cap2)
      have HS : Hid (hostsB (G.take k) (G.drop k) = (hostB G[k] && !((G.take k).any (fun x => x == G[k])) && hostsB (G.take (k + 1)) (G.drop (k + 1)))) := Lib.hid (by
        rw [List.drop_eq_getElem_cons hlt, hosts_step, List.take_succ_eq_append_getElem hlt])
      obtain ⟨g, o, rfl, hgl2, hcell⟩ := texts_at HT.out k hlt
      obtain ⟨x, hxx⟩ : ∃ x, x = G[k] := ⟨_, rfl⟩
      have m0 := (HJ.out.2.cell (p := ⟨g, o + k, none⟩) hgl2).trans (hcell x hxx)
      rw [← hxx] at HS
      have hxl : x.length ≤ 1048576 := by rw [hxx]; exact HX.out.2 _ (List.getElem_mem hlt)
      have HU := Lib.hid (fun w h1 h2 => pup_any (ofL x) (by rw [ofL_size]; exact hxl) w h1 h2)
      rw [toL_ofL] at HU
      have hkc : (k : Int) ≤ (cap : Int) := by omega
      have hln : (G.take k).length = k := by rw [List.length_take]; omega
      have HSt := Lib.hid (fun w (cap2 : Nat) h => pstandsS_any x (.slice (some ⟨g, o, none⟩) k cap2) (G.take k) (by omega) w h)
      obtain ⟨b1, hb1⟩ : ∃ b, b = hostB x := ⟨_, rfl⟩
      obtain ⟨b2, hb2⟩ : ∃ b, b = (G.take k).any (fun y => y == x) := ⟨_, rfl⟩
      rw [← hb1] at HU HS
      rw [← hb2] at HSt HS
      have HM1 := Lib.hid (HM.out.below HJ.out.2)
      have HP1 := Lib.hid (HP.out.below HJ.out.2)
      clear hxx hb1 hb2 hcell hxl hln
      cases b1 with
      | false =>
        go_wp2_with fail
        refine (HU.out _ HM1.out HP1.out).mono ?_
        rintro e w2 ⟨rfl, hb⟩
        have HB := Lib.hid (below_chain HJ.out.2 hb)
        clear hb
        go_wp2_with fail
        go_ret
        exact ⟨ret_bool (by rw [HJ.out.1, HS.out]; simp), HB.out⟩
      | true =>
        go_wp2_with fail
        refine (HU.out _ HM1.out HP1.out).mono ?_
        rintro e w2 ⟨rfl, hb⟩
        have HB := Lib.hid (below_chain HJ.out.2 hb)
        have HTx := Lib.hid (fun cap2 => Texts.below (HTk.out cap2) HB.out)
        have HH := Lib.hid HJ.out.1
        clear hb HU HJ HM1 HP1 m0
        go_wp2_with fail
        refine (HSt.out _ _ (HTx.out _)).mono ?_
        rintro e w3 ⟨rfl, hb⟩
        have HB2 := Lib.hid (below_chain HB.out hb)
        clear hb HSt HTx HB
        cases b2 with
        | true =>
          go_wp2_with fail
          go_ret
          exact ⟨ret_bool (by rw [HH.out, HS.out]; simp), HB2.out⟩
        | false =>
          have HK : Hid (hostsB [] G = hostsB (G.take (k + 1)) (G.drop (k + 1)) ∧ Below w.heap.size w w3) := Lib.hid ⟨by rw [HH.out, HS.out]; simp, HB2.out⟩
          clear HH HS HB2
          go_wp2_with fail
          go_roundw
          case rel => exact ⟨k + 1, by omega, by go_num, HK⟩
          case measure => simp [intOf]; omega
    · have hki : ¬ (k : Int) < (G.length : Int) := by omega
      obtain rfl : k = G.length := by omega
      have HV : Hid (hostsB [] G = true) := Lib.hid (by
        have := HJ.out.1
        rw [List.take_length, List.drop_length] at this
        rw [this]
        unfold hostsB
        rfl)
      have HB := Lib.hid HJ.out.2
      clear HJ
      go_wp2_with fail
      go_ret
      exact ⟨ret_bool HV.out.symm, HB.out⟩
theorem clusB_prog (x : Clus) : clusB x = ((inB x.hosts.length 1 16 && hostsB [] x.hosts) && limB x) := by
  unfold clusB limB
  simp only [show TICK = 1048576 from rfl]
  generalize inB x.policy 1 4 = a0
  generalize inB x.hosts.length 1 16 = a1
  generalize inB x.conns 1 64 = a2
  generalize inB x.pending 0 256 = a3
  generalize inB x.try_ 1 1048576 = a4
  generalize inB x.eject 1 1048576 = a5
  generalize inB x.fails 1 1000 = a6
  generalize inB x.panic 0 100 = a7
  generalize hostsB [] x.hosts = a8
  cases a0 <;> cases a1 <;> cases a2 <;> cases a3 <;> cases a4 <;> cases a5 <;> cases a6 <;> cases a7 <;> cases a8 <;> rfl
def clE (ahead : List Clus) (x : Clus) : Int := if ahead.any (fun y => y.name == x.name) || !tokenB x.name 32 then 142 else if !clusB x then 143 else 0
set_option maxHeartbeats 6400000 in
theorem pclus_any (x : Clus) (hv : Value) (hx : FitClus x) (G : List Clus) (v : Value) (hG : G.length ≤ 1048576) (w : World) (hm : MaxInt w) (hp : Pow w) (hT : Texts w hv x.hosts) (hcp : CapOk hv) (hC : Cluss w v G) :
    Calls Tryz.prog 22 #[.agg #[.string (ofL x.name), .int .i64 x.policy, hv, .int .i64 x.conns, .int .i64 x.pending, .int .i64 x.try_, .int .i64 x.fails, .int .i64 x.eject, .int .i64 x.panic], v] w fun e w' => e = .returned (.int .i64 (clE G x)) ∧ Below w.heap.size w w' := by
  have ha := (Below.refl w.heap.size w).alloc (Nat.le_refl _) (.cells #[.string (ofL x.name), .int .i64 x.policy, hv, .int .i64 x.conns, .int .i64 x.pending, .int .i64 x.try_, .int .i64 x.fails, .int .i64 x.eject, .int .i64 x.panic] 38)
  have HT := Lib.hid (Texts.below hT ha)
  have HC := Lib.hid (hC.below ha)
  have HM := Lib.hid (PUnder.MaxInt.below hm ha)
  have HP := Lib.hid (hp.below ha)
  have H0 := Lib.hid (fun w => ptok_any (ofL x.name) (by rw [ofL_size]; exact hx.name) 32 (by decide) w)
  rw [toL_ofL] at H0
  have H1 := Lib.hid (fun w h => pstandsC_any x.name v G (by omega) w h)
  have H2 := Lib.hid (fun w h1 h2 h3 => phosts_any x.hosts hv hx.hosts w h1 h2 h3 hcp)
  have H3 := Lib.hid (fun w => plim_any x hv w)
  obtain ⟨r0, hr0⟩ : ∃ r, r = tokenB x.name 32 := ⟨_, rfl⟩
  obtain ⟨r1, hr1⟩ : ∃ r, r = G.any (fun y => y.name == x.name) := ⟨_, rfl⟩
  obtain ⟨r2, hr2⟩ : ∃ r, r = (inB x.hosts.length 1 16 && hostsB [] x.hosts) := ⟨_, rfl⟩
  obtain ⟨r3, hr3⟩ : ∃ r, r = limB x := ⟨_, rfl⟩
  have HV : Hid (clE G x = if r1 || !r0 then 142 else if !(r2 && r3) then 143 else 0) := Lib.hid (by unfold clE; rw [clusB_prog, hr0, hr1, hr2, hr3])
  rw [← hr0] at H0
  rw [← hr1] at H1
  rw [← hr2] at H2
  rw [← hr3] at H3
  have K0 := Lib.hid (Ob.start w 38 #[.string (ofL x.name), .int .i64 x.policy, hv, .int .i64 x.conns, .int .i64 x.pending, .int .i64 x.try_, .int .i64 x.fails, .int .i64 x.eject, .int .i64 x.panic])
  clear hr0 hr1 hr2 hr3 hT hC hm hp ha hx hG hcp
  go_enter Tryz.func22, Tryz.ntmps22
  go_wp2_with fail
  refine (H0.out _).mono ?_
  rintro e w1 ⟨rfl, rfl⟩
  clear H0
  cases r0 with
  | false =>
    clear H1 H2 H3
    go_wp2_with fail
    go_ret
    exact ⟨ret_int (by rw [HV.out]; cases r1 <;> rfl), K0.out.below⟩
  | true =>
  go_wp2_with fail
  refine (H1.out _ HC.out).mono ?_
  rintro e w1 ⟨rfl, hb⟩
  have HT1 := Lib.hid (Texts.below HT.out hb)
  have HM1 := Lib.hid (PUnder.MaxInt.below HM.out hb)
  have HP1 := Lib.hid (HP.out.below hb)
  have K1 := Lib.hid (K0.out.call hb)
  clear hb HT HC HM HP K0 H1
  have m2 : w1.cell? ⟨w.heap.size, 2, none⟩ = some hv := K1.out.box.cell 2
  cases r1 with
  | true =>
    clear H2 H3
    go_wp2_with fail
    go_ret
    exact ⟨ret_int (by rw [HV.out]; rfl), K1.out.below⟩
  | false =>
  go_wp2_with fail
  refine (H2.out _ HM1.out HP1.out HT1.out).mono ?_
  rintro e w2 ⟨rfl, hb⟩
  have K2 := Lib.hid (K1.out.call hb)
  clear hb HT1 HM1 HP1 K1 H2 m2
  have m0 : w2.cell? ⟨w.heap.size, 0, none⟩ = some (.string (ofL x.name)) := K2.out.box.cell 0
  have m1 : w2.cell? ⟨w.heap.size, 1, none⟩ = some (.int .i64 x.policy) := K2.out.box.cell 1
  have m2 : w2.cell? ⟨w.heap.size, 2, none⟩ = some (hv) := K2.out.box.cell 2
  have m3 : w2.cell? ⟨w.heap.size, 3, none⟩ = some (.int .i64 x.conns) := K2.out.box.cell 3
  have m4 : w2.cell? ⟨w.heap.size, 4, none⟩ = some (.int .i64 x.pending) := K2.out.box.cell 4
  have m5 : w2.cell? ⟨w.heap.size, 5, none⟩ = some (.int .i64 x.try_) := K2.out.box.cell 5
  have m6 : w2.cell? ⟨w.heap.size, 6, none⟩ = some (.int .i64 x.fails) := K2.out.box.cell 6
  have m7 : w2.cell? ⟨w.heap.size, 7, none⟩ = some (.int .i64 x.eject) := K2.out.box.cell 7
  have m8 : w2.cell? ⟨w.heap.size, 8, none⟩ = some (.int .i64 x.panic) := K2.out.box.cell 8
  cases r2 with
  | false =>
    clear H3
    go_wp2_with fail
    go_ret
    exact ⟨ret_int (by rw [HV.out]; rfl), K2.out.below⟩
  | true =>
  go_wp2_with fail
  refine (H3.out _).mono ?_
  rintro e w3 ⟨rfl, hb⟩
  have K3 := Lib.hid (K2.out.call hb)
  clear hb H3 K2 m0 m1 m2 m3 m4 m5 m6 m7 m8
  cases r3 with
  | false =>
    go_wp2_with fail
    go_ret
    exact ⟨ret_int (by rw [HV.out]; rfl), K3.out.below⟩
  | true =>
    go_wp2_with fail
    go_ret
    exact ⟨ret_int (by rw [HV.out]; rfl), K3.out.below⟩
end Go.Proofs.YtfihehobkbfmiaaGreatDoor.PCfgC

/- Layer 14 of the program: routes. -/
namespace Go.Proofs.YtfihehobkbfmiaaGreatDoor.PCfgR
open Go.ChangeShapes Go.WideShapes Go.ChangeAt Go.RowKit Bytes LexPure ConfPure ConfMem ConfAt Ret Mem Texts PCfgLib PCfgBox PCfgT PCfgS PCfgC R14Name
set_option maxRecDepth 100000
set_option linter.unusedVariables false
set_option linter.unusedSimpArgs false
abbrev RT : TypeId := 45
/-- a route's box, the clusters beside it, the tables -/
structure Rx (w : World) (g : Nat) (cs : Array Value) (v : Value) (G : List Clus) (W : World) : Prop where
  box : Has W g RT cs
  cl : Cluss W v G
  mi : MaxInt W
  pw : PCfgLib.Pow W
  below : Below g w W
theorem Rx.call {w W W' : World} {g : Nat} {cs : Array Value} {v : Value} {G : List Clus} (x : Rx w g cs v G W) (hb : Below W.heap.size W W') : Rx w g cs v G W' :=
  ⟨x.box.below hb x.box.lt, x.cl.below hb, PUnder.MaxInt.below x.mi hb, x.pw.below hb, ⟨hb.os.trans x.below.os, hb.tape.trans x.below.tape, hb.output.trans x.below.output, Nat.le_trans x.below.size hb.size, fun i hi => (hb.block i (Nat.lt_trans hi x.box.lt)).trans (x.below.block i hi)⟩⟩
theorem Rx.start {w : World} {cs : Array Value} {v : Value} {G : List Clus} (hT : Cluss w v G) (hm : MaxInt w) (hp : PCfgLib.Pow w) : Rx w w.heap.size cs v G (w.alloc (.cells cs RT)) :=
  have ha := (Below.refl w.heap.size w).alloc (Nat.le_refl _) (.cells cs RT)
  ⟨Has.new w _ _, hT.below ha, PUnder.MaxInt.below hm ha, hp.below ha, ha⟩
def nowB (x : Rout) : Bool := x.cluster == [] && x.rewrite == [] && x.retries == 0 && x.timeout == 0 && !x.upgrade
def matchB (x : Rout) : Bool := ((x.path == [] && x.method == CONNECT) || normalB x.path) && (x.method == [] || tokenB x.method 16) && cond (x.field == []) (x.value == []) (tokenB x.field 32 && textB x.value)
def fwdB (x : Rout) (G : List Clus) : Bool := !(x.method == CONNECT && (!(x.rewrite == []) || !(x.retries == 0) || x.upgrade)) && (G.any (fun c => c.name == x.cluster) && x.status == 0 && x.text == [] && (x.rewrite == [] || normalB x.rewrite) && inB x.retries 0 5 && inB x.timeout 1 1048576)
def dirB (n : Int) (m : L) : Bool := n != 204 && n != 304 && (if m = CONNECT then inB n 300 599 else inB n 200 599)
def actB (x : Rout) (G : List Clus) : Bool := cond (x.action == 1) (fwdB x G) (cond (x.action == 2) (nowB x && (x.status == 301 || x.status == 302 || x.status == 307 || x.status == 308) && (x.text != [] && textB x.text)) (cond (x.action == 3) (nowB x && dirB x.status x.method && textB x.text) false))
theorem forwB_prog (x : Rout) (G : List Clus) : forwB x G = fwdB x G := by
  unfold forwB fwdB
  rw [ite_list, show TICK = 1048576 from rfl]
  generalize G.any (fun c => c.name == x.cluster) = a0
  generalize (x.status == 0) = a1
  generalize (x.text == []) = a2
  generalize inB x.retries 0 5 = a3
  generalize inB x.timeout 1 1048576 = a4
  generalize (x.method == CONNECT) = a5
  generalize (x.rewrite == []) = a6
  generalize (x.retries == 0) = a7
  generalize normalB x.rewrite = a8
  generalize x.upgrade = a9
  cases a5 <;> cases a6 <;> cases a7 <;> cases a9 <;> simp <;> ac_rfl
theorem dirB_prog (n : Int) (m : L) : dirB n m = (!(m == CONNECT && decide (n < 300)) && inB n 200 599 && n != 204 && n != 304) := by
  unfold dirB
  rw [ite_list]
  generalize (n != 204) = a
  generalize (n != 304) = b
  unfold inB
  by_cases hm : (m == CONNECT) = true
  · rw [hm]
    by_cases h : n < 300
    · have h1 : ¬ (300 ≤ n) := by omega
      simp [h, h1]
    · have h1 : 300 ≤ n := by omega
      have h2 : 200 ≤ n := by omega
      simp only [h, h1, h2, decide_true, decide_false, Bool.and_true, Bool.true_and, Bool.and_false, Bool.not_false, cond]
      ac_rfl
  · rw [Bool.not_eq_true] at hm
    rw [hm]
    simp only [Bool.false_and, Bool.not_false, Bool.true_and, cond]
    ac_rfl
theorem match_bool : ∀ a0 a1 a2 a3 a4 a5 b c d : Bool, (c = true → a5 = true) → ((a0 || (a1 && a2)) && (a3 || a4) && a5 && (!b || c) && (b || d)) = (((a1 && a2) || a0) && (a3 || a4) && cond b c (d && a5)) := by decide +kernel
theorem act_bool : ∀ A1 A2 A3 F N T E R X i n1 n2 : Bool, cond A1 F (N && T && cond A2 (E && R) (X && A3 && i && n1 && n2)) = cond A1 F (cond A2 (N && R && (E && T)) (cond A3 (N && (X && i && n1 && n2) && T) false)) := by decide +kernel
theorem routB_prog (x : Rout) (G : List Clus) : routB x G = (matchB x && actB x G) := by
  have hv : (x.value == []) = true → textB x.value = true := fun h => by rw [eq_of_beq h]; decide
  unfold routB matchB actB
  rw [ite_int, ite_int, forwB_prog, dirB_prog, ← match_bool _ _ _ _ _ _ _ _ _ hv, ← act_bool]
  rfl
set_option maxHeartbeats 3200000 in
theorem pnow_any (x : Rout) (w : World) :
    Calls Tryz.prog 95 #[.agg #[.bool x.pre, .string (ofL x.path), .string (ofL x.method), .string (ofL x.field), .string (ofL x.value), .int .i64 x.action, .string (ofL x.cluster), .int .i64 x.status, .string (ofL x.text), .string (ofL x.rewrite), .int .i64 x.retries, .int .i64 x.timeout, .bool x.upgrade]] w fun e w' => e = .returned (.bool (nowB x)) ∧ Below w.heap.size w w' := by
  obtain ⟨r0, hr0⟩ : ∃ r0, r0 = (x.cluster == []) := ⟨_, rfl⟩
  have yr0a : ((ofL x.cluster).toList == []) = r0 := by rw [hr0, ByteArray.toList_eq]; show (toL (ofL x.cluster) == []) = _; rw [toL_ofL]
  have yr0b : ((ofL x.cluster).toList != []) = !r0 := by rw [← yr0a]; rfl
  have yr0c : (ofL x.cluster).toList.isEmpty = r0 := by rw [← yr0a]; cases (ofL x.cluster).toList <;> rfl
  obtain ⟨r1, hr1⟩ : ∃ r1, r1 = (x.rewrite == []) := ⟨_, rfl⟩
  have yr1a : ((ofL x.rewrite).toList == []) = r1 := by rw [hr1, ByteArray.toList_eq]; show (toL (ofL x.rewrite) == []) = _; rw [toL_ofL]
  have yr1b : ((ofL x.rewrite).toList != []) = !r1 := by rw [← yr1a]; rfl
  have yr1c : (ofL x.rewrite).toList.isEmpty = r1 := by rw [← yr1a]; cases (ofL x.rewrite).toList <;> rfl
  obtain ⟨r2, hr2⟩ : ∃ r2, r2 = (x.retries == 0) := ⟨_, rfl⟩
  have yr2b : (x.retries != 0) = !r2 := by rw [hr2]; rfl
  have yr2a : (x.retries == 0) = r2 := hr2.symm
  obtain ⟨r3, hr3⟩ : ∃ r3, r3 = (x.timeout == 0) := ⟨_, rfl⟩
  have yr3b : (x.timeout != 0) = !r3 := by rw [hr3]; rfl
  have yr3a : (x.timeout == 0) = r3 := hr3.symm
  have HV : Hid (nowB x = (r0 && r1 && r2 && r3 && !x.upgrade)) := Lib.hid (by unfold nowB; rw [hr0, hr1, hr2, hr3])
  obtain ⟨up, hup⟩ : ∃ up, up = x.upgrade := ⟨_, rfl⟩
  rw [← hup] at HV ⊢
  have K0 := Lib.hid (Ob.start w RT #[.bool x.pre, .string (ofL x.path), .string (ofL x.method), .string (ofL x.field), .string (ofL x.value), .int .i64 x.action, .string (ofL x.cluster), .int .i64 x.status, .string (ofL x.text), .string (ofL x.rewrite), .int .i64 x.retries, .int .i64 x.timeout, .bool up])
  clear hr0 hr1 hr2 hr3 hup
  go_enter Tryz.func95, Tryz.ntmps95
  cases r0 with
  | false =>
    go_wp2_with fail
    go_ret
    exact ⟨ret_bool (by rw [HV.out]; simp), K0.out.below⟩
  | true =>
    cases r1 with
    | false =>
      go_wp2_with fail
      go_ret
      exact ⟨ret_bool (by rw [HV.out]; simp), K0.out.below⟩
    | true =>
      cases r2 with
      | false =>
        go_wp2_with fail
        go_ret
        exact ⟨ret_bool (by rw [HV.out]; simp), K0.out.below⟩
      | true =>
        cases r3 with
        | false =>
          go_wp2_with fail
          go_ret
          exact ⟨ret_bool (by rw [HV.out]; simp), K0.out.below⟩
        | true =>
          cases up with
          | false =>
            go_wp2_with fail
            go_ret
            exact ⟨ret_bool (by rw [HV.out]; simp), K0.out.below⟩
          | true =>
            go_wp2_with fail
            go_ret
            exact ⟨ret_bool (by rw [HV.out]; simp), K0.out.below⟩
set_option maxHeartbeats 6400000 in
theorem pmatch_any (x : Rout) (hx : FitRout x) (w : World) (hm : MaxInt w) (hp : PCfgLib.Pow w) :
    Calls Tryz.prog 59 #[.agg #[.bool x.pre, .string (ofL x.path), .string (ofL x.method), .string (ofL x.field), .string (ofL x.value), .int .i64 x.action, .string (ofL x.cluster), .int .i64 x.status, .string (ofL x.text), .string (ofL x.rewrite), .int .i64 x.retries, .int .i64 x.timeout, .bool x.upgrade]] w fun e w' => e = .returned (.bool (matchB x)) ∧ Below w.heap.size w w' := by
  obtain ⟨r0, hr0⟩ : ∃ r0, r0 = (x.path == []) := ⟨_, rfl⟩
  have yr0a : ((ofL x.path).toList == []) = r0 := by rw [hr0, ByteArray.toList_eq]; show (toL (ofL x.path) == []) = _; rw [toL_ofL]
  have yr0b : ((ofL x.path).toList != []) = !r0 := by rw [← yr0a]; rfl
  have yr0c : (ofL x.path).toList.isEmpty = r0 := by rw [← yr0a]; cases (ofL x.path).toList <;> rfl
  obtain ⟨r1, hr1⟩ : ∃ r1, r1 = (x.method == CONNECT) := ⟨_, rfl⟩
  have yr1a : ((ofL x.method).toList == [67, 79, 78, 78, 69, 67, 84]) = r1 := by rw [hr1, ByteArray.toList_eq]; show (toL (ofL x.method) == [67, 79, 78, 78, 69, 67, 84]) = _; rw [toL_ofL]; rfl
  have yr1b : ((ofL x.method).toList != [67, 79, 78, 78, 69, 67, 84]) = !r1 := by rw [← yr1a]; rfl
  obtain ⟨r2, hr2⟩ : ∃ r2, r2 = normalB x.path := ⟨_, rfl⟩
  obtain ⟨r3, hr3⟩ : ∃ r3, r3 = (x.method == []) := ⟨_, rfl⟩
  have yr3a : ((ofL x.method).toList == []) = r3 := by rw [hr3, ByteArray.toList_eq]; show (toL (ofL x.method) == []) = _; rw [toL_ofL]
  have yr3b : ((ofL x.method).toList != []) = !r3 := by rw [← yr3a]; rfl
  have yr3c : (ofL x.method).toList.isEmpty = r3 := by rw [← yr3a]; cases (ofL x.method).toList <;> rfl
  obtain ⟨r4, hr4⟩ : ∃ r4, r4 = tokenB x.method 16 := ⟨_, rfl⟩
  obtain ⟨r5, hr5⟩ : ∃ r5, r5 = (x.field == []) := ⟨_, rfl⟩
  have yr5a : ((ofL x.field).toList == []) = r5 := by rw [hr5, ByteArray.toList_eq]; show (toL (ofL x.field) == []) = _; rw [toL_ofL]
  have yr5b : ((ofL x.field).toList != []) = !r5 := by rw [← yr5a]; rfl
  have yr5c : (ofL x.field).toList.isEmpty = r5 := by rw [← yr5a]; cases (ofL x.field).toList <;> rfl
  obtain ⟨r6, hr6⟩ : ∃ r6, r6 = (x.value == []) := ⟨_, rfl⟩
  have yr6a : ((ofL x.value).toList == []) = r6 := by rw [hr6, ByteArray.toList_eq]; show (toL (ofL x.value) == []) = _; rw [toL_ofL]
  have yr6b : ((ofL x.value).toList != []) = !r6 := by rw [← yr6a]; rfl
  have yr6c : (ofL x.value).toList.isEmpty = r6 := by rw [← yr6a]; cases (ofL x.value).toList <;> rfl
  obtain ⟨r7, hr7⟩ : ∃ r7, r7 = tokenB x.field 32 := ⟨_, rfl⟩
  obtain ⟨r8, hr8⟩ : ∃ r8, r8 = textB x.value := ⟨_, rfl⟩
  have HV : Hid (matchB x = (((r0 && r1) || r2) && (r3 || r4) && cond r5 r6 (r7 && r8))) := Lib.hid (by unfold matchB; rw [hr0, hr1, hr2, hr3, hr4, hr5, hr6, hr7, hr8])
  have H2 := Lib.hid (fun w h => pnorm_any (ofL x.path) (by rw [ofL_size]; exact hx.path) w h)
  rw [toL_ofL, ← hr2] at H2
  have H4 := Lib.hid (fun w => ptok_any (ofL x.method) (by rw [ofL_size]; exact hx.method) 16 (by decide) w)
  rw [toL_ofL, ← hr4] at H4
  have H7 := Lib.hid (fun w => ptok_any (ofL x.field) (by rw [ofL_size]; exact hx.field) 32 (by decide) w)
  rw [toL_ofL, ← hr7] at H7
  have H8 := Lib.hid (fun w => ptext_any (ofL x.value) (by rw [ofL_size]; exact hx.value) w)
  rw [toL_ofL, ← hr8] at H8
  have K0 := Lib.hid (Rx.start (cs := #[.bool x.pre, .string (ofL x.path), .string (ofL x.method), .string (ofL x.field), .string (ofL x.value), .int .i64 x.action, .string (ofL x.cluster), .int .i64 x.status, .string (ofL x.text), .string (ofL x.rewrite), .int .i64 x.retries, .int .i64 x.timeout, .bool x.upgrade]) (v := .slice none 0 0) (G := []) ⟨fun _ => undef, ⟨none, 0, rfl, by decide, fun h => absurd h (by decide)⟩, fun i hi => absurd hi (by simp)⟩ hm hp)
  clear hr0 hr1 hr2 hr3 hr4 hr5 hr6 hr7 hr8 hm hp hx
  go_enter Tryz.func59, Tryz.ntmps59
  cases r0 with
  | false =>
    go_wp2_with fail
    refine (H2.out _ K0.out.mi).mono ?_
    rintro e v1 ⟨rfl, hb⟩
    have K1 := Lib.hid (K0.out.call hb)
    clear hb H2 K0
    have m1_1 : v1.cell? ⟨w.heap.size, 1, none⟩ = some (.string (ofL x.path)) := K1.out.box.cell 1
    have m1_2 : v1.cell? ⟨w.heap.size, 2, none⟩ = some (.string (ofL x.method)) := K1.out.box.cell 2
    have m1_3 : v1.cell? ⟨w.heap.size, 3, none⟩ = some (.string (ofL x.field)) := K1.out.box.cell 3
    have m1_4 : v1.cell? ⟨w.heap.size, 4, none⟩ = some (.string (ofL x.value)) := K1.out.box.cell 4
    cases r2 with
    | false =>
      go_wp2_with fail
      go_ret
      exact ⟨ret_bool (by rw [HV.out]; simp), K1.out.below⟩
    | true =>
      cases r3 with
      | false =>
        go_wp2_with fail
        refine (H4.out _).mono ?_
        rintro e v2 ⟨rfl, rfl⟩
        clear H4
        cases r4 with
        | false =>
          go_wp2_with fail
          go_ret
          exact ⟨ret_bool (by rw [HV.out]; simp), K1.out.below⟩
        | true =>
          cases r5 with
          | false =>
            go_wp2_with fail
            refine (H7.out _).mono ?_
            rintro e v3 ⟨rfl, rfl⟩
            clear H7
            cases r7 with
            | false =>
              go_wp2_with fail
              go_ret
              exact ⟨ret_bool (by rw [HV.out]; simp), K1.out.below⟩
            | true =>
              go_wp2_with fail
              refine (H8.out _).mono ?_
              rintro e v4 ⟨rfl, hb⟩
              have K4 := Lib.hid (K1.out.call hb)
              clear m1_1 m1_2 m1_3 m1_4
              clear hb H8 K1
              have m4_1 : v4.cell? ⟨w.heap.size, 1, none⟩ = some (.string (ofL x.path)) := K4.out.box.cell 1
              have m4_2 : v4.cell? ⟨w.heap.size, 2, none⟩ = some (.string (ofL x.method)) := K4.out.box.cell 2
              have m4_3 : v4.cell? ⟨w.heap.size, 3, none⟩ = some (.string (ofL x.field)) := K4.out.box.cell 3
              have m4_4 : v4.cell? ⟨w.heap.size, 4, none⟩ = some (.string (ofL x.value)) := K4.out.box.cell 4
              cases r8 with
              | false =>
                go_wp2_with fail
                go_ret
                exact ⟨ret_bool (by rw [HV.out]; simp), K4.out.below⟩
              | true =>
                go_wp2_with fail
                go_ret
                exact ⟨ret_bool (by rw [HV.out]; simp), K4.out.below⟩
          | true =>
            cases r6 with
            | false =>
              go_wp2_with fail
              go_ret
              exact ⟨ret_bool (by rw [HV.out]; simp), K1.out.below⟩
            | true =>
              go_wp2_with fail
              go_ret
              exact ⟨ret_bool (by rw [HV.out]; simp), K1.out.below⟩
      | true =>
        cases r5 with
        | false =>
          go_wp2_with fail
          refine (H7.out _).mono ?_
          rintro e v5 ⟨rfl, rfl⟩
          clear H7
          cases r7 with
          | false =>
            go_wp2_with fail
            go_ret
            exact ⟨ret_bool (by rw [HV.out]; simp), K1.out.below⟩
          | true =>
            go_wp2_with fail
            refine (H8.out _).mono ?_
            rintro e v6 ⟨rfl, hb⟩
            have K6 := Lib.hid (K1.out.call hb)
            clear m1_1 m1_2 m1_3 m1_4
            clear hb H8 K1
            have m6_1 : v6.cell? ⟨w.heap.size, 1, none⟩ = some (.string (ofL x.path)) := K6.out.box.cell 1
            have m6_2 : v6.cell? ⟨w.heap.size, 2, none⟩ = some (.string (ofL x.method)) := K6.out.box.cell 2
            have m6_3 : v6.cell? ⟨w.heap.size, 3, none⟩ = some (.string (ofL x.field)) := K6.out.box.cell 3
            have m6_4 : v6.cell? ⟨w.heap.size, 4, none⟩ = some (.string (ofL x.value)) := K6.out.box.cell 4
            cases r8 with
            | false =>
              go_wp2_with fail
              go_ret
              exact ⟨ret_bool (by rw [HV.out]; simp), K6.out.below⟩
            | true =>
              go_wp2_with fail
              go_ret
              exact ⟨ret_bool (by rw [HV.out]; simp), K6.out.below⟩
        | true =>
          cases r6 with
          | false =>
            go_wp2_with fail
            go_ret
            exact ⟨ret_bool (by rw [HV.out]; simp), K1.out.below⟩
          | true =>
            go_wp2_with fail
            go_ret
            exact ⟨ret_bool (by rw [HV.out]; simp), K1.out.below⟩
  | true =>
    cases r1 with
    | false =>
      go_wp2_with fail
      refine (H2.out _ K0.out.mi).mono ?_
      rintro e v7 ⟨rfl, hb⟩
      have K7 := Lib.hid (K0.out.call hb)
      clear hb H2 K0
      have m7_1 : v7.cell? ⟨w.heap.size, 1, none⟩ = some (.string (ofL x.path)) := K7.out.box.cell 1
      have m7_2 : v7.cell? ⟨w.heap.size, 2, none⟩ = some (.string (ofL x.method)) := K7.out.box.cell 2
      have m7_3 : v7.cell? ⟨w.heap.size, 3, none⟩ = some (.string (ofL x.field)) := K7.out.box.cell 3
      have m7_4 : v7.cell? ⟨w.heap.size, 4, none⟩ = some (.string (ofL x.value)) := K7.out.box.cell 4
      cases r2 with
      | false =>
        go_wp2_with fail
        go_ret
        exact ⟨ret_bool (by rw [HV.out]; simp), K7.out.below⟩
      | true =>
        cases r3 with
        | false =>
          go_wp2_with fail
          refine (H4.out _).mono ?_
          rintro e v8 ⟨rfl, rfl⟩
          clear H4
          cases r4 with
          | false =>
            go_wp2_with fail
            go_ret
            exact ⟨ret_bool (by rw [HV.out]; simp), K7.out.below⟩
          | true =>
            cases r5 with
            | false =>
              go_wp2_with fail
              refine (H7.out _).mono ?_
              rintro e v9 ⟨rfl, rfl⟩
              clear H7
              cases r7 with
              | false =>
                go_wp2_with fail
                go_ret
                exact ⟨ret_bool (by rw [HV.out]; simp), K7.out.below⟩
              | true =>
                go_wp2_with fail
                refine (H8.out _).mono ?_
                rintro e v10 ⟨rfl, hb⟩
                have K10 := Lib.hid (K7.out.call hb)
                clear m7_1 m7_2 m7_3 m7_4
                clear hb H8 K7
                have m10_1 : v10.cell? ⟨w.heap.size, 1, none⟩ = some (.string (ofL x.path)) := K10.out.box.cell 1
                have m10_2 : v10.cell? ⟨w.heap.size, 2, none⟩ = some (.string (ofL x.method)) := K10.out.box.cell 2
                have m10_3 : v10.cell? ⟨w.heap.size, 3, none⟩ = some (.string (ofL x.field)) := K10.out.box.cell 3
                have m10_4 : v10.cell? ⟨w.heap.size, 4, none⟩ = some (.string (ofL x.value)) := K10.out.box.cell 4
                cases r8 with
                | false =>
                  go_wp2_with fail
                  go_ret
                  exact ⟨ret_bool (by rw [HV.out]; simp), K10.out.below⟩
                | true =>
                  go_wp2_with fail
                  go_ret
                  exact ⟨ret_bool (by rw [HV.out]; simp), K10.out.below⟩
            | true =>
              cases r6 with
              | false =>
                go_wp2_with fail
                go_ret
                exact ⟨ret_bool (by rw [HV.out]; simp), K7.out.below⟩
              | true =>
                go_wp2_with fail
                go_ret
                exact ⟨ret_bool (by rw [HV.out]; simp), K7.out.below⟩
        | true =>
          cases r5 with
          | false =>
            go_wp2_with fail
            refine (H7.out _).mono ?_
            rintro e v11 ⟨rfl, rfl⟩
            clear H7
            cases r7 with
            | false =>
              go_wp2_with fail
              go_ret
              exact ⟨ret_bool (by rw [HV.out]; simp), K7.out.below⟩
            | true =>
              go_wp2_with fail
              refine (H8.out _).mono ?_
              rintro e v12 ⟨rfl, hb⟩
              have K12 := Lib.hid (K7.out.call hb)
              clear m7_1 m7_2 m7_3 m7_4
              clear hb H8 K7
              have m12_1 : v12.cell? ⟨w.heap.size, 1, none⟩ = some (.string (ofL x.path)) := K12.out.box.cell 1
              have m12_2 : v12.cell? ⟨w.heap.size, 2, none⟩ = some (.string (ofL x.method)) := K12.out.box.cell 2
              have m12_3 : v12.cell? ⟨w.heap.size, 3, none⟩ = some (.string (ofL x.field)) := K12.out.box.cell 3
              have m12_4 : v12.cell? ⟨w.heap.size, 4, none⟩ = some (.string (ofL x.value)) := K12.out.box.cell 4
              cases r8 with
              | false =>
                go_wp2_with fail
                go_ret
                exact ⟨ret_bool (by rw [HV.out]; simp), K12.out.below⟩
              | true =>
                go_wp2_with fail
                go_ret
                exact ⟨ret_bool (by rw [HV.out]; simp), K12.out.below⟩
          | true =>
            cases r6 with
            | false =>
              go_wp2_with fail
              go_ret
              exact ⟨ret_bool (by rw [HV.out]; simp), K7.out.below⟩
            | true =>
              go_wp2_with fail
              go_ret
              exact ⟨ret_bool (by rw [HV.out]; simp), K7.out.below⟩
    | true =>
      cases r3 with
      | false =>
        go_wp2_with fail
        refine (H4.out _).mono ?_
        rintro e v13 ⟨rfl, rfl⟩
        clear H4
        cases r4 with
        | false =>
          go_wp2_with fail
          go_ret
          exact ⟨ret_bool (by rw [HV.out]; simp), K0.out.below⟩
        | true =>
          cases r5 with
          | false =>
            go_wp2_with fail
            refine (H7.out _).mono ?_
            rintro e v14 ⟨rfl, rfl⟩
            clear H7
            cases r7 with
            | false =>
              go_wp2_with fail
              go_ret
              exact ⟨ret_bool (by rw [HV.out]; simp), K0.out.below⟩
            | true =>
              go_wp2_with fail
              refine (H8.out _).mono ?_
              rintro e v15 ⟨rfl, hb⟩
              have K15 := Lib.hid (K0.out.call hb)
              clear hb H8 K0
              have m15_1 : v15.cell? ⟨w.heap.size, 1, none⟩ = some (.string (ofL x.path)) := K15.out.box.cell 1
              have m15_2 : v15.cell? ⟨w.heap.size, 2, none⟩ = some (.string (ofL x.method)) := K15.out.box.cell 2
              have m15_3 : v15.cell? ⟨w.heap.size, 3, none⟩ = some (.string (ofL x.field)) := K15.out.box.cell 3
              have m15_4 : v15.cell? ⟨w.heap.size, 4, none⟩ = some (.string (ofL x.value)) := K15.out.box.cell 4
              cases r8 with
              | false =>
                go_wp2_with fail
                go_ret
                exact ⟨ret_bool (by rw [HV.out]; simp), K15.out.below⟩
              | true =>
                go_wp2_with fail
                go_ret
                exact ⟨ret_bool (by rw [HV.out]; simp), K15.out.below⟩
          | true =>
            cases r6 with
            | false =>
              go_wp2_with fail
              go_ret
              exact ⟨ret_bool (by rw [HV.out]; simp), K0.out.below⟩
            | true =>
              go_wp2_with fail
              go_ret
              exact ⟨ret_bool (by rw [HV.out]; simp), K0.out.below⟩
      | true =>
        cases r5 with
        | false =>
          go_wp2_with fail
          refine (H7.out _).mono ?_
          rintro e v16 ⟨rfl, rfl⟩
          clear H7
          cases r7 with
          | false =>
            go_wp2_with fail
            go_ret
            exact ⟨ret_bool (by rw [HV.out]; simp), K0.out.below⟩
          | true =>
            go_wp2_with fail
            refine (H8.out _).mono ?_
            rintro e v17 ⟨rfl, hb⟩
            have K17 := Lib.hid (K0.out.call hb)
            clear hb H8 K0
            have m17_1 : v17.cell? ⟨w.heap.size, 1, none⟩ = some (.string (ofL x.path)) := K17.out.box.cell 1
            have m17_2 : v17.cell? ⟨w.heap.size, 2, none⟩ = some (.string (ofL x.method)) := K17.out.box.cell 2
            have m17_3 : v17.cell? ⟨w.heap.size, 3, none⟩ = some (.string (ofL x.field)) := K17.out.box.cell 3
            have m17_4 : v17.cell? ⟨w.heap.size, 4, none⟩ = some (.string (ofL x.value)) := K17.out.box.cell 4
            cases r8 with
            | false =>
              go_wp2_with fail
              go_ret
              exact ⟨ret_bool (by rw [HV.out]; simp), K17.out.below⟩
            | true =>
              go_wp2_with fail
              go_ret
              exact ⟨ret_bool (by rw [HV.out]; simp), K17.out.below⟩
        | true =>
          cases r6 with
          | false =>
            go_wp2_with fail
            go_ret
            exact ⟨ret_bool (by rw [HV.out]; simp), K0.out.below⟩
          | true =>
            go_wp2_with fail
            go_ret
            exact ⟨ret_bool (by rw [HV.out]; simp), K0.out.below⟩
set_option maxHeartbeats 6400000 in
theorem pforward_any (x : Rout) (hx : FitRout x) (G : List Clus) (v : Value) (hG : G.length ≤ 1048576) (w : World) (hm : MaxInt w) (hp : PCfgLib.Pow w) (hC : Cluss w v G) :
    Calls Tryz.prog 94 #[.agg #[.bool x.pre, .string (ofL x.path), .string (ofL x.method), .string (ofL x.field), .string (ofL x.value), .int .i64 x.action, .string (ofL x.cluster), .int .i64 x.status, .string (ofL x.text), .string (ofL x.rewrite), .int .i64 x.retries, .int .i64 x.timeout, .bool x.upgrade], v] w fun e w' => e = .returned (.bool (fwdB x G)) ∧ Below w.heap.size w w' := by
  obtain ⟨r5, hr5⟩ : ∃ r5, r5 = (x.method == CONNECT) := ⟨_, rfl⟩
  have yr5a : ((ofL x.method).toList == [67, 79, 78, 78, 69, 67, 84]) = r5 := by rw [hr5, ByteArray.toList_eq]; show (toL (ofL x.method) == [67, 79, 78, 78, 69, 67, 84]) = _; rw [toL_ofL]; rfl
  have yr5b : ((ofL x.method).toList != [67, 79, 78, 78, 69, 67, 84]) = !r5 := by rw [← yr5a]; rfl
  obtain ⟨r6, hr6⟩ : ∃ r6, r6 = (x.rewrite == []) := ⟨_, rfl⟩
  have yr6a : ((ofL x.rewrite).toList == []) = r6 := by rw [hr6, ByteArray.toList_eq]; show (toL (ofL x.rewrite) == []) = _; rw [toL_ofL]
  have yr6b : ((ofL x.rewrite).toList != []) = !r6 := by rw [← yr6a]; rfl
  have yr6c : (ofL x.rewrite).toList.isEmpty = r6 := by rw [← yr6a]; cases (ofL x.rewrite).toList <;> rfl
  obtain ⟨r7, hr7⟩ : ∃ r7, r7 = (x.retries == 0) := ⟨_, rfl⟩
  have yr7b : (x.retries != 0) = !r7 := by rw [hr7]; rfl
  have yr7a : (x.retries == 0) = r7 := hr7.symm
  obtain ⟨r0, hr0⟩ : ∃ r0, r0 = G.any (fun c => c.name == x.cluster) := ⟨_, rfl⟩
  obtain ⟨r1, hr1⟩ : ∃ r1, r1 = (x.status == 0) := ⟨_, rfl⟩
  have yr1b : (x.status != 0) = !r1 := by rw [hr1]; rfl
  have yr1a : (x.status == 0) = r1 := hr1.symm
  obtain ⟨r2, hr2⟩ : ∃ r2, r2 = (x.text == []) := ⟨_, rfl⟩
  have yr2a : ((ofL x.text).toList == []) = r2 := by rw [hr2, ByteArray.toList_eq]; show (toL (ofL x.text) == []) = _; rw [toL_ofL]
  have yr2b : ((ofL x.text).toList != []) = !r2 := by rw [← yr2a]; rfl
  have yr2c : (ofL x.text).toList.isEmpty = r2 := by rw [← yr2a]; cases (ofL x.text).toList <;> rfl
  obtain ⟨r9, hr9⟩ : ∃ r9, r9 = normalB x.rewrite := ⟨_, rfl⟩
  obtain ⟨r3, hr3⟩ : ∃ r3, r3 = inB x.retries 0 5 := ⟨_, rfl⟩
  obtain ⟨r4, hr4⟩ : ∃ r4, r4 = inB x.timeout 1 1048576 := ⟨_, rfl⟩
  have HV : Hid (fwdB x G = (!(r5 && (!r6 || !r7 || x.upgrade)) && (r0 && r1 && r2 && (r6 || r9) && r3 && r4))) := Lib.hid (by unfold fwdB; rw [hr0, hr1, hr2, hr3, hr4, hr5, hr6, hr7, hr9])
  have H0 := Lib.hid (fun w h => pstandsC_any x.cluster v G (by omega) w h)
  rw [← hr0] at H0
  have H9 := Lib.hid (fun w h => pnorm_any (ofL x.rewrite) (by rw [ofL_size]; exact hx.rewrite) w h)
  rw [toL_ofL, ← hr9] at H9
  have H3 := Lib.hid (fun w => pwithin_any x.retries 0 5 w)
  rw [← hr3] at H3
  have H4 := Lib.hid (fun w => pwithin_any x.timeout 1 1048576 w)
  rw [← hr4] at H4
  obtain ⟨up, hup⟩ : ∃ up, up = x.upgrade := ⟨_, rfl⟩
  rw [← hup] at HV ⊢
  have K0 := Lib.hid (Rx.start (cs := #[.bool x.pre, .string (ofL x.path), .string (ofL x.method), .string (ofL x.field), .string (ofL x.value), .int .i64 x.action, .string (ofL x.cluster), .int .i64 x.status, .string (ofL x.text), .string (ofL x.rewrite), .int .i64 x.retries, .int .i64 x.timeout, .bool up]) hC hm hp)
  clear hr0 hr1 hr2 hr3 hr4 hr5 hr6 hr7 hr9 hm hp hx hC hup hG
  go_enter Tryz.func94, Tryz.ntmps94
  cases r5 with
  | false =>
    go_wp2_with fail
    refine (H0.out _ K0.out.cl).mono ?_
    rintro e v1 ⟨rfl, hb⟩
    have K1 := Lib.hid (K0.out.call hb)
    clear hb H0 K0
    have m1_6 : v1.cell? ⟨w.heap.size, 6, none⟩ = some (.string (ofL x.cluster)) := K1.out.box.cell 6
    have m1_7 : v1.cell? ⟨w.heap.size, 7, none⟩ = some (.int .i64 x.status) := K1.out.box.cell 7
    have m1_8 : v1.cell? ⟨w.heap.size, 8, none⟩ = some (.string (ofL x.text)) := K1.out.box.cell 8
    have m1_9 : v1.cell? ⟨w.heap.size, 9, none⟩ = some (.string (ofL x.rewrite)) := K1.out.box.cell 9
    have m1_10 : v1.cell? ⟨w.heap.size, 10, none⟩ = some (.int .i64 x.retries) := K1.out.box.cell 10
    have m1_11 : v1.cell? ⟨w.heap.size, 11, none⟩ = some (.int .i64 x.timeout) := K1.out.box.cell 11
    cases r0 with
    | false =>
      go_wp2_with fail
      go_ret
      exact ⟨ret_bool (by rw [HV.out]; simp), K1.out.below⟩
    | true =>
      cases r1 with
      | false =>
        go_wp2_with fail
        go_ret
        exact ⟨ret_bool (by rw [HV.out]; simp), K1.out.below⟩
      | true =>
        cases r2 with
        | false =>
          go_wp2_with fail
          go_ret
          exact ⟨ret_bool (by rw [HV.out]; simp), K1.out.below⟩
        | true =>
          cases r6 with
          | false =>
            go_wp2_with fail
            refine (H9.out _ K1.out.mi).mono ?_
            rintro e v2 ⟨rfl, hb⟩
            have K2 := Lib.hid (K1.out.call hb)
            clear m1_6 m1_7 m1_8 m1_9 m1_10 m1_11
            clear hb H9 K1
            have m2_6 : v2.cell? ⟨w.heap.size, 6, none⟩ = some (.string (ofL x.cluster)) := K2.out.box.cell 6
            have m2_7 : v2.cell? ⟨w.heap.size, 7, none⟩ = some (.int .i64 x.status) := K2.out.box.cell 7
            have m2_8 : v2.cell? ⟨w.heap.size, 8, none⟩ = some (.string (ofL x.text)) := K2.out.box.cell 8
            have m2_9 : v2.cell? ⟨w.heap.size, 9, none⟩ = some (.string (ofL x.rewrite)) := K2.out.box.cell 9
            have m2_10 : v2.cell? ⟨w.heap.size, 10, none⟩ = some (.int .i64 x.retries) := K2.out.box.cell 10
            have m2_11 : v2.cell? ⟨w.heap.size, 11, none⟩ = some (.int .i64 x.timeout) := K2.out.box.cell 11
            cases r9 with
            | false =>
              go_wp2_with fail
              go_ret
              exact ⟨ret_bool (by rw [HV.out]; simp), K2.out.below⟩
            | true =>
              go_wp2_with fail
              refine (H3.out _).mono ?_
              rintro e v3 ⟨rfl, rfl⟩
              clear H3
              cases r3 with
              | false =>
                go_wp2_with fail
                go_ret
                exact ⟨ret_bool (by rw [HV.out]; simp), K2.out.below⟩
              | true =>
                go_wp2_with fail
                refine (H4.out _).mono ?_
                rintro e v4 ⟨rfl, rfl⟩
                clear H4
                cases r4 with
                | false =>
                  go_wp2_with fail
                  go_ret
                  exact ⟨ret_bool (by rw [HV.out]; simp), K2.out.below⟩
                | true =>
                  go_wp2_with fail
                  go_ret
                  exact ⟨ret_bool (by rw [HV.out]; simp), K2.out.below⟩
          | true =>
            go_wp2_with fail
            refine (H3.out _).mono ?_
            rintro e v5 ⟨rfl, rfl⟩
            clear H3
            cases r3 with
            | false =>
              go_wp2_with fail
              go_ret
              exact ⟨ret_bool (by rw [HV.out]; simp), K1.out.below⟩
            | true =>
              go_wp2_with fail
              refine (H4.out _).mono ?_
              rintro e v6 ⟨rfl, rfl⟩
              clear H4
              cases r4 with
              | false =>
                go_wp2_with fail
                go_ret
                exact ⟨ret_bool (by rw [HV.out]; simp), K1.out.below⟩
              | true =>
                go_wp2_with fail
                go_ret
                exact ⟨ret_bool (by rw [HV.out]; simp), K1.out.below⟩
  | true =>
    cases r6 with
    | false =>
      go_wp2_with fail
      go_ret
      exact ⟨ret_bool (by rw [HV.out]; simp), K0.out.below⟩
    | true =>
      cases r7 with
      | false =>
        go_wp2_with fail
        go_ret
        exact ⟨ret_bool (by rw [HV.out]; simp), K0.out.below⟩
      | true =>
        cases up with
        | false =>
          go_wp2_with fail
          refine (H0.out _ K0.out.cl).mono ?_
          rintro e v7 ⟨rfl, hb⟩
          have K7 := Lib.hid (K0.out.call hb)
          clear hb H0 K0
          have m7_6 : v7.cell? ⟨w.heap.size, 6, none⟩ = some (.string (ofL x.cluster)) := K7.out.box.cell 6
          have m7_7 : v7.cell? ⟨w.heap.size, 7, none⟩ = some (.int .i64 x.status) := K7.out.box.cell 7
          have m7_8 : v7.cell? ⟨w.heap.size, 8, none⟩ = some (.string (ofL x.text)) := K7.out.box.cell 8
          have m7_9 : v7.cell? ⟨w.heap.size, 9, none⟩ = some (.string (ofL x.rewrite)) := K7.out.box.cell 9
          have m7_10 : v7.cell? ⟨w.heap.size, 10, none⟩ = some (.int .i64 x.retries) := K7.out.box.cell 10
          have m7_11 : v7.cell? ⟨w.heap.size, 11, none⟩ = some (.int .i64 x.timeout) := K7.out.box.cell 11
          cases r0 with
          | false =>
            go_wp2_with fail
            go_ret
            exact ⟨ret_bool (by rw [HV.out]; simp), K7.out.below⟩
          | true =>
            cases r1 with
            | false =>
              go_wp2_with fail
              go_ret
              exact ⟨ret_bool (by rw [HV.out]; simp), K7.out.below⟩
            | true =>
              cases r2 with
              | false =>
                go_wp2_with fail
                go_ret
                exact ⟨ret_bool (by rw [HV.out]; simp), K7.out.below⟩
              | true =>
                go_wp2_with fail
                refine (H3.out _).mono ?_
                rintro e v8 ⟨rfl, rfl⟩
                clear H3
                cases r3 with
                | false =>
                  go_wp2_with fail
                  go_ret
                  exact ⟨ret_bool (by rw [HV.out]; simp), K7.out.below⟩
                | true =>
                  go_wp2_with fail
                  refine (H4.out _).mono ?_
                  rintro e v9 ⟨rfl, rfl⟩
                  clear H4
                  cases r4 with
                  | false =>
                    go_wp2_with fail
                    go_ret
                    exact ⟨ret_bool (by rw [HV.out]; simp), K7.out.below⟩
                  | true =>
                    go_wp2_with fail
                    go_ret
                    exact ⟨ret_bool (by rw [HV.out]; simp), K7.out.below⟩
        | true =>
          go_wp2_with fail
          go_ret
          exact ⟨ret_bool (by rw [HV.out]; simp), K0.out.below⟩
set_option maxHeartbeats 6400000 in
theorem paction_any (x : Rout) (hx : FitRout x) (G : List Clus) (v : Value) (hG : G.length ≤ 1048576) (w : World) (hm : MaxInt w) (hp : PCfgLib.Pow w) (hC : Cluss w v G) :
    Calls Tryz.prog 60 #[.agg #[.bool x.pre, .string (ofL x.path), .string (ofL x.method), .string (ofL x.field), .string (ofL x.value), .int .i64 x.action, .string (ofL x.cluster), .int .i64 x.status, .string (ofL x.text), .string (ofL x.rewrite), .int .i64 x.retries, .int .i64 x.timeout, .bool x.upgrade], v] w fun e w' => e = .returned (.bool (actB x G)) ∧ Below w.heap.size w w' := by
  obtain ⟨a1, ha1⟩ : ∃ a1, a1 = (x.action == 1) := ⟨_, rfl⟩
  have ya1b : (x.action != 1) = !a1 := by rw [ha1]; rfl
  have ya1a : (x.action == 1) = a1 := ha1.symm
  obtain ⟨a2, ha2⟩ : ∃ a2, a2 = (x.action == 2) := ⟨_, rfl⟩
  have ya2b : (x.action != 2) = !a2 := by rw [ha2]; rfl
  have ya2a : (x.action == 2) = a2 := ha2.symm
  obtain ⟨a3, ha3⟩ : ∃ a3, a3 = (x.action == 3) := ⟨_, rfl⟩
  have ya3b : (x.action != 3) = !a3 := by rw [ha3]; rfl
  have ya3a : (x.action == 3) = a3 := ha3.symm
  obtain ⟨rF, hrF⟩ : ∃ rF, rF = fwdB x G := ⟨_, rfl⟩
  obtain ⟨rN, hrN⟩ : ∃ rN, rN = nowB x := ⟨_, rfl⟩
  obtain ⟨rR, hrR⟩ : ∃ rR, rR = (x.status == 301 || x.status == 302 || x.status == 307 || x.status == 308) := ⟨_, rfl⟩
  obtain ⟨rT, hrT⟩ : ∃ rT, rT = (x.text != [] && textB x.text) := ⟨_, rfl⟩
  obtain ⟨rD, hrD⟩ : ∃ rD, rD = dirB x.status x.method := ⟨_, rfl⟩
  obtain ⟨rX, hrX⟩ : ∃ rX, rX = textB x.text := ⟨_, rfl⟩
  have HV : Hid (actB x G = cond a1 rF (cond a2 (rN && rR && rT) (cond a3 (rN && rD && rX) false))) := Lib.hid (by unfold actB; rw [ha1, ha2, ha3, hrF, hrN, hrR, hrT, hrD, hrX])
  have HF := Lib.hid (fun w h1 h2 h3 => pforward_any x hx G v hG w h1 h2 h3)
  rw [← hrF] at HF
  have HN := Lib.hid (fun w => pnow_any x w)
  rw [← hrN] at HN
  have HR := Lib.hid (fun w => predir_any x.status w)
  rw [← hrR] at HR
  have HT := Lib.hid (fun w => pfull_any (ofL x.text) (by rw [ofL_size]; exact hx.text) w)
  rw [toL_ofL, ← hrT] at HT
  have HD := Lib.hid (fun w => pdirect_any x.status (ofL x.method) w)
  rw [toL_ofL] at HD
  unfold dirB at hrD
  rw [← hrD] at HD
  have HX := Lib.hid (fun w => ptext_any (ofL x.text) (by rw [ofL_size]; exact hx.text) w)
  rw [toL_ofL, ← hrX] at HX
  have K0 := Lib.hid (Rx.start (cs := #[.bool x.pre, .string (ofL x.path), .string (ofL x.method), .string (ofL x.field), .string (ofL x.value), .int .i64 x.action, .string (ofL x.cluster), .int .i64 x.status, .string (ofL x.text), .string (ofL x.rewrite), .int .i64 x.retries, .int .i64 x.timeout, .bool x.upgrade]) hC hm hp)
  clear ha1 ha2 ha3 hrF hrN hrR hrT hrD hrX hm hp hx hC hG
  go_enter Tryz.func60, Tryz.ntmps60
  cases a1 with
  | false =>
    cases a2 with
    | false =>
      cases a3 with
      | false =>
        go_wp2_with fail
        go_ret
        exact ⟨ret_bool (by rw [HV.out]; simp), K0.out.below⟩
      | true =>
        go_wp2_with fail
        refine (HN.out _).mono ?_
        rintro e v1 ⟨rfl, hb⟩
        have K1 := Lib.hid (K0.out.call hb)
        clear hb HN K0
        have m1_0 : v1.cell? ⟨w.heap.size, 0, none⟩ = some (.bool x.pre) := K1.out.box.cell 0
        have m1_1 : v1.cell? ⟨w.heap.size, 1, none⟩ = some (.string (ofL x.path)) := K1.out.box.cell 1
        have m1_2 : v1.cell? ⟨w.heap.size, 2, none⟩ = some (.string (ofL x.method)) := K1.out.box.cell 2
        have m1_3 : v1.cell? ⟨w.heap.size, 3, none⟩ = some (.string (ofL x.field)) := K1.out.box.cell 3
        have m1_4 : v1.cell? ⟨w.heap.size, 4, none⟩ = some (.string (ofL x.value)) := K1.out.box.cell 4
        have m1_5 : v1.cell? ⟨w.heap.size, 5, none⟩ = some (.int .i64 x.action) := K1.out.box.cell 5
        have m1_6 : v1.cell? ⟨w.heap.size, 6, none⟩ = some (.string (ofL x.cluster)) := K1.out.box.cell 6
        have m1_7 : v1.cell? ⟨w.heap.size, 7, none⟩ = some (.int .i64 x.status) := K1.out.box.cell 7
        have m1_8 : v1.cell? ⟨w.heap.size, 8, none⟩ = some (.string (ofL x.text)) := K1.out.box.cell 8
        have m1_9 : v1.cell? ⟨w.heap.size, 9, none⟩ = some (.string (ofL x.rewrite)) := K1.out.box.cell 9
        have m1_10 : v1.cell? ⟨w.heap.size, 10, none⟩ = some (.int .i64 x.retries) := K1.out.box.cell 10
        have m1_11 : v1.cell? ⟨w.heap.size, 11, none⟩ = some (.int .i64 x.timeout) := K1.out.box.cell 11
        have m1_12 : v1.cell? ⟨w.heap.size, 12, none⟩ = some (.bool x.upgrade) := K1.out.box.cell 12
        cases rN with
        | false =>
          go_wp2_with fail
          go_ret
          exact ⟨ret_bool (by rw [HV.out]; simp), K1.out.below⟩
        | true =>
          go_wp2_with fail
          refine (HD.out _).mono ?_
          rintro e v2 ⟨rfl, rfl⟩
          clear HD
          cases rD with
          | false =>
            go_wp2_with fail
            go_ret
            exact ⟨ret_bool (by rw [HV.out]; simp), K1.out.below⟩
          | true =>
            go_wp2_with fail
            refine (HX.out _).mono ?_
            rintro e v3 ⟨rfl, hb⟩
            have K3 := Lib.hid (K1.out.call hb)
            clear m1_0 m1_1 m1_2 m1_3 m1_4 m1_5 m1_6 m1_7 m1_8 m1_9 m1_10 m1_11 m1_12
            clear hb HX K1
            have m3_0 : v3.cell? ⟨w.heap.size, 0, none⟩ = some (.bool x.pre) := K3.out.box.cell 0
            have m3_1 : v3.cell? ⟨w.heap.size, 1, none⟩ = some (.string (ofL x.path)) := K3.out.box.cell 1
            have m3_2 : v3.cell? ⟨w.heap.size, 2, none⟩ = some (.string (ofL x.method)) := K3.out.box.cell 2
            have m3_3 : v3.cell? ⟨w.heap.size, 3, none⟩ = some (.string (ofL x.field)) := K3.out.box.cell 3
            have m3_4 : v3.cell? ⟨w.heap.size, 4, none⟩ = some (.string (ofL x.value)) := K3.out.box.cell 4
            have m3_5 : v3.cell? ⟨w.heap.size, 5, none⟩ = some (.int .i64 x.action) := K3.out.box.cell 5
            have m3_6 : v3.cell? ⟨w.heap.size, 6, none⟩ = some (.string (ofL x.cluster)) := K3.out.box.cell 6
            have m3_7 : v3.cell? ⟨w.heap.size, 7, none⟩ = some (.int .i64 x.status) := K3.out.box.cell 7
            have m3_8 : v3.cell? ⟨w.heap.size, 8, none⟩ = some (.string (ofL x.text)) := K3.out.box.cell 8
            have m3_9 : v3.cell? ⟨w.heap.size, 9, none⟩ = some (.string (ofL x.rewrite)) := K3.out.box.cell 9
            have m3_10 : v3.cell? ⟨w.heap.size, 10, none⟩ = some (.int .i64 x.retries) := K3.out.box.cell 10
            have m3_11 : v3.cell? ⟨w.heap.size, 11, none⟩ = some (.int .i64 x.timeout) := K3.out.box.cell 11
            have m3_12 : v3.cell? ⟨w.heap.size, 12, none⟩ = some (.bool x.upgrade) := K3.out.box.cell 12
            cases rX with
            | false =>
              go_wp2_with fail
              go_ret
              exact ⟨ret_bool (by rw [HV.out]; simp), K3.out.below⟩
            | true =>
              go_wp2_with fail
              go_ret
              exact ⟨ret_bool (by rw [HV.out]; simp), K3.out.below⟩
    | true =>
      go_wp2_with fail
      refine (HN.out _).mono ?_
      rintro e v4 ⟨rfl, hb⟩
      have K4 := Lib.hid (K0.out.call hb)
      clear hb HN K0
      have m4_0 : v4.cell? ⟨w.heap.size, 0, none⟩ = some (.bool x.pre) := K4.out.box.cell 0
      have m4_1 : v4.cell? ⟨w.heap.size, 1, none⟩ = some (.string (ofL x.path)) := K4.out.box.cell 1
      have m4_2 : v4.cell? ⟨w.heap.size, 2, none⟩ = some (.string (ofL x.method)) := K4.out.box.cell 2
      have m4_3 : v4.cell? ⟨w.heap.size, 3, none⟩ = some (.string (ofL x.field)) := K4.out.box.cell 3
      have m4_4 : v4.cell? ⟨w.heap.size, 4, none⟩ = some (.string (ofL x.value)) := K4.out.box.cell 4
      have m4_5 : v4.cell? ⟨w.heap.size, 5, none⟩ = some (.int .i64 x.action) := K4.out.box.cell 5
      have m4_6 : v4.cell? ⟨w.heap.size, 6, none⟩ = some (.string (ofL x.cluster)) := K4.out.box.cell 6
      have m4_7 : v4.cell? ⟨w.heap.size, 7, none⟩ = some (.int .i64 x.status) := K4.out.box.cell 7
      have m4_8 : v4.cell? ⟨w.heap.size, 8, none⟩ = some (.string (ofL x.text)) := K4.out.box.cell 8
      have m4_9 : v4.cell? ⟨w.heap.size, 9, none⟩ = some (.string (ofL x.rewrite)) := K4.out.box.cell 9
      have m4_10 : v4.cell? ⟨w.heap.size, 10, none⟩ = some (.int .i64 x.retries) := K4.out.box.cell 10
      have m4_11 : v4.cell? ⟨w.heap.size, 11, none⟩ = some (.int .i64 x.timeout) := K4.out.box.cell 11
      have m4_12 : v4.cell? ⟨w.heap.size, 12, none⟩ = some (.bool x.upgrade) := K4.out.box.cell 12
      cases rN with
      | false =>
        go_wp2_with fail
        go_ret
        exact ⟨ret_bool (by rw [HV.out]; simp), K4.out.below⟩
      | true =>
        go_wp2_with fail
        refine (HR.out _).mono ?_
        rintro e v5 ⟨rfl, rfl⟩
        clear HR
        cases rR with
        | false =>
          go_wp2_with fail
          go_ret
          exact ⟨ret_bool (by rw [HV.out]; simp), K4.out.below⟩
        | true =>
          go_wp2_with fail
          refine (HT.out _).mono ?_
          rintro e v6 ⟨rfl, hb⟩
          have K6 := Lib.hid (K4.out.call hb)
          clear m4_0 m4_1 m4_2 m4_3 m4_4 m4_5 m4_6 m4_7 m4_8 m4_9 m4_10 m4_11 m4_12
          clear hb HT K4
          have m6_0 : v6.cell? ⟨w.heap.size, 0, none⟩ = some (.bool x.pre) := K6.out.box.cell 0
          have m6_1 : v6.cell? ⟨w.heap.size, 1, none⟩ = some (.string (ofL x.path)) := K6.out.box.cell 1
          have m6_2 : v6.cell? ⟨w.heap.size, 2, none⟩ = some (.string (ofL x.method)) := K6.out.box.cell 2
          have m6_3 : v6.cell? ⟨w.heap.size, 3, none⟩ = some (.string (ofL x.field)) := K6.out.box.cell 3
          have m6_4 : v6.cell? ⟨w.heap.size, 4, none⟩ = some (.string (ofL x.value)) := K6.out.box.cell 4
          have m6_5 : v6.cell? ⟨w.heap.size, 5, none⟩ = some (.int .i64 x.action) := K6.out.box.cell 5
          have m6_6 : v6.cell? ⟨w.heap.size, 6, none⟩ = some (.string (ofL x.cluster)) := K6.out.box.cell 6
          have m6_7 : v6.cell? ⟨w.heap.size, 7, none⟩ = some (.int .i64 x.status) := K6.out.box.cell 7
          have m6_8 : v6.cell? ⟨w.heap.size, 8, none⟩ = some (.string (ofL x.text)) := K6.out.box.cell 8
          have m6_9 : v6.cell? ⟨w.heap.size, 9, none⟩ = some (.string (ofL x.rewrite)) := K6.out.box.cell 9
          have m6_10 : v6.cell? ⟨w.heap.size, 10, none⟩ = some (.int .i64 x.retries) := K6.out.box.cell 10
          have m6_11 : v6.cell? ⟨w.heap.size, 11, none⟩ = some (.int .i64 x.timeout) := K6.out.box.cell 11
          have m6_12 : v6.cell? ⟨w.heap.size, 12, none⟩ = some (.bool x.upgrade) := K6.out.box.cell 12
          cases rT with
          | false =>
            go_wp2_with fail
            go_ret
            exact ⟨ret_bool (by rw [HV.out]; simp), K6.out.below⟩
          | true =>
            go_wp2_with fail
            go_ret
            exact ⟨ret_bool (by rw [HV.out]; simp), K6.out.below⟩
  | true =>
    go_wp2_with fail
    refine (HF.out _ K0.out.mi K0.out.pw K0.out.cl).mono ?_
    rintro e v7 ⟨rfl, hb⟩
    have K7 := Lib.hid (K0.out.call hb)
    clear hb HF K0
    have m7_0 : v7.cell? ⟨w.heap.size, 0, none⟩ = some (.bool x.pre) := K7.out.box.cell 0
    have m7_1 : v7.cell? ⟨w.heap.size, 1, none⟩ = some (.string (ofL x.path)) := K7.out.box.cell 1
    have m7_2 : v7.cell? ⟨w.heap.size, 2, none⟩ = some (.string (ofL x.method)) := K7.out.box.cell 2
    have m7_3 : v7.cell? ⟨w.heap.size, 3, none⟩ = some (.string (ofL x.field)) := K7.out.box.cell 3
    have m7_4 : v7.cell? ⟨w.heap.size, 4, none⟩ = some (.string (ofL x.value)) := K7.out.box.cell 4
    have m7_5 : v7.cell? ⟨w.heap.size, 5, none⟩ = some (.int .i64 x.action) := K7.out.box.cell 5
    have m7_6 : v7.cell? ⟨w.heap.size, 6, none⟩ = some (.string (ofL x.cluster)) := K7.out.box.cell 6
    have m7_7 : v7.cell? ⟨w.heap.size, 7, none⟩ = some (.int .i64 x.status) := K7.out.box.cell 7
    have m7_8 : v7.cell? ⟨w.heap.size, 8, none⟩ = some (.string (ofL x.text)) := K7.out.box.cell 8
    have m7_9 : v7.cell? ⟨w.heap.size, 9, none⟩ = some (.string (ofL x.rewrite)) := K7.out.box.cell 9
    have m7_10 : v7.cell? ⟨w.heap.size, 10, none⟩ = some (.int .i64 x.retries) := K7.out.box.cell 10
    have m7_11 : v7.cell? ⟨w.heap.size, 11, none⟩ = some (.int .i64 x.timeout) := K7.out.box.cell 11
    have m7_12 : v7.cell? ⟨w.heap.size, 12, none⟩ = some (.bool x.upgrade) := K7.out.box.cell 12
    cases rF with
    | false =>
      go_wp2_with fail
      go_ret
      exact ⟨ret_bool (by rw [HV.out]; simp), K7.out.below⟩
    | true =>
      go_wp2_with fail
      go_ret
      exact ⟨ret_bool (by rw [HV.out]; simp), K7.out.below⟩
end Go.Proofs.YtfihehobkbfmiaaGreatDoor.PCfgR

/- Layer 14 of the program: checkVhost. -/
namespace Go.Proofs.YtfihehobkbfmiaaGreatDoor.PCfgV
open Go.ChangeShapes Go.WideShapes Go.ChangeAt Go.RowKit Bytes LexPure ConfPure ConfMem ConfAt Ret Mem Texts PCfgLib PCfgBox PCfgT PCfgS PCfgC PCfgR R14Name
set_option maxRecDepth 100000
set_option linter.unusedVariables false
set_option linter.unusedSimpArgs false
abbrev VT : TypeId := 43
/-- the error of one vhost -/
def vhE (cs : List Clus) (ahead : List Vhos) (v : Vhos) : Int :=
  if ahead.any (fun x => x.domain == v.domain) || !domainB v.domain then 142 else if !inB v.routes.length 1 32 || !v.routes.all (fun r => routB r cs) then 144 else 0
theorem vhosE_step (cs : List Clus) (ahead vs : List Vhos) (v : Vhos) : vhosE cs ahead (v :: vs) = if vhE cs ahead v ≠ 0 then vhE cs ahead v else vhosE cs (ahead ++ [v]) vs := by
  conv => lhs; unfold vhosE
  unfold vhE
  by_cases h1 : (ahead.any (fun x => x.domain == v.domain) || !domainB v.domain) = true
  · rw [if_pos h1, if_pos h1, if_pos (by decide)]
  · rw [if_neg h1, if_neg h1]
    by_cases h2 : (!inB v.routes.length 1 32 || !v.routes.all (fun r => routB r cs)) = true
    · rw [if_pos h2, if_pos h2, if_pos (by decide)]
    · rw [if_neg h2, if_neg h2, if_neg (by decide)]
structure Vx (w : World) (g : Nat) (d : L) (h : Value) (rs : List Rout) (va vc : Value) (A : List Vhos) (G : List Clus) (W : World) : Prop where
  box : Has W g VT #[.string (ofL d), h]
  rt : Routs W h rs
  ah : Vhoss W va A
  cl : Cluss W vc G
  mi : MaxInt W
  pw : PCfgLib.Pow W
  below : Below g w W
theorem Vx.call {w W W' : World} {g : Nat} {d : L} {h : Value} {rs : List Rout} {va vc : Value} {A : List Vhos} {G : List Clus} (x : Vx w g d h rs va vc A G W) (hb : Below W.heap.size W W') : Vx w g d h rs va vc A G W' :=
  ⟨x.box.below hb x.box.lt, x.rt.below hb, x.ah.below hb, x.cl.below hb, PUnder.MaxInt.below x.mi hb, x.pw.below hb, ⟨hb.os.trans x.below.os, hb.tape.trans x.below.tape, hb.output.trans x.below.output, Nat.le_trans x.below.size hb.size, fun i hi => (hb.block i (Nat.lt_trans hi x.box.lt)).trans (x.below.block i hi)⟩⟩
theorem Vx.start {w : World} {d : L} {h : Value} {rs : List Rout} {va vc : Value} {A : List Vhos} {G : List Clus} (hR : Routs w h rs) (hA : Vhoss w va A) (hC : Cluss w vc G) (hm : MaxInt w) (hp : PCfgLib.Pow w) : Vx w w.heap.size d h rs va vc A G (w.alloc (.cells #[.string (ofL d), h] VT)) :=
  have ha := (Below.refl w.heap.size w).alloc (Nat.le_refl _) (.cells #[.string (ofL d), h] VT)
  ⟨Has.new w _ _, hR.below ha, hA.below ha, hC.below ha, PUnder.MaxInt.below hm ha, hp.below ha, ha⟩
theorem all_step {α : Type} (G : List α) (q : α → Bool) (k : Nat) (h : k < G.length) : (G.take (k + 1)).all q = ((G.take k).all q && q G[k]) := by
  rw [List.take_succ_eq_append_getElem h, List.all_append]
  simp
theorem all_no {α : Type} {G : List α} {q : α → Bool} {k : Nat} (h : k < G.length) (hq : q G[k] = false) : G.all q = false := by
  rw [List.all_eq_false]
  exact ⟨_, List.getElem_mem h, by rw [hq]; decide⟩
set_option maxHeartbeats 6400000 in
theorem pvhost_any (x : Vhos) (h : Value) (hx : FitVhos x) (A : List Vhos) (va : Value) (hA : A.length ≤ 1048576) (G : List Clus) (vc : Value) (hG : G.length ≤ 1048576) (w : World) (hm : MaxInt w) (hp : PCfgLib.Pow w) (hR : Routs w h x.routes) (hV : Vhoss w va A) (hC : Cluss w vc G) :
    Calls Tryz.prog 23 #[.agg #[.string (ofL x.domain), h], va, vc] w fun e w' => e = .returned (.int .i64 (vhE G A x)) ∧ Below w.heap.size w w' := by
  have K0 := Lib.hid (Vx.start (d := x.domain) hR hV hC hm hp)
  obtain ⟨pr, cr, rfl⟩ : ∃ p cap, h = .slice p x.routes.length cap := by obtain ⟨p, cap, h, _⟩ := hR.parts; exact ⟨p, cap, h⟩
  have H0 := Lib.hid (fun w h => pdomain_any (ofL x.domain) (by rw [ofL_size]; exact hx.domain) w h)
  rw [toL_ofL] at H0
  have H1 := Lib.hid (fun w h => pstandsV_any x.domain va A (by omega) w h)
  have H2 := Lib.hid (fun w => pwithin_any ((x.routes.length : Nat) : Int) 1 32 w)
  have HM := Lib.hid (fun (r : Rout) hr w h1 h2 => pmatch_any r hr w h1 h2)
  have HA := Lib.hid (fun (r : Rout) hr w h1 h2 h3 => paction_any r hr G vc hG w h1 h2 h3)
  have hrl := hx.routes.1
  have HFit := Lib.hid hx.routes.2
  obtain ⟨r0, hr0⟩ : ∃ r, r = domainB x.domain := ⟨_, rfl⟩
  obtain ⟨r1, hr1⟩ : ∃ r, r = A.any (fun y => y.domain == x.domain) := ⟨_, rfl⟩
  obtain ⟨r2, hr2⟩ : ∃ r, r = inB ((x.routes.length : Nat) : Int) 1 32 := ⟨_, rfl⟩
  have HVV : Hid (vhE G A x = if r1 || !r0 then 142 else if !r2 || !x.routes.all (fun r => routB r G) then 144 else 0) := Lib.hid (by unfold vhE; rw [hr0, hr1, hr2])
  rw [← hr0] at H0
  rw [← hr1] at H1
  rw [← hr2] at H2
  clear hr0 hr1 hr2 hm hp hR hV hC hx hA hG
  go_enter Tryz.func23, Tryz.ntmps23
  go_wp2_with fail
  refine (H0.out _ K0.out.mi).mono ?_
  rintro e w1 ⟨rfl, hb⟩
  have K1 := Lib.hid (K0.out.call hb)
  clear hb H0 K0
  have m0 : w1.cell? ⟨w.heap.size, 0, none⟩ = some (.string (ofL x.domain)) := K1.out.box.cell 0
  cases r0 with
  | false =>
    clear HM HA H1 H2
    go_wp2_with fail
    go_ret
    exact ⟨ret_int (by rw [HVV.out]; cases r1 <;> rfl), K1.out.below⟩
  | true =>
  go_wp2_with fail
  refine (H1.out _ K1.out.ah).mono ?_
  rintro e w2 ⟨rfl, hb⟩
  have K2 := Lib.hid (K1.out.call hb)
  clear hb H1 K1 m0
  have m1 : w2.cell? ⟨w.heap.size, 1, none⟩ = some (.slice pr x.routes.length cr) := K2.out.box.cell 1
  cases r1 with
  | true =>
    clear HM HA H2
    go_wp2_with fail
    go_ret
    exact ⟨ret_int (by rw [HVV.out]; rfl), K2.out.below⟩
  | false =>
  go_wp2_with fail
  refine (H2.out _).mono ?_
  rintro e w3 ⟨rfl, rfl⟩
  clear H2
  cases r2 with
  | false =>
    clear HM HA
    go_wp2_with fail
    go_ret
    exact ⟨ret_int (by rw [HVV.out]; rfl), K2.out.below⟩
  | true =>
  have HV2 : Hid (vhE G A x = if !x.routes.all (fun r => routB r G) then 144 else 0) := Lib.hid (by rw [HVV.out]; rfl)
  clear HVV
  go_wp2_with fail
  go_loopw [27] (fun i wr => ∃ k : Nat, k ≤ x.routes.length ∧ i = .int .i64 k ∧ Hid ((x.routes.take k).all (fun r => routB r G) = true ∧ Vx w w.heap.size x.domain (.slice pr x.routes.length cr) x.routes va vc A G wr)) (fun i _ => x.routes.length - (intOf i).toNat)
  case atStart => exact ⟨0, Nat.zero_le _, rfl, Lib.hid ⟨rfl, K2.out⟩⟩
  case round =>
    obtain ⟨k, hk, rfl, HJ⟩ := hrel
    clear K2 m1
    by_cases hlt : k < x.routes.length
    · have hki : (k : Int) < (x.routes.length : Int) := by omega
      have hk0 : (0 : Int) ≤ (k : Int) := by omega
      have HS := Lib.hid (all_step x.routes (fun r => routB r G) k hlt)
      have HNo := Lib.hid (fun h => all_no (q := fun r => routB r G) hlt h)
      obtain ⟨gr, o, rfl, hxc⟩ := routs_at HJ.out.2.rt k hlt
      obtain ⟨r, hr⟩ : ∃ r, r = x.routes[k] := ⟨_, rfl⟩
      obtain ⟨n0, n1, n2, n3, n4, n5, n6, n7, n8, n9, n10, n11, n12⟩ := hxc r hr
      have hfr : FitRout r := by rw [hr]; exact HFit.out _ (List.getElem_mem hlt)
      have HMr := Lib.hid (HM.out r hfr)
      have HAr := Lib.hid (HA.out r hfr)
      rw [← hr] at HS HNo
      rw [routB_prog] at HS HNo
      obtain ⟨b1, hb1⟩ : ∃ b, b = matchB r := ⟨_, rfl⟩
      obtain ⟨b2, hb2⟩ : ∃ b, b = actB r G := ⟨_, rfl⟩
      rw [← hb1] at HMr HS HNo
      rw [← hb2] at HAr HS HNo
      clear hxc hr hfr hb1 hb2
      have hba := (Below.refl wr.heap.size wr).alloc (Nat.le_refl _) (.cells #[.bool r.pre, .string (ofL r.path), .string (ofL r.method), .string (ofL r.field), .string (ofL r.value), .int .i64 r.action, .string (ofL r.cluster), .int .i64 r.status, .string (ofL r.text), .string (ofL r.rewrite), .int .i64 r.retries, .int .i64 r.timeout, .bool r.upgrade] RT)
      have KA := Lib.hid (HJ.out.2.call hba)
      have HN := Lib.hid (Has.new wr RT #[.bool r.pre, .string (ofL r.path), .string (ofL r.method), .string (ofL r.field), .string (ofL r.value), .int .i64 r.action, .string (ofL r.cluster), .int .i64 r.status, .string (ofL r.text), .string (ofL r.rewrite), .int .i64 r.retries, .int .i64 r.timeout, .bool r.upgrade])
      have HH := Lib.hid HJ.out.1
      unfold RT at KA HN
      clear HJ hba
      go_wp2_with fail
      refine (HMr.out _ KA.out.mi KA.out.pw).mono ?_
      rintro e w5 ⟨rfl, hb5⟩
      have K5 := Lib.hid (KA.out.call hb5)
      have HN5 := Lib.hid (HN.out.below hb5 HN.out.lt)
      clear HMr hb5 KA HN n0 n1 n2 n3 n4 n5 n6 n7 n8 n9 n10 n11 n12
      cases b1 with
      | false =>
        have HV : Hid (vhE G A x = 144) := Lib.hid (by rw [HV2.out, HNo.out rfl]; rfl)
        clear HAr HN5 HA HM
        go_wp2_with fail
        go_ret
        exact ⟨ret_int HV.out.symm, K5.out.below⟩
      | true =>
        have n0 : w5.cell? ⟨wr.heap.size, 0, none⟩ = some (.bool r.pre) := HN5.out.cell 0
        have n1 : w5.cell? ⟨wr.heap.size, 1, none⟩ = some (.string (ofL r.path)) := HN5.out.cell 1
        have n2 : w5.cell? ⟨wr.heap.size, 2, none⟩ = some (.string (ofL r.method)) := HN5.out.cell 2
        have n3 : w5.cell? ⟨wr.heap.size, 3, none⟩ = some (.string (ofL r.field)) := HN5.out.cell 3
        have n4 : w5.cell? ⟨wr.heap.size, 4, none⟩ = some (.string (ofL r.value)) := HN5.out.cell 4
        have n5 : w5.cell? ⟨wr.heap.size, 5, none⟩ = some (.int .i64 r.action) := HN5.out.cell 5
        have n6 : w5.cell? ⟨wr.heap.size, 6, none⟩ = some (.string (ofL r.cluster)) := HN5.out.cell 6
        have n7 : w5.cell? ⟨wr.heap.size, 7, none⟩ = some (.int .i64 r.status) := HN5.out.cell 7
        have n8 : w5.cell? ⟨wr.heap.size, 8, none⟩ = some (.string (ofL r.text)) := HN5.out.cell 8
        have n9 : w5.cell? ⟨wr.heap.size, 9, none⟩ = some (.string (ofL r.rewrite)) := HN5.out.cell 9
        have n10 : w5.cell? ⟨wr.heap.size, 10, none⟩ = some (.int .i64 r.retries) := HN5.out.cell 10
        have n11 : w5.cell? ⟨wr.heap.size, 11, none⟩ = some (.int .i64 r.timeout) := HN5.out.cell 11
        have n12 : w5.cell? ⟨wr.heap.size, 12, none⟩ = some (.bool r.upgrade) := HN5.out.cell 12
        go_wp2_with fail
        refine (HAr.out _ K5.out.mi K5.out.pw K5.out.cl).mono ?_
        rintro e w6 ⟨rfl, hb6⟩
        have K6 := Lib.hid (K5.out.call hb6)
        clear HAr hb6 K5 HN5 n0 n1 n2 n3 n4 n5 n6 n7 n8 n9 n10 n11 n12
        cases b2 with
        | false =>
          have HV : Hid (vhE G A x = 144) := Lib.hid (by rw [HV2.out, HNo.out rfl]; rfl)
          clear HA HM
          go_wp2_with fail
          go_ret
          exact ⟨ret_int HV.out.symm, K6.out.below⟩
        | true =>
          have HK : Hid ((x.routes.take (k + 1)).all (fun r => routB r G) = true ∧ Vx w w.heap.size x.domain (.slice (some ⟨gr, o, none⟩) x.routes.length cr) x.routes va vc A G w6) := Lib.hid ⟨by rw [HS.out, HH.out]; rfl, K6.out⟩
          clear K6 HH HS
          go_wp2_with fail
          go_roundw
          case rel => exact ⟨k + 1, by omega, by go_num, HK⟩
          case measure => simp [intOf]; omega
    · have hki : ¬ (k : Int) < (x.routes.length : Int) := by omega
      obtain rfl : k = x.routes.length := by omega
      have HV : Hid (vhE G A x = 0) := Lib.hid (by
        have := HJ.out.1
        rw [List.take_length] at this
        rw [HV2.out, this]
        rfl)
      have HB := Lib.hid HJ.out.2.below
      clear HJ HM HA
      go_wp2_with fail
      go_ret
      exact ⟨ret_int HV.out.symm, HB.out⟩
end Go.Proofs.YtfihehobkbfmiaaGreatDoor.PCfgV
