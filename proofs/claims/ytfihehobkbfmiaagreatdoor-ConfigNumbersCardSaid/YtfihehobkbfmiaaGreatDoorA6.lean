/- Texts of this seat, one behind another: PCfgS, PCfgC. -/
import Derived.Shelf.Abstract
import Derived.Deep.RegionHeld3
import Derived.Handy
import Derived.Test.YtfihehobkbfmiaaGreatDoorA4
import Derived.Test.YtfihehobkbfmiaaGreatDoorA1
import Derived.Test.YtfihehobkbfmiaaGreatDoorA5
import Derived.Test.YtfihehobkbfmiaaGreatDoorA3
/- Layer 14 of the program: stands. -/
namespace Go.Proofs.YtfihehobkbfmiaaGreatDoor.PCfgS
open Go.ChangeShapes Go.WideShapes Go.ChangeAt Go.RowKit Bytes LexPure ConfPure ConfMem ConfAt Ret Mem Texts PCfgBox R14Name
set_option maxRecDepth 100000
set_option linter.unusedVariables false
set_option linter.unusedSimpArgs false
theorem any_step {α : Type} (G : List α) (q : α → Bool) (k : Nat) (h : k < G.length) : (G.take (k + 1)).any q = ((G.take k).any q || q G[k]) := by
  rw [List.take_succ_eq_append_getElem h, List.any_append]
  simp
theorem any_take {α : Type} {G : List α} {q : α → Bool} {k : Nat} (h : k < G.length) (hq : q G[k] = true) : G.any q = true := List.any_eq_true.2 ⟨_, List.getElem_mem h, hq⟩
theorem pnmC_any (x : Clus) (h : Value) (w : World) :
    Calls Tryz.prog 53 #[.agg #[.string (ofL x.name), .int .i64 x.policy, h, .int .i64 x.conns, .int .i64 x.pending, .int .i64 x.try_, .int .i64 x.fails, .int .i64 x.eject, .int .i64 x.panic]] w fun e w' => e = .returned (.string (ofL x.name)) ∧ Below w.heap.size w w' := by
  go_enter Tryz.func53, Tryz.ntmps53
  go_wp2_with fail
  go_ret
  exact ⟨rfl, (Below.refl _ _).alloc (Nat.le_refl _) _⟩
set_option maxHeartbeats 3200000 in
theorem pstC1_any (x : Clus) (h : Value) (nm : L) (b5 b4 : Nat) (w : World) (h5 : w.cell? ⟨b5, 0, none⟩ = some (.func (.func 53) #[] #[])) (h4 : w.cell? ⟨b4, 0, none⟩ = some (.string (ofL nm))) :
    Calls Tryz.prog 85 #[.agg #[.string (ofL x.name), .int .i64 x.policy, h, .int .i64 x.conns, .int .i64 x.pending, .int .i64 x.try_, .int .i64 x.fails, .int .i64 x.eject, .int .i64 x.panic], .pointer (some ⟨b5, 0, none⟩), .pointer (some ⟨b4, 0, none⟩)] w fun e w' => e = .returned (.bool (x.name == nm)) ∧ Below w.heap.size w w' := by
  have HN := Lib.hid (fun w => pnmC_any x h w)
  have te := text_eq x.name nm
  generalize (x.name == nm) = b at te ⊢
  have l5 := World.block_lt_of_cell? w _ h5
  have l4 := World.block_lt_of_cell? w _ h4
  have K1 := (Ob.start w 38 #[.string (ofL x.name), .int .i64 x.policy, h, .int .i64 x.conns, .int .i64 x.pending, .int .i64 x.try_, .int .i64 x.fails, .int .i64 x.eject, .int .i64 x.panic]).drew
  have bA : Below w.heap.size w (w.alloc (.cells #[.string (ofL x.name), .int .i64 x.policy, h, .int .i64 x.conns, .int .i64 x.pending, .int .i64 x.try_, .int .i64 x.fails, .int .i64 x.eject, .int .i64 x.panic] 38)).drew := below_drew ((Below.refl _ _).alloc (Nat.le_refl _) _)
  have q5 := (bA.cell (p := ⟨b5, 0, none⟩) l5).trans h5
  have q4 := (bA.cell (p := ⟨b4, 0, none⟩) l4).trans h4
  have q := And.intro q5 (And.intro q4 (show (w.alloc (.cells #[.string (ofL x.name), .int .i64 x.policy, h, .int .i64 x.conns, .int .i64 x.pending, .int .i64 x.try_, .int .i64 x.fails, .int .i64 x.eject, .int .i64 x.panic] 38)).drew.cell? ⟨w.heap.size, 0, none⟩ = some (.string (ofL x.name)) ∧ (w.alloc (.cells #[.string (ofL x.name), .int .i64 x.policy, h, .int .i64 x.conns, .int .i64 x.pending, .int .i64 x.try_, .int .i64 x.fails, .int .i64 x.eject, .int .i64 x.panic] 38)).drew.cell? ⟨w.heap.size, 1, none⟩ = some (.int .i64 x.policy) ∧ (w.alloc (.cells #[.string (ofL x.name), .int .i64 x.policy, h, .int .i64 x.conns, .int .i64 x.pending, .int .i64 x.try_, .int .i64 x.fails, .int .i64 x.eject, .int .i64 x.panic] 38)).drew.cell? ⟨w.heap.size, 2, none⟩ = some (h) ∧ (w.alloc (.cells #[.string (ofL x.name), .int .i64 x.policy, h, .int .i64 x.conns, .int .i64 x.pending, .int .i64 x.try_, .int .i64 x.fails, .int .i64 x.eject, .int .i64 x.panic] 38)).drew.cell? ⟨w.heap.size, 3, none⟩ = some (.int .i64 x.conns) ∧ (w.alloc (.cells #[.string (ofL x.name), .int .i64 x.policy, h, .int .i64 x.conns, .int .i64 x.pending, .int .i64 x.try_, .int .i64 x.fails, .int .i64 x.eject, .int .i64 x.panic] 38)).drew.cell? ⟨w.heap.size, 4, none⟩ = some (.int .i64 x.pending) ∧ (w.alloc (.cells #[.string (ofL x.name), .int .i64 x.policy, h, .int .i64 x.conns, .int .i64 x.pending, .int .i64 x.try_, .int .i64 x.fails, .int .i64 x.eject, .int .i64 x.panic] 38)).drew.cell? ⟨w.heap.size, 5, none⟩ = some (.int .i64 x.try_) ∧ (w.alloc (.cells #[.string (ofL x.name), .int .i64 x.policy, h, .int .i64 x.conns, .int .i64 x.pending, .int .i64 x.try_, .int .i64 x.fails, .int .i64 x.eject, .int .i64 x.panic] 38)).drew.cell? ⟨w.heap.size, 6, none⟩ = some (.int .i64 x.fails) ∧ (w.alloc (.cells #[.string (ofL x.name), .int .i64 x.policy, h, .int .i64 x.conns, .int .i64 x.pending, .int .i64 x.try_, .int .i64 x.fails, .int .i64 x.eject, .int .i64 x.panic] 38)).drew.cell? ⟨w.heap.size, 7, none⟩ = some (.int .i64 x.eject) ∧ (w.alloc (.cells #[.string (ofL x.name), .int .i64 x.policy, h, .int .i64 x.conns, .int .i64 x.pending, .int .i64 x.try_, .int .i64 x.fails, .int .i64 x.eject, .int .i64 x.panic] 38)).drew.cell? ⟨w.heap.size, 8, none⟩ = some (.int .i64 x.panic) from ⟨K1.box.cell 0, K1.box.cell 1, K1.box.cell 2, K1.box.cell 3, K1.box.cell 4, K1.box.cell 5, K1.box.cell 6, K1.box.cell 7, K1.box.cell 8⟩))
  have hne5 : b5 ≠ w.heap.size := Nat.ne_of_lt l5
  have hne4 : b4 ≠ w.heap.size := Nat.ne_of_lt l4
  go_enter Tryz.func85, Tryz.ntmps85
  go_wp2_with fail
  go_region_held3 (fun w' => w'.cell? ⟨b5, 0, none⟩ = some (.func (.func 53) #[] #[]) ∧ w'.cell? ⟨b4, 0, none⟩ = some (.string (ofL nm)) ∧ w'.cell? ⟨w.heap.size, 0, none⟩ = some (.string (ofL x.name)) ∧ w'.cell? ⟨w.heap.size, 1, none⟩ = some (.int .i64 x.policy) ∧ w'.cell? ⟨w.heap.size, 2, none⟩ = some (h) ∧ w'.cell? ⟨w.heap.size, 3, none⟩ = some (.int .i64 x.conns) ∧ w'.cell? ⟨w.heap.size, 4, none⟩ = some (.int .i64 x.pending) ∧ w'.cell? ⟨w.heap.size, 5, none⟩ = some (.int .i64 x.try_) ∧ w'.cell? ⟨w.heap.size, 6, none⟩ = some (.int .i64 x.fails) ∧ w'.cell? ⟨w.heap.size, 7, none⟩ = some (.int .i64 x.eject) ∧ w'.cell? ⟨w.heap.size, 8, none⟩ = some (.int .i64 x.panic)) (first | exact s2 | exact q)
    (first
      | (go_at_call 53; refine (HN.out _).mono ?_; rintro e w2 ⟨rfl, hb2⟩
         have K2 := K1.call hb2
         have s2 := And.intro ((hb2.cell (p := ⟨b5, 0, none⟩) (Nat.lt_trans l5 K1.box.lt)).trans q5) (And.intro ((hb2.cell (p := ⟨b4, 0, none⟩) (Nat.lt_trans l4 K1.box.lt)).trans q4) (show w2.cell? ⟨w.heap.size, 0, none⟩ = some (.string (ofL x.name)) ∧ w2.cell? ⟨w.heap.size, 1, none⟩ = some (.int .i64 x.policy) ∧ w2.cell? ⟨w.heap.size, 2, none⟩ = some (h) ∧ w2.cell? ⟨w.heap.size, 3, none⟩ = some (.int .i64 x.conns) ∧ w2.cell? ⟨w.heap.size, 4, none⟩ = some (.int .i64 x.pending) ∧ w2.cell? ⟨w.heap.size, 5, none⟩ = some (.int .i64 x.try_) ∧ w2.cell? ⟨w.heap.size, 6, none⟩ = some (.int .i64 x.fails) ∧ w2.cell? ⟨w.heap.size, 7, none⟩ = some (.int .i64 x.eject) ∧ w2.cell? ⟨w.heap.size, 8, none⟩ = some (.int .i64 x.panic) from ⟨K2.box.cell 0, K2.box.cell 1, K2.box.cell 2, K2.box.cell 3, K2.box.cell 4, K2.box.cell 5, K2.box.cell 6, K2.box.cell 7, K2.box.cell 8⟩))))
  go_wp2_with fail
  go_ret
  exact ⟨rfl, K2.below⟩
set_option maxHeartbeats 3200000 in
theorem pidxC_any (q : Clus → Bool) (b5 b4 : Nat) (v : Value) (G : List Clus) (hle2 : G.length ≤ 1099512676352) (w : World) (hF : Cluss w v G)
    (hcall : ∀ (x : Clus) (h : Value) (W : World), Below w.heap.size w W → Calls Tryz.prog 85 #[.agg #[.string (ofL x.name), .int .i64 x.policy, h, .int .i64 x.conns, .int .i64 x.pending, .int .i64 x.try_, .int .i64 x.fails, .int .i64 x.eject, .int .i64 x.panic], .pointer (some ⟨b5, 0, none⟩), .pointer (some ⟨b4, 0, none⟩)] W fun e w' => e = .returned (.bool (q x)) ∧ Below W.heap.size W w') :
    Calls Tryz.prog 118 #[v, .func (.func 85) #[] #[.pointer (some ⟨b5, 0, none⟩), .pointer (some ⟨b4, 0, none⟩)]] w fun e w' => ∃ r : Int, e = .returned (.int .i64 r) ∧ (decide (0 ≤ r) = G.any q) ∧ Below w.heap.size w w' := by
  have HF := Lib.hid hF
  obtain ⟨p, cap, rfl⟩ : ∃ p cap, v = .slice p G.length cap := by obtain ⟨p, cap, h, _⟩ := hF.parts; exact ⟨p, cap, h⟩
  replace hcall := Lib.hid hcall
  clear hF
  have HB0 := Lib.hid (Below.refl w.heap.size w)
  go_enter Tryz.func118, Tryz.ntmps118
  go_wp2_with fail
  go_loopw [5, 8] (fun _ i wr => ∃ k : Nat, k ≤ G.length ∧ i = .int .i64 k ∧ Hid ((G.take k).any q = false) ∧ Hid (Below w.heap.size w wr)) (fun _ i _ => G.length - (intOf i).toNat)
  case atStart => exact ⟨0, Nat.zero_le _, rfl, Lib.hid rfl, HB0⟩
  case round =>
    obtain ⟨k, hk, rfl, ha, HB⟩ := hrel
    clear HB0
    by_cases hlt : k < G.length
    · have hki : (k : Int) < (G.length : Int) := by omega
      have hk0 : (0 : Int) ≤ (k : Int) := by omega
      have HT := Lib.hid (any_step G q k hlt)
      have HAny := Lib.hid (fun hq => any_take (q := q) hlt hq)
      obtain ⟨x, hx⟩ : ∃ x, x = G[k] := ⟨_, rfl⟩
      obtain ⟨g, o, rfl, hgl, hcell⟩ := cluss_at HF.out k hlt
      obtain ⟨h, -, m0, m1, m2, m3, m4, m5, m6, m7, m8⟩ := hcell x hx
      rw [← hx] at HT HAny
      have HA := Lib.hid (hcall.out x h wr HB.out)
      replace m0 := (HB.out.cell (p := ⟨g, o + k * 9, none⟩) hgl).trans m0
      replace m1 := (HB.out.cell (p := ⟨g, o + k * 9 + 1, none⟩) hgl).trans m1
      replace m2 := (HB.out.cell (p := ⟨g, o + k * 9 + 2, none⟩) hgl).trans m2
      replace m3 := (HB.out.cell (p := ⟨g, o + k * 9 + 3, none⟩) hgl).trans m3
      replace m4 := (HB.out.cell (p := ⟨g, o + k * 9 + 4, none⟩) hgl).trans m4
      replace m5 := (HB.out.cell (p := ⟨g, o + k * 9 + 5, none⟩) hgl).trans m5
      replace m6 := (HB.out.cell (p := ⟨g, o + k * 9 + 6, none⟩) hgl).trans m6
      replace m7 := (HB.out.cell (p := ⟨g, o + k * 9 + 7, none⟩) hgl).trans m7
      replace m8 := (HB.out.cell (p := ⟨g, o + k * 9 + 8, none⟩) hgl).trans m8
      clear hcell
      obtain ⟨b, hb⟩ : ∃ b, b = q x := ⟨_, rfl⟩
      rw [← hb] at HA HT HAny
      clear hx hb
      cases b with
      | false =>
        have HT2 : Hid ((G.take (k + 1)).any q = false) := Lib.hid (by rw [HT.out, ha.out]; rfl)
        clear HT ha HAny
        go_wp2_with fail
        refine HA.out.mono ?_
        rintro e w2 ⟨rfl, hb2⟩
        have HB2 := Lib.hid (below_chain HB.out hb2)
        clear hb2
        go_wp2_with fail
        go_roundw
        case rel => exact ⟨k + 1, by omega, by go_num, HT2, HB2⟩
        case measure => simp [intOf]; omega
      | true =>
        have HV : Hid (decide ((0 : Int) ≤ (k : Int)) = G.any q) := Lib.hid (by
          rw [decide_eq_true (by omega)]
          exact (HAny.out rfl).symm)
        clear ha HT HAny
        go_wp2_with fail
        refine HA.out.mono ?_
        rintro e w2 ⟨rfl, hb2⟩
        have HB2 := Lib.hid (below_chain HB.out hb2)
        clear hb2
        go_wp2_with fail
        go_ret
        exact ⟨_, rfl, HV.out, HB2.out⟩
    · have HV : Hid (decide ((0 : Int) ≤ -1) = G.any q) := Lib.hid (by
        have h := ha.out
        rw [List.take_of_length_le (by omega)] at h
        rw [h]
        rfl)
      have hki : ¬ (k : Int) < (G.length : Int) := by omega
      clear ha
      go_wp2_with fail
      go_ret
      exact ⟨_, rfl, HV.out, HB.out⟩
set_option maxHeartbeats 1600000 in
theorem phasC_any (q : Clus → Bool) (b5 b4 : Nat) (v : Value) (G : List Clus) (hle2 : G.length ≤ 1099512676352) (w : World) (hF : Cluss w v G)
    (hcall : ∀ (x : Clus) (h : Value) (W : World), Below w.heap.size w W → Calls Tryz.prog 85 #[.agg #[.string (ofL x.name), .int .i64 x.policy, h, .int .i64 x.conns, .int .i64 x.pending, .int .i64 x.try_, .int .i64 x.fails, .int .i64 x.eject, .int .i64 x.panic], .pointer (some ⟨b5, 0, none⟩), .pointer (some ⟨b4, 0, none⟩)] W fun e w' => e = .returned (.bool (q x)) ∧ Below W.heap.size W w') :
    Calls Tryz.prog 84 #[v, .func (.func 85) #[] #[.pointer (some ⟨b5, 0, none⟩), .pointer (some ⟨b4, 0, none⟩)]] w fun e w' => e = .returned (.bool (G.any q)) ∧ Below w.heap.size w w' := by
  have HI := Lib.hid (pidxC_any q b5 b4 v G hle2 w hF hcall)
  clear hF hcall
  generalize G.any q = b at *
  go_enter Tryz.func84, Tryz.ntmps84
  go_wp2_with fail
  refine HI.out.mono ?_
  rintro e w2 ⟨r, rfl, hr, hb2⟩
  have HB := Lib.hid hb2
  have HR := Lib.hid hr
  clear hb2 hr
  go_wp2_with fail
  all_goals
    go_ret
    refine ⟨ret_bool ?_, HB.out⟩
    rw [← HR.out]
set_option maxHeartbeats 1600000 in
theorem pstandsC_any (nm : L) (v : Value) (G : List Clus) (hle2 : G.length ≤ 1099512676352) (w : World) (hF : Cluss w v G) :
    Calls Tryz.prog 52 #[v, .string (ofL nm), .func (.func 53) #[] #[]] w fun e w' => e = .returned (.bool (G.any (fun x => x.name == nm))) ∧ Below w.heap.size w w' := by
  have HB0 : Below w.heap.size w ((w.alloc (.cells #[.string (ofL nm)] 9)).alloc (.cells #[.func (.func 53) #[] #[]] 70)) := ((Below.refl _ _).alloc (Nat.le_refl _) _).alloc (by simp) _
  have HH := Lib.hid (phasC_any (fun x => x.name == nm) (w.heap.size + 1) w.heap.size v G hle2 ((w.alloc (.cells #[.string (ofL nm)] 9)).alloc (.cells #[.func (.func 53) #[] #[]] 70)) (hF.below HB0) (fun x h W hW => by
    have c4 := (((Has.new w 9 #[.string (ofL nm)]).alloc (.cells #[.func (.func 53) #[] #[]] 70)).below hW (by simp; omega)).cell 0
    have c5 := (Has.new (w.alloc (.cells #[.string (ofL nm)] 9)) 70 #[.func (.func 53) #[] #[]]).below hW (by simp)
    rw [show (w.alloc (.cells #[.string (ofL nm)] 9)).heap.size = w.heap.size + 1 by simp] at c5
    exact pstC1_any x h nm _ _ W (c5.cell 0) c4))
  generalize G.any (fun x => x.name == nm) = b at HH ⊢
  have HB := Lib.hid HB0
  clear HB0 hF
  go_enter Tryz.func52, Tryz.ntmps52
  go_wp2_with fail
  refine HH.out.mono ?_
  rintro e w2 ⟨rfl, hb2⟩
  have HB2 := Lib.hid (below_chain HB.out hb2)
  clear hb2
  go_wp2_with fail
  go_ret
  exact ⟨rfl, HB2.out⟩
theorem pnmV_any (x : Vhos) (h : Value) (w : World) :
    Calls Tryz.prog 58 #[.agg #[.string (ofL x.domain), h]] w fun e w' => e = .returned (.string (ofL x.domain)) ∧ Below w.heap.size w w' := by
  go_enter Tryz.func58, Tryz.ntmps58
  go_wp2_with fail
  go_ret
  exact ⟨rfl, (Below.refl _ _).alloc (Nat.le_refl _) _⟩
set_option maxHeartbeats 3200000 in
theorem pstV1_any (x : Vhos) (h : Value) (nm : L) (b5 b4 : Nat) (w : World) (h5 : w.cell? ⟨b5, 0, none⟩ = some (.func (.func 58) #[] #[])) (h4 : w.cell? ⟨b4, 0, none⟩ = some (.string (ofL nm))) :
    Calls Tryz.prog 92 #[.agg #[.string (ofL x.domain), h], .pointer (some ⟨b5, 0, none⟩), .pointer (some ⟨b4, 0, none⟩)] w fun e w' => e = .returned (.bool (x.domain == nm)) ∧ Below w.heap.size w w' := by
  have HN := Lib.hid (fun w => pnmV_any x h w)
  have te := text_eq x.domain nm
  generalize (x.domain == nm) = b at te ⊢
  have l5 := World.block_lt_of_cell? w _ h5
  have l4 := World.block_lt_of_cell? w _ h4
  have K1 := (Ob.start w 43 #[.string (ofL x.domain), h]).drew
  have bA : Below w.heap.size w (w.alloc (.cells #[.string (ofL x.domain), h] 43)).drew := below_drew ((Below.refl _ _).alloc (Nat.le_refl _) _)
  have q5 := (bA.cell (p := ⟨b5, 0, none⟩) l5).trans h5
  have q4 := (bA.cell (p := ⟨b4, 0, none⟩) l4).trans h4
  have q := And.intro q5 (And.intro q4 (show (w.alloc (.cells #[.string (ofL x.domain), h] 43)).drew.cell? ⟨w.heap.size, 0, none⟩ = some (.string (ofL x.domain)) ∧ (w.alloc (.cells #[.string (ofL x.domain), h] 43)).drew.cell? ⟨w.heap.size, 1, none⟩ = some (h) from ⟨K1.box.cell 0, K1.box.cell 1⟩))
  have hne5 : b5 ≠ w.heap.size := Nat.ne_of_lt l5
  have hne4 : b4 ≠ w.heap.size := Nat.ne_of_lt l4
  go_enter Tryz.func92, Tryz.ntmps92
  go_wp2_with fail
  go_region_held3 (fun w' => w'.cell? ⟨b5, 0, none⟩ = some (.func (.func 58) #[] #[]) ∧ w'.cell? ⟨b4, 0, none⟩ = some (.string (ofL nm)) ∧ w'.cell? ⟨w.heap.size, 0, none⟩ = some (.string (ofL x.domain)) ∧ w'.cell? ⟨w.heap.size, 1, none⟩ = some (h)) (first | exact s2 | exact q)
    (first
      | (go_at_call 58; refine (HN.out _).mono ?_; rintro e w2 ⟨rfl, hb2⟩
         have K2 := K1.call hb2
         have s2 := And.intro ((hb2.cell (p := ⟨b5, 0, none⟩) (Nat.lt_trans l5 K1.box.lt)).trans q5) (And.intro ((hb2.cell (p := ⟨b4, 0, none⟩) (Nat.lt_trans l4 K1.box.lt)).trans q4) (show w2.cell? ⟨w.heap.size, 0, none⟩ = some (.string (ofL x.domain)) ∧ w2.cell? ⟨w.heap.size, 1, none⟩ = some (h) from ⟨K2.box.cell 0, K2.box.cell 1⟩))))
  go_wp2_with fail
  go_ret
  exact ⟨rfl, K2.below⟩
set_option maxHeartbeats 3200000 in
theorem pidxV_any (q : Vhos → Bool) (b5 b4 : Nat) (v : Value) (G : List Vhos) (hle2 : G.length ≤ 1099512676352) (w : World) (hF : Vhoss w v G)
    (hcall : ∀ (x : Vhos) (h : Value) (W : World), Below w.heap.size w W → Calls Tryz.prog 92 #[.agg #[.string (ofL x.domain), h], .pointer (some ⟨b5, 0, none⟩), .pointer (some ⟨b4, 0, none⟩)] W fun e w' => e = .returned (.bool (q x)) ∧ Below W.heap.size W w') :
    Calls Tryz.prog 123 #[v, .func (.func 92) #[] #[.pointer (some ⟨b5, 0, none⟩), .pointer (some ⟨b4, 0, none⟩)]] w fun e w' => ∃ r : Int, e = .returned (.int .i64 r) ∧ (decide (0 ≤ r) = G.any q) ∧ Below w.heap.size w w' := by
  have HF := Lib.hid hF
  obtain ⟨p, cap, rfl⟩ : ∃ p cap, v = .slice p G.length cap := by obtain ⟨p, cap, h, _⟩ := hF.parts; exact ⟨p, cap, h⟩
  replace hcall := Lib.hid hcall
  clear hF
  have HB0 := Lib.hid (Below.refl w.heap.size w)
  go_enter Tryz.func123, Tryz.ntmps123
  go_wp2_with fail
  go_loopw [5, 8] (fun _ i wr => ∃ k : Nat, k ≤ G.length ∧ i = .int .i64 k ∧ Hid ((G.take k).any q = false) ∧ Hid (Below w.heap.size w wr)) (fun _ i _ => G.length - (intOf i).toNat)
  case atStart => exact ⟨0, Nat.zero_le _, rfl, Lib.hid rfl, HB0⟩
  case round =>
    obtain ⟨k, hk, rfl, ha, HB⟩ := hrel
    clear HB0
    by_cases hlt : k < G.length
    · have hki : (k : Int) < (G.length : Int) := by omega
      have hk0 : (0 : Int) ≤ (k : Int) := by omega
      have HT := Lib.hid (any_step G q k hlt)
      have HAny := Lib.hid (fun hq => any_take (q := q) hlt hq)
      obtain ⟨x, hx⟩ : ∃ x, x = G[k] := ⟨_, rfl⟩
      obtain ⟨g, o, rfl, hgl, hcell⟩ := vhoss_at HF.out k hlt
      obtain ⟨h, -, m0, m1⟩ := hcell x hx
      rw [← hx] at HT HAny
      have HA := Lib.hid (hcall.out x h wr HB.out)
      replace m0 := (HB.out.cell (p := ⟨g, o + k * 2, none⟩) hgl).trans m0
      replace m1 := (HB.out.cell (p := ⟨g, o + k * 2 + 1, none⟩) hgl).trans m1
      clear hcell
      obtain ⟨b, hb⟩ : ∃ b, b = q x := ⟨_, rfl⟩
      rw [← hb] at HA HT HAny
      clear hx hb
      cases b with
      | false =>
        have HT2 : Hid ((G.take (k + 1)).any q = false) := Lib.hid (by rw [HT.out, ha.out]; rfl)
        clear HT ha HAny
        go_wp2_with fail
        refine HA.out.mono ?_
        rintro e w2 ⟨rfl, hb2⟩
        have HB2 := Lib.hid (below_chain HB.out hb2)
        clear hb2
        go_wp2_with fail
        go_roundw
        case rel => exact ⟨k + 1, by omega, by go_num, HT2, HB2⟩
        case measure => simp [intOf]; omega
      | true =>
        have HV : Hid (decide ((0 : Int) ≤ (k : Int)) = G.any q) := Lib.hid (by
          rw [decide_eq_true (by omega)]
          exact (HAny.out rfl).symm)
        clear ha HT HAny
        go_wp2_with fail
        refine HA.out.mono ?_
        rintro e w2 ⟨rfl, hb2⟩
        have HB2 := Lib.hid (below_chain HB.out hb2)
        clear hb2
        go_wp2_with fail
        go_ret
        exact ⟨_, rfl, HV.out, HB2.out⟩
    · have HV : Hid (decide ((0 : Int) ≤ -1) = G.any q) := Lib.hid (by
        have h := ha.out
        rw [List.take_of_length_le (by omega)] at h
        rw [h]
        rfl)
      have hki : ¬ (k : Int) < (G.length : Int) := by omega
      clear ha
      go_wp2_with fail
      go_ret
      exact ⟨_, rfl, HV.out, HB.out⟩
set_option maxHeartbeats 1600000 in
theorem phasV_any (q : Vhos → Bool) (b5 b4 : Nat) (v : Value) (G : List Vhos) (hle2 : G.length ≤ 1099512676352) (w : World) (hF : Vhoss w v G)
    (hcall : ∀ (x : Vhos) (h : Value) (W : World), Below w.heap.size w W → Calls Tryz.prog 92 #[.agg #[.string (ofL x.domain), h], .pointer (some ⟨b5, 0, none⟩), .pointer (some ⟨b4, 0, none⟩)] W fun e w' => e = .returned (.bool (q x)) ∧ Below W.heap.size W w') :
    Calls Tryz.prog 91 #[v, .func (.func 92) #[] #[.pointer (some ⟨b5, 0, none⟩), .pointer (some ⟨b4, 0, none⟩)]] w fun e w' => e = .returned (.bool (G.any q)) ∧ Below w.heap.size w w' := by
  have HI := Lib.hid (pidxV_any q b5 b4 v G hle2 w hF hcall)
  clear hF hcall
  generalize G.any q = b at *
  go_enter Tryz.func91, Tryz.ntmps91
  go_wp2_with fail
  refine HI.out.mono ?_
  rintro e w2 ⟨r, rfl, hr, hb2⟩
  have HB := Lib.hid hb2
  have HR := Lib.hid hr
  clear hb2 hr
  go_wp2_with fail
  all_goals
    go_ret
    refine ⟨ret_bool ?_, HB.out⟩
    rw [← HR.out]
set_option maxHeartbeats 1600000 in
theorem pstandsV_any (nm : L) (v : Value) (G : List Vhos) (hle2 : G.length ≤ 1099512676352) (w : World) (hF : Vhoss w v G) :
    Calls Tryz.prog 57 #[v, .string (ofL nm), .func (.func 58) #[] #[]] w fun e w' => e = .returned (.bool (G.any (fun x => x.domain == nm))) ∧ Below w.heap.size w w' := by
  have HB0 : Below w.heap.size w ((w.alloc (.cells #[.string (ofL nm)] 9)).alloc (.cells #[.func (.func 58) #[] #[]] 89)) := ((Below.refl _ _).alloc (Nat.le_refl _) _).alloc (by simp) _
  have HH := Lib.hid (phasV_any (fun x => x.domain == nm) (w.heap.size + 1) w.heap.size v G hle2 ((w.alloc (.cells #[.string (ofL nm)] 9)).alloc (.cells #[.func (.func 58) #[] #[]] 89)) (hF.below HB0) (fun x h W hW => by
    have c4 := (((Has.new w 9 #[.string (ofL nm)]).alloc (.cells #[.func (.func 58) #[] #[]] 89)).below hW (by simp; omega)).cell 0
    have c5 := (Has.new (w.alloc (.cells #[.string (ofL nm)] 9)) 89 #[.func (.func 58) #[] #[]]).below hW (by simp)
    rw [show (w.alloc (.cells #[.string (ofL nm)] 9)).heap.size = w.heap.size + 1 by simp] at c5
    exact pstV1_any x h nm _ _ W (c5.cell 0) c4))
  generalize G.any (fun x => x.domain == nm) = b at HH ⊢
  have HB := Lib.hid HB0
  clear HB0 hF
  go_enter Tryz.func57, Tryz.ntmps57
  go_wp2_with fail
  refine HH.out.mono ?_
  rintro e w2 ⟨rfl, hb2⟩
  have HB2 := Lib.hid (below_chain HB.out hb2)
  clear hb2
  go_wp2_with fail
  go_ret
  exact ⟨rfl, HB2.out⟩
theorem pnmS_any (x : L) (w : World) :
    Calls Tryz.prog 88 #[.string (ofL x)] w fun e w' => e = .returned (.string (ofL x)) ∧ Below w.heap.size w w' := by
  go_enter Tryz.func88, Tryz.ntmps88
  go_wp2_with fail
  go_ret
  exact ⟨rfl, Below.refl _ _⟩
set_option maxHeartbeats 3200000 in
theorem pstS1_any (x : L) (nm : L) (b5 b4 : Nat) (w : World) (h5 : w.cell? ⟨b5, 0, none⟩ = some (.func (.func 88) #[] #[])) (h4 : w.cell? ⟨b4, 0, none⟩ = some (.string (ofL nm))) :
    Calls Tryz.prog 121 #[.string (ofL x), .pointer (some ⟨b5, 0, none⟩), .pointer (some ⟨b4, 0, none⟩)] w fun e w' => e = .returned (.bool (x == nm)) ∧ Below w.heap.size w w' := by
  have HN := Lib.hid (fun w => pnmS_any x w)
  have te := text_eq x nm
  generalize (x == nm) = b at te ⊢
  have l5 := World.block_lt_of_cell? w _ h5
  have l4 := World.block_lt_of_cell? w _ h4
  have q5 : w.drew.cell? ⟨b5, 0, none⟩ = some (.func (.func 88) #[] #[]) := h5
  have q4 : w.drew.cell? ⟨b4, 0, none⟩ = some (.string (ofL nm)) := h4
  go_enter Tryz.func121, Tryz.ntmps121
  go_wp2_with fail
  have HB0 : Below w.heap.size w w.drew := below_drew (Below.refl _ _)
  go_region_held3 (fun w' => w'.cell? ⟨b5, 0, none⟩ = some (.func (.func 88) #[] #[]) ∧ w'.cell? ⟨b4, 0, none⟩ = some (.string (ofL nm))) (first | exact s2 | exact ⟨q5, q4⟩)
    (first
      | (go_at_call 88; refine (HN.out _).mono ?_; rintro e w2 ⟨rfl, hb2⟩
         have s2 := And.intro ((hb2.cell (p := ⟨b5, 0, none⟩) l5).trans q5) ((hb2.cell (p := ⟨b4, 0, none⟩) l4).trans q4)
         have HB2 := below_chain HB0 hb2))
  go_wp2_with fail
  go_ret
  exact ⟨rfl, HB2⟩
set_option maxHeartbeats 3200000 in
theorem pidxS_any (q : L → Bool) (b5 b4 : Nat) (v : Value) (G : List L) (hle2 : G.length ≤ 1099512676352) (w : World) (hF : Texts w v G)
    (hcall : ∀ (x : L) (W : World), Below w.heap.size w W → Calls Tryz.prog 121 #[.string (ofL x), .pointer (some ⟨b5, 0, none⟩), .pointer (some ⟨b4, 0, none⟩)] W fun e w' => e = .returned (.bool (q x)) ∧ Below W.heap.size W w') :
    Calls Tryz.prog 135 #[v, .func (.func 121) #[] #[.pointer (some ⟨b5, 0, none⟩), .pointer (some ⟨b4, 0, none⟩)]] w fun e w' => ∃ r : Int, e = .returned (.int .i64 r) ∧ (decide (0 ≤ r) = G.any q) ∧ Below w.heap.size w w' := by
  have HF := Lib.hid hF
  obtain ⟨p, cap, rfl⟩ : ∃ p cap, v = .slice p G.length cap := by obtain ⟨p, cap, h, _⟩ := hF; exact ⟨p, cap, h⟩
  replace hcall := Lib.hid hcall
  clear hF
  have HB0 := Lib.hid (Below.refl w.heap.size w)
  go_enter Tryz.func135, Tryz.ntmps135
  go_wp2_with fail
  go_loopw [5, 8] (fun _ i wr => ∃ k : Nat, k ≤ G.length ∧ i = .int .i64 k ∧ Hid ((G.take k).any q = false) ∧ Hid (Below w.heap.size w wr)) (fun _ i _ => G.length - (intOf i).toNat)
  case atStart => exact ⟨0, Nat.zero_le _, rfl, Lib.hid rfl, HB0⟩
  case round =>
    obtain ⟨k, hk, rfl, ha, HB⟩ := hrel
    clear HB0
    by_cases hlt : k < G.length
    · have hki : (k : Int) < (G.length : Int) := by omega
      have hk0 : (0 : Int) ≤ (k : Int) := by omega
      have HT := Lib.hid (any_step G q k hlt)
      have HAny := Lib.hid (fun hq => any_take (q := q) hlt hq)
      obtain ⟨x, hx⟩ : ∃ x, x = G[k] := ⟨_, rfl⟩
      obtain ⟨g, o, rfl, hgl, hcell⟩ := texts_at HF.out k hlt
      have m0 := hcell x hx
      rw [← hx] at HT HAny
      have HA := Lib.hid (hcall.out x wr HB.out)
      replace m0 := (HB.out.cell (p := ⟨g, o + k, none⟩) hgl).trans m0
      clear hcell
      obtain ⟨b, hb⟩ : ∃ b, b = q x := ⟨_, rfl⟩
      rw [← hb] at HA HT HAny
      clear hx hb
      cases b with
      | false =>
        have HT2 : Hid ((G.take (k + 1)).any q = false) := Lib.hid (by rw [HT.out, ha.out]; rfl)
        clear HT ha HAny
        go_wp2_with fail
        refine HA.out.mono ?_
        rintro e w2 ⟨rfl, hb2⟩
        have HB2 := Lib.hid (below_chain HB.out hb2)
        clear hb2
        go_wp2_with fail
        go_roundw
        case rel => exact ⟨k + 1, by omega, by go_num, HT2, HB2⟩
        case measure => simp [intOf]; omega
      | true =>
        have HV : Hid (decide ((0 : Int) ≤ (k : Int)) = G.any q) := Lib.hid (by
          rw [decide_eq_true (by omega)]
          exact (HAny.out rfl).symm)
        clear ha HT HAny
        go_wp2_with fail
        refine HA.out.mono ?_
        rintro e w2 ⟨rfl, hb2⟩
        have HB2 := Lib.hid (below_chain HB.out hb2)
        clear hb2
        go_wp2_with fail
        go_ret
        exact ⟨_, rfl, HV.out, HB2.out⟩
    · have HV : Hid (decide ((0 : Int) ≤ -1) = G.any q) := Lib.hid (by
        have h := ha.out
        rw [List.take_of_length_le (by omega)] at h
        rw [h]
        rfl)
      have hki : ¬ (k : Int) < (G.length : Int) := by omega
      clear ha
      go_wp2_with fail
      go_ret
      exact ⟨_, rfl, HV.out, HB.out⟩
set_option maxHeartbeats 1600000 in
theorem phasS_any (q : L → Bool) (b5 b4 : Nat) (v : Value) (G : List L) (hle2 : G.length ≤ 1099512676352) (w : World) (hF : Texts w v G)
    (hcall : ∀ (x : L) (W : World), Below w.heap.size w W → Calls Tryz.prog 121 #[.string (ofL x), .pointer (some ⟨b5, 0, none⟩), .pointer (some ⟨b4, 0, none⟩)] W fun e w' => e = .returned (.bool (q x)) ∧ Below W.heap.size W w') :
    Calls Tryz.prog 120 #[v, .func (.func 121) #[] #[.pointer (some ⟨b5, 0, none⟩), .pointer (some ⟨b4, 0, none⟩)]] w fun e w' => e = .returned (.bool (G.any q)) ∧ Below w.heap.size w w' := by
  have HI := Lib.hid (pidxS_any q b5 b4 v G hle2 w hF hcall)
  clear hF hcall
  generalize G.any q = b at *
  go_enter Tryz.func120, Tryz.ntmps120
  go_wp2_with fail
  refine HI.out.mono ?_
  rintro e w2 ⟨r, rfl, hr, hb2⟩
  have HB := Lib.hid hb2
  have HR := Lib.hid hr
  clear hb2 hr
  go_wp2_with fail
  all_goals
    go_ret
    refine ⟨ret_bool ?_, HB.out⟩
    rw [← HR.out]
set_option maxHeartbeats 1600000 in
theorem pstandsS_any (nm : L) (v : Value) (G : List L) (hle2 : G.length ≤ 1099512676352) (w : World) (hF : Texts w v G) :
    Calls Tryz.prog 87 #[v, .string (ofL nm), .func (.func 88) #[] #[]] w fun e w' => e = .returned (.bool (G.any (fun x => x == nm))) ∧ Below w.heap.size w w' := by
  have HB0 : Below w.heap.size w ((w.alloc (.cells #[.string (ofL nm)] 9)).alloc (.cells #[.func (.func 88) #[] #[]] 53)) := ((Below.refl _ _).alloc (Nat.le_refl _) _).alloc (by simp) _
  have HH := Lib.hid (phasS_any (fun x => x == nm) (w.heap.size + 1) w.heap.size v G hle2 ((w.alloc (.cells #[.string (ofL nm)] 9)).alloc (.cells #[.func (.func 88) #[] #[]] 53)) (Texts.below hF HB0) (fun x W hW => by
    have c4 := (((Has.new w 9 #[.string (ofL nm)]).alloc (.cells #[.func (.func 88) #[] #[]] 53)).below hW (by simp; omega)).cell 0
    have c5 := (Has.new (w.alloc (.cells #[.string (ofL nm)] 9)) 53 #[.func (.func 88) #[] #[]]).below hW (by simp)
    rw [show (w.alloc (.cells #[.string (ofL nm)] 9)).heap.size = w.heap.size + 1 by simp] at c5
    exact pstS1_any x nm _ _ W (c5.cell 0) c4))
  generalize G.any (fun x => x == nm) = b at HH ⊢
  have HB := Lib.hid HB0
  clear HB0 hF
  go_enter Tryz.func87, Tryz.ntmps87
  go_wp2_with fail
  refine HH.out.mono ?_
  rintro e w2 ⟨rfl, hb2⟩
  have HB2 := Lib.hid (below_chain HB.out hb2)
  clear hb2
  go_wp2_with fail
  go_ret
  exact ⟨rfl, HB2.out⟩
end Go.Proofs.YtfihehobkbfmiaaGreatDoor.PCfgS

/- Layer 14 of the program: clusters and routes, one by one. -/
namespace Go.Proofs.YtfihehobkbfmiaaGreatDoor.PCfgC
open Go.ChangeShapes Go.WideShapes Go.ChangeAt Go.RowKit Bytes LexPure ConfPure ConfMem ConfAt Ret Mem Texts PCfgLib PCfgBox PCfgT PCfgS R14Name
set_option maxRecDepth 100000
set_option linter.unusedVariables false
set_option linter.unusedSimpArgs false
theorem ret_int {a b : Int} (h : a = b) : Ending.returned (.int .i64 a) = .returned (.int .i64 b) := by rw [h]
theorem ite_int (n m : Int) (A B : Bool) : (if n = m then A else B) = cond (n == m) A B := by
  by_cases h : n = m
  · rw [if_pos h, h, beq_self_eq_true]; rfl
  · rw [if_neg h, beq_false_of_ne h]; rfl
theorem ite_list (l m : L) (A B : Bool) : (if l = m then A else B) = cond (l == m) A B := by
  by_cases h : l = m
  · rw [if_pos h, h, beq_self_eq_true]; rfl
  · rw [if_neg h, beq_false_of_ne h]; rfl
def limB (x : Clus) : Bool := inB x.policy 1 4 && inB x.conns 1 64 && inB x.pending 0 256 && inB x.try_ 1 1048576 && inB x.fails 1 1000 && inB x.eject 1 1048576 && inB x.panic 0 100
set_option maxHeartbeats 3200000 in
theorem plim_any (x : Clus) (hv : Value) (w : World) :
    Calls Tryz.prog 55 #[.agg #[.string (ofL x.name), .int .i64 x.policy, hv, .int .i64 x.conns, .int .i64 x.pending, .int .i64 x.try_, .int .i64 x.fails, .int .i64 x.eject, .int .i64 x.panic]] w fun e w' => e = .returned (.bool (limB x)) ∧ Below w.heap.size w w' := by
  have H0 := Lib.hid (fun w => pwithin_any x.policy 1 4 w)
  have H1 := Lib.hid (fun w => pwithin_any x.conns 1 64 w)
  have H2 := Lib.hid (fun w => pwithin_any x.pending 0 256 w)
  have H3 := Lib.hid (fun w => pwithin_any x.try_ 1 1048576 w)
  have H4 := Lib.hid (fun w => pwithin_any x.fails 1 1000 w)
  have H5 := Lib.hid (fun w => pwithin_any x.eject 1 1048576 w)
  have H6 := Lib.hid (fun w => pwithin_any x.panic 0 100 w)
  obtain ⟨r0, hr0⟩ : ∃ r0, r0 = inB x.policy 1 4 := ⟨_, rfl⟩
  rw [← hr0] at H0
  obtain ⟨r1, hr1⟩ : ∃ r1, r1 = inB x.conns 1 64 := ⟨_, rfl⟩
  rw [← hr1] at H1
  obtain ⟨r2, hr2⟩ : ∃ r2, r2 = inB x.pending 0 256 := ⟨_, rfl⟩
  rw [← hr2] at H2
  obtain ⟨r3, hr3⟩ : ∃ r3, r3 = inB x.try_ 1 1048576 := ⟨_, rfl⟩
  rw [← hr3] at H3
  obtain ⟨r4, hr4⟩ : ∃ r4, r4 = inB x.fails 1 1000 := ⟨_, rfl⟩
  rw [← hr4] at H4
  obtain ⟨r5, hr5⟩ : ∃ r5, r5 = inB x.eject 1 1048576 := ⟨_, rfl⟩
  rw [← hr5] at H5
  obtain ⟨r6, hr6⟩ : ∃ r6, r6 = inB x.panic 0 100 := ⟨_, rfl⟩
  rw [← hr6] at H6
  have HV : Hid (limB x = (r0 && r1 && r2 && r3 && r4 && r5 && r6)) := Lib.hid (by unfold limB; rw [hr0, hr1, hr2, hr3, hr4, hr5, hr6])
  have K0 := Lib.hid (Ob.start w 38 #[.string (ofL x.name), .int .i64 x.policy, hv, .int .i64 x.conns, .int .i64 x.pending, .int .i64 x.try_, .int .i64 x.fails, .int .i64 x.eject, .int .i64 x.panic])
  clear hr0 hr1 hr2 hr3 hr4 hr5 hr6
  go_enter Tryz.func55, Tryz.ntmps55
  go_wp2_with fail
  refine (H0.out _).mono ?_
  rintro e v1 ⟨rfl, rfl⟩
  clear H0
  cases r0 with
  | false =>
    go_wp2_with fail
    go_ret
    exact ⟨ret_bool (by rw [HV.out]; simp), K0.out.below⟩
  | true =>
  go_wp2_with fail
  refine (H1.out _).mono ?_
  rintro e v2 ⟨rfl, rfl⟩
  clear H1
  cases r1 with
  | false =>
    go_wp2_with fail
    go_ret
    exact ⟨ret_bool (by rw [HV.out]; simp), K0.out.below⟩
  | true =>
  go_wp2_with fail
  refine (H2.out _).mono ?_
  rintro e v3 ⟨rfl, rfl⟩
  clear H2
  cases r2 with
  | false =>
    go_wp2_with fail
    go_ret
    exact ⟨ret_bool (by rw [HV.out]; simp), K0.out.below⟩
  | true =>
  go_wp2_with fail
  refine (H3.out _).mono ?_
  rintro e v4 ⟨rfl, rfl⟩
  clear H3
  cases r3 with
  | false =>
    go_wp2_with fail
    go_ret
    exact ⟨ret_bool (by rw [HV.out]; simp), K0.out.below⟩
  | true =>
  go_wp2_with fail
  refine (H4.out _).mono ?_
  rintro e v5 ⟨rfl, rfl⟩
  clear H4
  cases r4 with
  | false =>
    go_wp2_with fail
    go_ret
    exact ⟨ret_bool (by rw [HV.out]; simp), K0.out.below⟩
  | true =>
  go_wp2_with fail
  refine (H5.out _).mono ?_
  rintro e v6 ⟨rfl, rfl⟩
  clear H5
  cases r5 with
  | false =>
    go_wp2_with fail
    go_ret
    exact ⟨ret_bool (by rw [HV.out]; simp), K0.out.below⟩
  | true =>
  go_wp2_with fail
  refine (H6.out _).mono ?_
  rintro e v7 ⟨rfl, rfl⟩
  clear H6
  cases r6 with
  | false =>
    go_wp2_with fail
    go_ret
    exact ⟨ret_bool (by rw [HV.out]; simp), K0.out.below⟩
  | true =>
  go_wp2_with fail
  go_ret
  exact ⟨ret_bool (by rw [HV.out]; simp), K0.out.below⟩
theorem hosts_step (ahead hs : List L) (h : L) : hostsB ahead (h :: hs) = (hostB h && !(ahead.any (fun x => x == h)) && hostsB (ahead ++ [h]) hs) := by
  conv => lhs; unfold hostsB
  rw [List.contains_eq_any_beq]
  congr 3
  induction ahead with
  | nil => rfl
  | cons a l ih => rw [List.any_cons, List.any_cons, ih, Bool.beq_comm (a := h)]
set_option maxHeartbeats 6400000 in
theorem phosts_any (G : List L) (v : Value) (hx : G.length ≤ 1048576 ∧ ∀ t ∈ G, t.length ≤ 1048576) (w : World) (hm : MaxInt w) (hp : Pow w) (hT : Texts w v G) (hcp : CapOk v) :
    Calls Tryz.prog 54 #[v] w fun e w' => e = .returned (.bool (inB G.length 1 16 && hostsB [] G)) ∧ Below w.heap.size w w' := by
  have HT := Lib.hid hT
  obtain ⟨p, cap, rfl⟩ : ∃ p cap, v = .slice p G.length cap := by obtain ⟨p, cap, h, _⟩ := hT; exact ⟨p, cap, h⟩
  have hcap : G.length ≤ cap := hcp _ _ _ rfl
  have HM := Lib.hid hm
  have HP := Lib.hid hp
  have hgl := hx.1
  have HX := Lib.hid hx
  have HL := Lib.hid (fun w => pwithin_any ((G.length : Nat) : Int) 1 16 w)
  obtain ⟨r0, hr0⟩ : ∃ r, r = inB ((G.length : Nat) : Int) 1 16 := ⟨_, rfl⟩
  rw [← hr0] at HL ⊢
  clear hr0 hx hm hp hT
  go_enter Tryz.func54, Tryz.ntmps54
  go_wp2_with fail
  refine (HL.out _).mono ?_
  rintro e w1 ⟨rfl, rfl⟩
  clear HL
  cases r0 with
  | false =>
    go_wp2_with fail
    go_ret
    exact ⟨ret_bool (by simp), Below.refl _ _⟩
  | true =>
  go_wp2_with fail
  go_loopw [11] (fun i wr => ∃ k : Nat, k ≤ G.length ∧ i = .int .i64 k ∧ Hid (hostsB [] G = hostsB (G.take k) (G.drop k) ∧ Below w.heap.size w wr)) (fun i _ => G.length - (intOf i).toNat)
  case atStart => exact ⟨0, Nat.zero_le _, rfl, Lib.hid ⟨by simp, Below.refl _ _⟩⟩
  case round =>
    obtain ⟨k, hk, rfl, HJ⟩ := hrel
    by_cases hlt : k < G.length
    · have hki : (k : Int) < (G.length : Int) := by omega
      have hk0 : (0 : Int) ≤ (k : Int) := by omega
      have HTk := Lib.hid (fun cap2 => texts_take HT.out k hk cap2)
      have HS : Hid (hostsB (G.take k) (G.drop k) = (hostB G[k] && !((G.take k).any (fun x => x == G[k])) && hostsB (G.take (k + 1)) (G.drop (k + 1)))) := Lib.hid (by
        rw [List.drop_eq_getElem_cons hlt, hosts_step, List.take_succ_eq_append_getElem hlt])
      obtain ⟨g, o, rfl, hgl2, hcell⟩ := texts_at HT.out k hlt
      obtain ⟨x, hxx⟩ : ∃ x, x = G[k] := ⟨_, rfl⟩
      have m0 := (HJ.out.2.cell (p := ⟨g, o + k, none⟩) hgl2).trans (hcell x hxx)
      rw [← hxx] at HS
      have hxl : x.length ≤ 1048576 := by rw [hxx]; exact HX.out.2 _ (List.getElem_mem hlt)
      have HU := Lib.hid (fun w h1 h2 => pup_any (ofL x) (by rw [ofL_size]; exact hxl) w h1 h2)
      rw [toL_ofL] at HU
      have hkc : (k : Int) ≤ (cap : Int) := by omega
      have hln : (G.take k).length = k := by rw [List.length_take]; omega
      have HSt := Lib.hid (fun w (cap2 : Nat) h => pstandsS_any x (.slice (some ⟨g, o, none⟩) k cap2) (G.take k) (by omega) w h)
      obtain ⟨b1, hb1⟩ : ∃ b, b = hostB x := ⟨_, rfl⟩
      obtain ⟨b2, hb2⟩ : ∃ b, b = (G.take k).any (fun y => y == x) := ⟨_, rfl⟩
      rw [← hb1] at HU HS
      rw [← hb2] at HSt HS
      have HM1 := Lib.hid (HM.out.below HJ.out.2)
      have HP1 := Lib.hid (HP.out.below HJ.out.2)
      clear hxx hb1 hb2 hcell hxl hln
      cases b1 with
      | false =>
        go_wp2_with fail
        refine (HU.out _ HM1.out HP1.out).mono ?_
        rintro e w2 ⟨rfl, hb⟩
        have HB := Lib.hid (below_chain HJ.out.2 hb)
        clear hb
        go_wp2_with fail
        go_ret
        exact ⟨ret_bool (by rw [HJ.out.1, HS.out]; simp), HB.out⟩
      | true =>
        go_wp2_with fail
        refine (HU.out _ HM1.out HP1.out).mono ?_
        rintro e w2 ⟨rfl, hb⟩
        have HB := Lib.hid (below_chain HJ.out.2 hb)
        have HTx := Lib.hid (fun cap2 => Texts.below (HTk.out cap2) HB.out)
        have HH := Lib.hid HJ.out.1
        clear hb HU HJ HM1 HP1 m0
        go_wp2_with fail
        refine (HSt.out _ _ (HTx.out _)).mono ?_
        rintro e w3 ⟨rfl, hb⟩
        have HB2 := Lib.hid (below_chain HB.out hb)
        clear hb HSt HTx HB
        cases b2 with
        | true =>
          go_wp2_with fail
          go_ret
          exact ⟨ret_bool (by rw [HH.out, HS.out]; simp), HB2.out⟩
        | false =>
          have HK : Hid (hostsB [] G = hostsB (G.take (k + 1)) (G.drop (k + 1)) ∧ Below w.heap.size w w3) := Lib.hid ⟨by rw [HH.out, HS.out]; simp, HB2.out⟩
          clear HH HS HB2
          go_wp2_with fail
          go_roundw
          case rel => exact ⟨k + 1, by omega, by go_num, HK⟩
          case measure => simp [intOf]; omega
    · have hki : ¬ (k : Int) < (G.length : Int) := by omega
      obtain rfl : k = G.length := by omega
      have HV : Hid (hostsB [] G = true) := Lib.hid (by
        have := HJ.out.1
        rw [List.take_length, List.drop_length] at this
        rw [this]
        unfold hostsB
        rfl)
      have HB := Lib.hid HJ.out.2
      clear HJ
      go_wp2_with fail
      go_ret
      exact ⟨ret_bool HV.out.symm, HB.out⟩
theorem clusB_prog (x : Clus) : clusB x = ((inB x.hosts.length 1 16 && hostsB [] x.hosts) && limB x) := by
  unfold clusB limB
  simp only [show TICK = 1048576 from rfl]
  generalize inB x.policy 1 4 = a0
  generalize inB x.hosts.length 1 16 = a1
  generalize inB x.conns 1 64 = a2
  generalize inB x.pending 0 256 = a3
  generalize inB x.try_ 1 1048576 = a4
  generalize inB x.eject 1 1048576 = a5
  generalize inB x.fails 1 1000 = a6
  generalize inB x.panic 0 100 = a7
  generalize hostsB [] x.hosts = a8
  cases a0 <;> cases a1 <;> cases a2 <;> cases a3 <;> cases a4 <;> cases a5 <;> cases a6 <;> cases a7 <;> cases a8 <;> rfl
def clE (ahead : List Clus) (x : Clus) : Int := if ahead.any (fun y => y.name == x.name) || !tokenB x.name 32 then 142 else if !clusB x then 143 else 0
set_option maxHeartbeats 6400000 in
theorem pclus_any (x : Clus) (hv : Value) (hx : FitClus x) (G : List Clus) (v : Value) (hG : G.length ≤ 1048576) (w : World) (hm : MaxInt w) (hp : Pow w) (hT : Texts w hv x.hosts) (hcp : CapOk hv) (hC : Cluss w v G) :
    Calls Tryz.prog 22 #[.agg #[.string (ofL x.name), .int .i64 x.policy, hv, .int .i64 x.conns, .int .i64 x.pending, .int .i64 x.try_, .int .i64 x.fails, .int .i64 x.eject, .int .i64 x.panic], v] w fun e w' => e = .returned (.int .i64 (clE G x)) ∧ Below w.heap.size w w' := by
  have ha := (Below.refl w.heap.size w).alloc (Nat.le_refl _) (.cells #[.string (ofL x.name), .int .i64 x.policy, hv, .int .i64 x.conns, .int .i64 x.pending, .int .i64 x.try_, .int .i64 x.fails, .int .i64 x.eject, .int .i64 x.panic] 38)
  have HT := Lib.hid (Texts.below hT ha)
  have HC := Lib.hid (hC.below ha)
  have HM := Lib.hid (PUnder.MaxInt.below hm ha)
  have HP := Lib.hid (hp.below ha)
  have H0 := Lib.hid (fun w => ptok_any (ofL x.name) (by rw [ofL_size]; exact hx.name) 32 (by decide) w)
  rw [toL_ofL] at H0
  have H1 := Lib.hid (fun w h => pstandsC_any x.name v G (by omega) w h)
  have H2 := Lib.hid (fun w h1 h2 h3 => phosts_any x.hosts hv hx.hosts w h1 h2 h3 hcp)
  have H3 := Lib.hid (fun w => plim_any x hv w)
  obtain ⟨r0, hr0⟩ : ∃ r, r = tokenB x.name 32 := ⟨_, rfl⟩
  obtain ⟨r1, hr1⟩ : ∃ r, r = G.any (fun y => y.name == x.name) := ⟨_, rfl⟩
  obtain ⟨r2, hr2⟩ : ∃ r, r = (inB x.hosts.length 1 16 && hostsB [] x.hosts) := ⟨_, rfl⟩
  obtain ⟨r3, hr3⟩ : ∃ r, r = limB x := ⟨_, rfl⟩
  have HV : Hid (clE G x = if r1 || !r0 then 142 else if !(r2 && r3) then 143 else 0) := Lib.hid (by unfold clE; rw [clusB_prog, hr0, hr1, hr2, hr3])
  rw [← hr0] at H0
  rw [← hr1] at H1
  rw [← hr2] at H2
  rw [← hr3] at H3
  have K0 := Lib.hid (Ob.start w 38 #[.string (ofL x.name), .int .i64 x.policy, hv, .int .i64 x.conns, .int .i64 x.pending, .int .i64 x.try_, .int .i64 x.fails, .int .i64 x.eject, .int .i64 x.panic])
  clear hr0 hr1 hr2 hr3 hT hC hm hp ha hx hG hcp
  go_enter Tryz.func22, Tryz.ntmps22
  go_wp2_with fail
  refine (H0.out _).mono ?_
  rintro e w1 ⟨rfl, rfl⟩
  clear H0
  cases r0 with
  | false =>
    clear H1 H2 H3
    go_wp2_with fail
    go_ret
    exact ⟨ret_int (by rw [HV.out]; cases r1 <;> rfl), K0.out.below⟩
  | true =>
  go_wp2_with fail
  refine (H1.out _ HC.out).mono ?_
  rintro e w1 ⟨rfl, hb⟩
  have HT1 := Lib.hid (Texts.below HT.out hb)
  have HM1 := Lib.hid (PUnder.MaxInt.below HM.out hb)
  have HP1 := Lib.hid (HP.out.below hb)
  have K1 := Lib.hid (K0.out.call hb)
  clear hb HT HC HM HP K0 H1
  have m2 : w1.cell? ⟨w.heap.size, 2, none⟩ = some hv := K1.out.box.cell 2
  cases r1 with
  | true =>
    clear H2 H3
    go_wp2_with fail
    go_ret
    exact ⟨ret_int (by rw [HV.out]; rfl), K1.out.below⟩
  | false =>
  go_wp2_with fail
  refine (H2.out _ HM1.out HP1.out HT1.out).mono ?_
  rintro e w2 ⟨rfl, hb⟩
  have K2 := Lib.hid (K1.out.call hb)
  clear hb HT1 HM1 HP1 K1 H2 m2
  have m0 : w2.cell? ⟨w.heap.size, 0, none⟩ = some (.string (ofL x.name)) := K2.out.box.cell 0
  have m1 : w2.cell? ⟨w.heap.size, 1, none⟩ = some (.int .i64 x.policy) := K2.out.box.cell 1
  have m2 : w2.cell? ⟨w.heap.size, 2, none⟩ = some (hv) := K2.out.box.cell 2
  have m3 : w2.cell? ⟨w.heap.size, 3, none⟩ = some (.int .i64 x.conns) := K2.out.box.cell 3
  have m4 : w2.cell? ⟨w.heap.size, 4, none⟩ = some (.int .i64 x.pending) := K2.out.box.cell 4
  have m5 : w2.cell? ⟨w.heap.size, 5, none⟩ = some (.int .i64 x.try_) := K2.out.box.cell 5
  have m6 : w2.cell? ⟨w.heap.size, 6, none⟩ = some (.int .i64 x.fails) := K2.out.box.cell 6
  have m7 : w2.cell? ⟨w.heap.size, 7, none⟩ = some (.int .i64 x.eject) := K2.out.box.cell 7
  have m8 : w2.cell? ⟨w.heap.size, 8, none⟩ = some (.int .i64 x.panic) := K2.out.box.cell 8
  cases r2 with
  | false =>
    clear H3
    go_wp2_with fail
    go_ret
    exact ⟨ret_int (by rw [HV.out]; rfl), K2.out.below⟩
  | true =>
  go_wp2_with fail
  refine (H3.out _).mono ?_
  rintro e w3 ⟨rfl, hb⟩
  have K3 := Lib.hid (K2.out.call hb)
  clear hb H3 K2 m0 m1 m2 m3 m4 m5 m6 m7 m8
  cases r3 with
  | false =>
    go_wp2_with fail
    go_ret
    exact ⟨ret_int (by rw [HV.out]; rfl), K3.out.below⟩
  | true =>
    go_wp2_with fail
    go_ret
    exact ⟨ret_int (by rw [HV.out]; rfl), K3.out.below⟩
end Go.Proofs.YtfihehobkbfmiaaGreatDoor.PCfgC
