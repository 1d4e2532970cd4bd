/- Layer 10 of the program: may a byte stand next (fitsSize, fitsTrailer, fits). -/
import Derived.Test.YtlgohmghjffiaaaDoorChObj
import Derived.Test.YtlgohmghjffiaaaDoorPHex
import Derived.Test.YtlgohmghjffiaaaDoorPText
import Derived.Outline
import Derived.LoopTactic
import Derived.Handy
namespace Go.Proofs.YtlgohmghjffiaaaDoor.PChFit
open Go.ChangeShapes Go.WideShapes Go.ChangeAt Go.RowKit Bytes LexPure LexNum ChunkPure ChunkText ChObj Mem Step Ret Rows1 PText PTrim PToken PHex
set_option maxRecDepth 20000
/-- string([]byte{c}) -/
theorem one_text (w : World) (c : UInt8) :
    (Go.convert 31 9 (.slice (some ⟨w.heap.size, 0, none⟩) 1 1)).run Tryd.prog (w.alloc (.cells #[.int .u8 (c.toNat : Int)] 5)) = .ok (.string (ofL [c])) (w.alloc (.cells #[.int .u8 (c.toNat : Int)] 5)) :=
  run_convert_bytes_back _ 31 9 5 ⟨w.heap.size, 0, none⟩ 1 [c] Tryd.underlying31 Tryd.underlying5 Tryd.underlying9 (fun j hj => by
    match j, hj with
    | 0, _ =>
      rw [show (⟨w.heap.size, 0, none⟩ : Addr).add 0 = ⟨w.heap.size, 0, none⟩ by unfold Addr.add; simp]
      exact (Has.new w 5 #[.int .u8 (c.toNat : Int)]).cell 0)
theorem digit_say (c : UInt8) : numOk 16 (min 1 15) [c] = decide (dig c < 16) := by
  unfold numOk
  rw [show (min 1 15 : Int) = 1 from rfl]
  simp
theorem value_one (c : UInt8) : value (trim [c]) = plainB c := by
  have := all_bytes (p := fun c => value (trim [c]) == plainB c) (by decide +kernel) c
  simpa using this
theorem token_one (c : UInt8) : token [c] = markB c := by
  unfold token
  simp
theorem ext_say (c : UInt8) : extB c = decide ((c.toNat : Int) = 9 ∨ (32 ≤ (c.toNat : Int) ∧ (c.toNat : Int) ≤ 126)) := by
  have := all_bytes (p := fun c => extB c == decide ((c.toNat : Int) = 9 ∨ (32 ≤ (c.toNat : Int) ∧ (c.toNat : Int) ≤ 126))) (by decide +kernel) c
  simpa using this
theorem toNat_eq (c : UInt8) (n : UInt8) : (c.toNat : Int) = (n.toNat : Int) ↔ c = n := by
  constructor
  · intro h
    exact UInt8.toNat_inj.1 (by omega)
  · intro h; rw [h]
set_option maxHeartbeats 1600000 in
theorem pfsize_any {w : World} {F : Nat → Prop} {g : Nat} {most : Int} {r : Raw} {v : Value} (h : Cod w F g most r v) (hp : r.part = parted r.line) (hl : r.line.length ≤ 512) (c : UInt8) :
    Calls Tryd.prog 28 #[.pointer (some ⟨g, 0, none⟩), .int .u8 (c.toNat : Int)] w fun e w' => e = .returned (.bool (fitsSize r.line c)) ∧ Below w.heap.size w w' := by
  have d5 := h.c5
  have d4 := h.c4
  obtain ⟨p, cap, rfl⟩ := h.form
  have e59 : (c.toNat : Int) = 59 ↔ c = 59 := toNat_eq c 59
  rw [hp] at d5
  unfold fitsSize
  cases hpt : parted r.line with
  | true =>
    rw [hpt] at d5
    rw [if_pos rfl, ext_say]
    generalize (c.toNat : Int) = x at *
    clear h hp e59 hpt d4
    go_enter Tryd.func28, Tryd.ntmps28
    go_wp2_with fail
    all_goals
      go_ret
      refine ⟨ret_bool ?_, Below.refl _ _⟩
    all_goals by_cases e1 : x = 9 <;> by_cases e2 : 32 ≤ x <;> by_cases e3 : x ≤ 126 <;> first | (exfalso; omega) | simp [e1, e2, e3] | (subst e1; decide)
  | false =>
    rw [hpt] at d5
    rw [if_neg (by decide)]
    by_cases hc : c = 59
    · rw [if_pos hc]
      subst hc
      have hq : (!r.line.isEmpty) = decide (0 < r.line.length) := by cases r.line <;> simp
      rw [hq]
      clear h hp e59 hpt hq
      go_enter Tryd.func28, Tryd.ntmps28
      go_wp2_with fail
      go_ret
      exact ⟨rfl, Below.refl _ _⟩
    · rw [if_neg hc]
      have hx : ¬ (c.toNat : Int) = 59 := fun h => hc (e59.1 h)
      have HC := one_text w c
      have HH := Lib.hid (fun w => (phex_any (ofL [c]) (by rw [ofL_size, List.length_singleton]; decide) 1 w))
      rw [toL_ofL, digit_say] at HH
      have HB := Lib.hid ((Below.refl w.heap.size w).alloc (Nat.le_refl _) (.cells #[.int .u8 (c.toNat : Int)] 5))
      have HD := fun w' hb => Lib.hid ((h.below (w' := w') hb).c4)
      replace HD := Lib.hid HD
      generalize (c.toNat : Int) = x at *
      generalize hdd : decide (dig c < 16) = dd at *
      generalize numR 16 (min 1 15) [c] = nn at *
      clear h hp e59 hpt hc hdd
      go_enter Tryd.func28, Tryd.ntmps28
      go_wp2_with fail
      refine (HH.out _).mono ?_
      rintro e w' ⟨rfl, rfl⟩
      have d6 := (HD.out _ HB.out).out
      generalize w.alloc (.cells #[.int .u8 x] 5) = W at *
      clear HH HC HD d4 d5
      cases dd with
      | true =>
        go_wp2_with fail
        go_ret
        exact ⟨ret_bool (by rw [Bool.true_and]; exact decide_eq_decide.2 (by omega)), HB.out⟩
      | false =>
        go_wp2_with fail
        go_ret
        exact ⟨rfl, HB.out⟩
set_option maxHeartbeats 1600000 in
theorem pftrail_any {w : World} {F : Nat → Prop} {g : Nat} {most : Int} {r : Raw} {v : Value} (h : Cod w F g most r v) (hp : r.part = parted r.line) (_hl : r.line.length ≤ 512) (c : UInt8) :
    Calls Tryd.prog 29 #[.pointer (some ⟨g, 0, none⟩), .int .u8 (c.toNat : Int)] w fun e w' => e = .returned (.bool (fitsTrail r.line c)) ∧ Below w.heap.size w w' := by
  obtain ⟨p, cap, rfl⟩ := h.form
  have e58 : (c.toNat : Int) = 58 ↔ c = 58 := toNat_eq c 58
  have HC := one_text w c
  have HB := Lib.hid ((Below.refl w.heap.size w).alloc (Nat.le_refl _) (.cells #[.int .u8 (c.toNat : Int)] 5))
  have hk := h.below HB.out
  have d5 := hk.c5
  have d4 := hk.c4
  have q5 := h.c5
  have HT := Lib.hid (fun w => (ptoken_any (ofL [c]) (by rw [ofL_size, List.length_singleton]; decide) w))
  have HM := Lib.hid (fun w => (ptrim_any (ofL [c]) (by rw [ofL_size, List.length_singleton]; decide) w))
  have HV := Lib.hid (fun w => (pvalue_any (ofL (trim [c])) (by rw [ofL_size]; have := trim_length [c]; simp only [List.length_singleton] at this; unfold maxLen; omega) w))
  rw [toL_ofL, token_one] at HT
  rw [toL_ofL] at HM
  rw [toL_ofL, value_one] at HV
  rw [hp] at d5 q5
  unfold fitsTrail
  cases hpt : parted r.line with
  | true =>
    rw [hpt] at d5 q5
    rw [if_pos rfl]
    generalize (c.toNat : Int) = x at *
    clear h hk hp e58 hpt d4 HT
    go_enter Tryd.func29, Tryd.ntmps29
    go_wp2_with fail
    refine (HM.out _).mono ?_
    rintro e w1 ⟨rfl, hb1⟩
    go_wp2_with fail
    refine (HV.out _).mono ?_
    rintro e w2 ⟨rfl, hb2⟩
    go_wp2_with fail
    go_ret
    exact ⟨rfl, below_chain HB.out (below_chain hb1 hb2)⟩
  | false =>
    rw [hpt] at d5 q5
    rw [if_neg (by decide)]
    by_cases hc : c = 58
    · rw [if_pos hc]
      have hx : (c.toNat : Int) = 58 := e58.2 hc
      rw [hx] at HC HB d4 d5 ⊢
      have hq : (!r.line.isEmpty) = decide (0 < r.line.length) := by cases r.line <;> simp
      rw [hq]
      clear h hk hp e58 hpt hq HT HM HV
      go_enter Tryd.func29, Tryd.ntmps29
      go_wp2_with fail
      go_ret
      exact ⟨rfl, HB.out⟩
    · rw [if_neg hc]
      have hx : ¬ (c.toNat : Int) = 58 := fun h => hc (e58.1 h)
      generalize (c.toNat : Int) = x at *
      generalize markB c = mk at *
      clear h hk hp e58 hpt hc HM HV
      go_enter Tryd.func29, Tryd.ntmps29
      go_wp2_with fail
      refine (HT.out _).mono ?_
      rintro e w1 ⟨rfl, rfl⟩
      go_wp2_with fail
      go_ret
      exact ⟨rfl, HB.out⟩
set_option maxHeartbeats 1600000 in
theorem pfits_any {w : World} {F : Nat → Prop} {g : Nat} {r : Raw} {v : Value} {m : M} (h : Cod w F g m.most r v) (hr : Rel r m) (hl : m.line.length ≤ 512) (c : UInt8) :
    Calls Tryd.prog 23 #[.pointer (some ⟨g, 0, none⟩), .int .u8 (c.toNat : Int)] w fun e w' => e = .returned (.bool (fits m.ph m.line c)) ∧ Below w.heap.size w w' := by
  have d2 := h.c2
  have d4 := h.c4
  obtain ⟨p, cap, rfl⟩ := h.form
  have hpt : r.part = parted r.line := by rw [hr.part, hr.line]
  have HS := Lib.hid (pfsize_any h hpt (by rw [hr.line]; exact hl) c)
  have HT := Lib.hid (pftrail_any h hpt (by rw [hr.line]; exact hl) c)
  rw [hr.next] at d2
  rw [hr.line] at d4 HS HT
  generalize (c.toNat : Int) = x at *
  clear hpt h hl
  unfold fits
  cases hph : m.ph with
  | size =>
    rw [hph] at d2
    unfold phN at d2
    clear hr hph HT
    dsimp only at d2 ⊢
    rcases Nat.lt_or_ge m.line.length 64 with h1 | h1
    · have h2 : (m.line.length : Int) < 64 := by omega
      rw [decide_eq_true h1, Bool.true_and]
      go_enter Tryd.func23, Tryd.ntmps23
      go_wp2_with fail
      refine HS.out.mono ?_
      rintro e w' ⟨rfl, hb⟩
      go_wp2_with fail
      go_ret
      exact ⟨rfl, hb⟩
    · have h2 : ¬ (m.line.length : Int) < 64 := by omega
      rw [decide_eq_false (by omega), Bool.false_and]
      go_enter Tryd.func23, Tryd.ntmps23
      go_wp2_with fail
      go_ret
      exact ⟨rfl, Below.refl _ _⟩
  | trail n =>
    rw [hph] at d2
    unfold phN at d2
    clear hr hph HS
    dsimp only at d2 ⊢
    rcases Nat.lt_or_ge m.line.length 512 with h1 | h1
    · have h2 : (m.line.length : Int) < 512 := by omega
      rw [decide_eq_true h1, Bool.true_and]
      go_enter Tryd.func23, Tryd.ntmps23
      go_wp2_with fail
      refine HT.out.mono ?_
      rintro e w' ⟨rfl, hb⟩
      go_wp2_with fail
      go_ret
      exact ⟨rfl, hb⟩
    · have h2 : ¬ (m.line.length : Int) < 512 := by omega
      rw [decide_eq_false (by omega), Bool.false_and]
      go_enter Tryd.func23, Tryd.ntmps23
      go_wp2_with fail
      go_ret
      exact ⟨rfl, Below.refl _ _⟩
  | data n =>
    rw [hph] at d2
    unfold phN at d2
    clear hr hph HS HT
    dsimp only at d2 ⊢
    go_enter Tryd.func23, Tryd.ntmps23
    go_wp2_with fail
    go_ret
    exact ⟨rfl, Below.refl _ _⟩
  | after =>
    rw [hph] at d2
    unfold phN at d2
    clear hr hph HS HT
    dsimp only at d2 ⊢
    go_enter Tryd.func23, Tryd.ntmps23
    go_wp2_with fail
    go_ret
    exact ⟨rfl, Below.refl _ _⟩
  | done =>
    rw [hph] at d2
    unfold phN at d2
    clear hr hph HS HT
    dsimp only at d2 ⊢
    go_enter Tryd.func23, Tryd.ntmps23
    go_wp2_with fail
    go_ret
    exact ⟨rfl, Below.refl _ _⟩
  | bad n =>
    rw [hph] at d2
    unfold phN at d2
    clear hr hph HS HT
    dsimp only at d2 ⊢
    go_enter Tryd.func23, Tryd.ntmps23
    go_wp2_with fail
    go_ret
    exact ⟨rfl, Below.refl _ _⟩
end Go.Proofs.YtlgohmghjffiaaaDoor.PChFit
