/- Layer 2: the wheel beside the document's plain one: the first timer of both. -/
import Derived.Test.YtcobjejaflikjaaWheelStep
namespace Go.Proofs.Ytcobjejaflikjaa.WStepN
open Go.RowKit Go.Maps WMath WPure Mem Step WObj WOrd WMm WLib WDel WOps WSet WMin WNext WSort WAdv AppendRow WOne WOneF WRef WRefD WRefC WRefS WRefA WStep

theorem first_same {A S : List Tm} {m u : Tm} (hp : A.Perm S) (h : FirstOf m S) (k : FirstOf u A) : m = u :=
  ltT_total (k.2 m (hp.mem_iff.2 h.1)) (h.2 u (hp.mem_iff.1 k.1))

set_option maxRecDepth 100000 in
set_option maxHeartbeats 1600000 in
theorem step4 {W w : World} {g r : Nat} (h : St W w g r) (a b : Int) :
    Calls Try.prog 12 #[.pointer (some ⟨g, 0, none⟩), .pointer (some ⟨r, 0, none⟩), .agg #[.int .i64 4, .int .i64 a, .int .i64 b]] w fun e w' => e = .returned (.bool true) ∧ St W w' g r := by
  obtain ⟨now, S, A, v, F, G, hB⟩ := h.boxed 4 a b
  have HB := Lib.hid hB
  have HF := Lib.hid (f_next hB.1)
  clear h hB
  go_enter Try.func12, Try.ntmps12
  go_wp2_with fail
  generalize w.alloc (.cells #[.int .i64 4, .int .i64 a, .int .i64 b] 31) = W1 at HB HF ⊢
  generalize w.heap.size = bo at HB ⊢
  refine HF.out.mono ?_
  rintro e w2 ⟨he, _, hb⟩
  have HB2 := Lib.hid (HB.out.far hb)
  have HB2n := Lib.hid HB2.out.nd
  clear hb HF
  rcases he with ⟨m, hm, rfl⟩ | ⟨hS, rfl⟩
  · have HM := Lib.hid hm
    clear hm
    go_wp2_with fail
    have HR := Lib.hid (rfirst_any _ r now v A G (HB2.out.2.1.far (Step.alloc w2 (.cells #[.int .i64 m.1, .int .i64 m.2] 42) (fun _ => False)) (fun _ _ h => h)) (Nat.le_trans HB2n.out.2 (by omega)))
    have hbx := Has.new w2 42 #[.int .i64 m.1, .int .i64 m.2]
    have HB3 := Lib.hid (HB2.out.far ((Below.refl w2.heap.size w2).alloc (Nat.le_refl _) (.cells #[.int .i64 m.1, .int .i64 m.2] 42)))
    generalize w2.alloc (.cells #[.int .i64 m.1, .int .i64 m.2] 42) = W3 at HR hbx HB3 ⊢
    generalize w2.heap.size = bt at hbx ⊢
    refine HR.out.mono ?_
    rintro e w4 ⟨hs, hb⟩
    have HB4 := Lib.hid (HB3.out.far hb)
    have hbx := hbx.below hb hbx.lt
    have t0 := (hbx.cell 0).trans (show _ = some (Value.int .i64 (m.1 : Int)) from rfl)
    have t1 := (hbx.cell 1).trans (show _ = some (Value.int .i64 (m.2 : Int)) from rfl)
    have hB := HB4.out
    obtain ⟨_, h4, _, _, hp, _, _, _⟩ := hB
    rcases hs with ⟨k, u, hk, hu, rfl⟩ | ⟨hA, _⟩
    · obtain rfl := first_same hp HM.out hu
      obtain ⟨hkl, _⟩ := List.getElem?_eq_some_iff.1 hk
      obtain ⟨bb, cap, rfl, hb0⟩ : ∃ b cap, v = .slice (some ⟨b, 0, none⟩) A.length cap ∧ v.ownBlock = some b := by
        rcases h4.row.2 with ⟨_, h0⟩ | ⟨b, cap, _, rfl, _⟩
        · omega
        · exact ⟨b, cap, rfl, rfl⟩
      have c1 := (h4.head.cell 1).trans (show _ = some (Value.slice (some ⟨bb, 0, none⟩) A.length cap) from rfl)
      obtain ⟨d0, d1⟩ := rrow_at h4.row hb0 k m hk
      have g5 : ¬ ((k : Int) < 0) := by omega
      have g5b : decide ((k : Int) < 0) = false := decide_eq_false g5
      have g6 : (0 : Int) ≤ (k : Int) := by omega
      have g7 : (k : Int) < (A.length : Int) := by omega
      have tt : ((m.1 : Int) == (m.1 : Int)) = true := beq_self_eq_true _
      have tu : ((m.2 : Int) == (m.2 : Int)) = true := beq_self_eq_true _
      have HX := Lib.hid (fun n : Nat => HB4.out.st.far (WRef.drewN_below n (Below.refl w4.heap.size w4)))
      clear h4 hp hk hu hb0 hbx hb HR HB HB2 HB3 HB2n
      go_wp2_with fail
      go_quiet (fail)
      go_wp2_with fail
      go_ret
      exact ⟨rfl, HX.out _⟩
    · rw [hA] at hp
      have := hp.mem_iff.2 HM.out.1
      cases this
  · have HSn := Lib.hid hS
    clear hS
    go_wp2_with fail
    have HR := Lib.hid (rfirst_any _ r now v A G (HB2.out.2.1.far (Step.alloc w2 (.cells #[.int .i64 0, .int .i64 0] 42) (fun _ => False)) (fun _ _ h => h)) (Nat.le_trans HB2n.out.2 (by omega)))
    have hbx := Has.new w2 42 #[.int .i64 0, .int .i64 0]
    have HB3 := Lib.hid (HB2.out.far ((Below.refl w2.heap.size w2).alloc (Nat.le_refl _) (.cells #[.int .i64 0, .int .i64 0] 42)))
    generalize w2.alloc (.cells #[.int .i64 0, .int .i64 0] 42) = W3 at HR hbx HB3 ⊢
    generalize w2.heap.size = bt at hbx ⊢
    refine HR.out.mono ?_
    rintro e w4 ⟨hs, hb⟩
    have HB4 := Lib.hid (HB3.out.far hb)
    have hbx := hbx.below hb hbx.lt
    have t0 := (hbx.cell 0).trans (show _ = some (Value.int .i64 0) from rfl)
    have t1 := (hbx.cell 1).trans (show _ = some (Value.int .i64 0) from rfl)
    rcases hs with ⟨k, u, hk, hu, _⟩ | ⟨_, rfl⟩
    · have := HB4.out.2.2.2.2.1.mem_iff.1 hu.1
      rw [HSn.out] at this
      cases this
    · clear hbx hb HR HB HB2 HB3 HB2n
      go_wp2_with fail
      go_ret
      exact ⟨rfl, HB4.out.st⟩
end Go.Proofs.Ytcobjejaflikjaa.WStepN
