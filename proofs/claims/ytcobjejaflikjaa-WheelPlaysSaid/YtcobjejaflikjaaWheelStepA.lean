/- Layer 2: the wheel beside the document's plain one: time passes. -/
import Derived.Test.YtcobjejaflikjaaWheelSame
namespace Go.Proofs.Ytcobjejaflikjaa.WStepA
open Go.RowKit Go.Maps WMath WPure Mem Step WObj WOrd WMm WLib WDel WOps WSet WMin WNext WSort WAdv AppendRow WOne WOneF WRef WRefD WRefC WRefS WRefA WStep WStepN WSame

theorem rising_ext : ∀ {X Y : List Tm}, Rising X → Rising Y → (∀ t, t ∈ X ↔ t ∈ Y) → X = Y
  | [], [], _, _, _ => rfl
  | [], y :: Y, _, _, h => by have := (h y).2 (by simp); cases this
  | x :: X, [], _, _, h => by have := (h x).1 (by simp); cases this
  | x :: X, y :: Y, hX, hY, h => by
    obtain ⟨x1, x2⟩ := List.pairwise_cons.1 hX
    obtain ⟨y1, y2⟩ := List.pairwise_cons.1 hY
    have hxy : x = y := by
      rcases List.mem_cons.1 ((h x).1 (by simp)) with e | e
      · exact e
      · rcases List.mem_cons.1 ((h y).2 (by simp)) with e' | e'
        · exact e'.symm
        · exact absurd (ltT_trans (x1 y e') (y1 x e)) (ltT_irrefl x)
    subst hxy
    congr 1
    refine rising_ext x2 y2 fun t => ⟨fun ht => ?_, fun ht => ?_⟩
    · rcases List.mem_cons.1 ((h t).1 (by simp [ht])) with rfl | e
      · exact absurd (x1 t ht) (ltT_irrefl t)
      · exact e
    · rcases List.mem_cons.1 ((h t).2 (by simp [ht])) with rfl | e
      · exact absurd (y1 t ht) (ltT_irrefl t)
      · exact e


theorem filter_perm {A S : List Tm} (h : A.Perm S) (p : Tm → Bool) : (A.filter p).Perm (S.filter p) := h.filter _
theorem rListAt {w : World} {v : Value} {X : List Tm} (h : w.ownsRow 0 59 2 v X.length (encs X)) : ListAt w v X := by
  obtain ⟨p, cap, hv, hp⟩ := rrow_shape h
  refine ⟨p, cap, hv, fun h0 => ?_⟩
  obtain ⟨b, rfl, hb⟩ := hp h0
  exact ⟨b, rfl, rrow_at h hb, row_lt h hb⟩
theorem nilAt (w : World) : ListAt w (.slice none 0 0) [] := ⟨none, 0, rfl, fun h => absurd h (Nat.lt_irrefl 0)⟩

set_option maxRecDepth 100000 in
set_option maxHeartbeats 1600000 in
theorem step5 {W w : World} {g r : Nat} (h : St W w g r) (a b : Int) :
    Calls Try.prog 12 #[.pointer (some ⟨g, 0, none⟩), .pointer (some ⟨r, 0, none⟩), .agg #[.int .i64 5, .int .i64 a, .int .i64 b]] w fun e w' => e = .returned (.bool true) ∧ St W w' g r := by
  obtain ⟨now, S, A, v, F, G, hB⟩ := h.boxed 5 a b
  have HB := Lib.hid hB
  have HN := Lib.hid hB.nd
  obtain ⟨h3, h4, _, _, hp, _, _, hbo⟩ := hB
  have c0 := (hbo.cell 0).trans (show _ = some (Value.int .i64 5) from rfl)
  have c1 := (hbo.cell 1).trans (show _ = some (Value.int .i64 a) from rfl)
  have r0 := (h4.head.cell 0).trans (show _ = some (Value.int .i64 now) from rfl)
  have hnow := h3.bnd.1
  have HP := Lib.hid hp
  have HF := Lib.hid (f_adv h3 (a))
  clear h h3 h4 hbo hp
  go_enter Try.func12, Try.ntmps12
  go_wp2_with fail
  generalize w.alloc (.cells #[.int .i64 5, .int .i64 a, .int .i64 b] 31) = W1 at HB c0 c1 r0 HF ⊢
  generalize w.heap.size = bo at HB c0 c1 ⊢
  refine HF.out.mono ?_
  rintro e w2 hs
  clear HF
  rcases hs with ⟨hq, rfl, rfl⟩ | ⟨n, fv, X, F', hn, hn1, hn2, rfl, hXp, hXr, hrow, hfb, hO, hs⟩
  · have HR := Lib.hid (radv_no W1 r now v A G (a) HB.out.2.1 hq)
    have tt : ((20 : Int) == (20 : Int)) = true := rfl
    have HX := Lib.hid HB.out.st
    clear hq HB c0 c1 r0
    go_wp2_with fail
    refine HR.out.mono ?_
    rintro e w3 ⟨rfl, rfl⟩
    go_wp2_with fail
    refine (same_yes W1 _ _ [] (nilAt _) (nilAt _) (Nat.zero_le _)).mono ?_
    rintro e w3 ⟨rfl, hb⟩
    have HY := Lib.hid (HX.out.far hb)
    clear hb HX HR
    go_wp2_with fail
    go_ret
    exact ⟨rfl, HY.out⟩
  · have HH := Lib.hid (HB.out.half hO hs)
    have hfar := Lib.hid (show ∀ i, fv.ownBlock = some i → ¬ G i from fun i e hg => by
      have := HB.out.2.1.low i hg
      have := (hfb i e).2
      omega)
    have HXp := Lib.hid hXp
    have HXr := Lib.hid hXr
    have HRow := Lib.hid hrow
    have HTo := Lib.hid hn
    have HR := Lib.hid (radv_ok w2 r now v A G n HH.out.2.1 HN.out.1 HN.out.2 hn1 hn2)
    have tt : ((0 : Int) == (0 : Int)) = true := rfl
    rw [hn] at HR
    clear hXp hXr hrow hfb hO hs HB c0 c1 r0 hn
    go_wp2_with fail
    refine HR.out.mono ?_
    rintro e w3 ⟨mv, v', X2, B, G', rfl, hp2, hr2, hrow2, _, hB2, hR2, s2⟩
    have heq : X = X2 := rising_ext HXr.out hr2 (fun t => (HXp.out.mem_iff.trans (filter_perm HP.out (isDue n)).symm.mem_iff).trans hp2.symm.mem_iff)
    subst heq
    have HL := Lib.hid (listAt (s2.row HRow.out hfar.out))
    have HM := Lib.hid (rListAt hrow2)
    have hXlen : X.length ≤ 65536 := by
      have e1 := hp2.length_eq
      have e2 := List.length_filter_le (isDue n) A
      have e3 := HN.out.2
      omega
    have HX := Lib.hid (HH.out.done hR2 s2 (hB2.trans (filter_perm HP.out (isLate n)))).st
    clear hp2 hr2 hrow2 hB2 hR2 s2 HR
    go_wp2_with fail
    refine (same_yes w3 _ _ X HL.out HM.out hXlen).mono ?_
    rintro e w4 ⟨rfl, hb⟩
    have HY := Lib.hid (HX.out.far hb)
    clear hb HX
    go_wp2_with fail
    go_ret
    exact ⟨rfl, HY.out⟩

set_option maxRecDepth 100000 in
set_option maxHeartbeats 1600000 in
theorem step7 {W w : World} {g r : Nat} (h : St W w g r) (a b : Int) (ha : ¬ (a < 0 ∨ 2199023255552 < a)) :
    Calls Try.prog 12 #[.pointer (some ⟨g, 0, none⟩), .pointer (some ⟨r, 0, none⟩), .agg #[.int .i64 7, .int .i64 a, .int .i64 b]] w fun e w' => e = .returned (.bool true) ∧ St W w' g r := by
  obtain ⟨now, S, A, v, F, G, hB⟩ := h.boxed 7 a b
  have HB := Lib.hid hB
  have HN := Lib.hid hB.nd
  obtain ⟨h3, h4, _, _, hp, _, _, hbo⟩ := hB
  have c0 := (hbo.cell 0).trans (show _ = some (Value.int .i64 7) from rfl)
  have c1 := (hbo.cell 1).trans (show _ = some (Value.int .i64 a) from rfl)
  have r0 := (h4.head.cell 0).trans (show _ = some (Value.int .i64 now) from rfl)
  have hnow := h3.bnd.1
  have HP := Lib.hid hp
  have g1 : ¬ (a < 0) := fun q => ha (.inl q)
  have g2 : ¬ (2199023255552 < a) := fun q => ha (.inr q)
  have gw : IntKind.i64.wrap ((now : Int) + a) = (now : Int) + a := by rw [IntKind.wrap_i64]; omega
  clear ha
  clear h h3 h4 hbo hp
  go_enter Try.func12, Try.ntmps12
  go_wp2_with fail
  generalize w.alloc (.cells #[.int .i64 7, .int .i64 a, .int .i64 b] 31) = W1 at HB c0 c1 r0 ⊢
  generalize w.heap.size = bo at HB c0 c1 ⊢
  have HBx := Lib.hid (fun n : Nat => HB.out.far (WRef.drewN_below n (Below.refl W1.heap.size W1)))
  clear HB
  go_quiet (fail)
  go_wp2_with fail
  generalize hW : World.drewN W1 _ = W2
  have HB : Hid (Bx W W2 g r bo 7 a b now S A v F G) := by rw [← hW]; exact HBx.out _
  clear hW HBx c0 c1 r0
  refine (f_adv HB.out.1 ((now : Int) + a)).mono ?_
  rintro e w2 hs
  rcases hs with ⟨hq, rfl, rfl⟩ | ⟨n, fv, X, F', hn, hn1, hn2, rfl, hXp, hXr, hrow, hfb, hO, hs⟩
  · have HR := Lib.hid (radv_no W2 r now v A G ((now : Int) + a) HB.out.2.1 hq)
    have tt : ((20 : Int) == (20 : Int)) = true := rfl
    have HX := Lib.hid HB.out.st
    clear hq HB
    go_wp2_with fail
    refine HR.out.mono ?_
    rintro e w3 ⟨rfl, rfl⟩
    go_wp2_with fail
    refine (same_yes W2 _ _ [] (nilAt _) (nilAt _) (Nat.zero_le _)).mono ?_
    rintro e w3 ⟨rfl, hb⟩
    have HY := Lib.hid (HX.out.far hb)
    clear hb HX HR
    go_wp2_with fail
    go_ret
    exact ⟨rfl, HY.out⟩
  · have HH := Lib.hid (HB.out.half hO hs)
    have hfar := Lib.hid (show ∀ i, fv.ownBlock = some i → ¬ G i from fun i e hg => by
      have := HB.out.2.1.low i hg
      have := (hfb i e).2
      omega)
    have HXp := Lib.hid hXp
    have HXr := Lib.hid hXr
    have HRow := Lib.hid hrow
    have HTo := Lib.hid hn
    have HR := Lib.hid (radv_ok w2 r now v A G n HH.out.2.1 HN.out.1 HN.out.2 hn1 hn2)
    have tt : ((0 : Int) == (0 : Int)) = true := rfl
    rw [hn] at HR
    clear hXp hXr hrow hfb hO hs HB hn
    go_wp2_with fail
    refine HR.out.mono ?_
    rintro e w3 ⟨mv, v', X2, B, G', rfl, hp2, hr2, hrow2, _, hB2, hR2, s2⟩
    have heq : X = X2 := rising_ext HXr.out hr2 (fun t => (HXp.out.mem_iff.trans (filter_perm HP.out (isDue n)).symm.mem_iff).trans hp2.symm.mem_iff)
    subst heq
    have HL := Lib.hid (listAt (s2.row HRow.out hfar.out))
    have HM := Lib.hid (rListAt hrow2)
    have hXlen : X.length ≤ 65536 := by
      have e1 := hp2.length_eq
      have e2 := List.length_filter_le (isDue n) A
      have e3 := HN.out.2
      omega
    have HX := Lib.hid (HH.out.done hR2 s2 (hB2.trans (filter_perm HP.out (isLate n)))).st
    clear hp2 hr2 hrow2 hB2 hR2 s2 HR
    go_wp2_with fail
    refine (same_yes w3 _ _ X HL.out HM.out hXlen).mono ?_
    rintro e w4 ⟨rfl, hb⟩
    have HY := Lib.hid (HX.out.far hb)
    clear hb HX
    go_wp2_with fail
    go_ret
    exact ⟨rfl, HY.out⟩

set_option maxRecDepth 100000 in
set_option maxHeartbeats 1600000 in
theorem step7b {W w : World} {g r : Nat} (h : St W w g r) (a b : Int) (ha : a < 0 ∨ 2199023255552 < a) :
    Calls Try.prog 12 #[.pointer (some ⟨g, 0, none⟩), .pointer (some ⟨r, 0, none⟩), .agg #[.int .i64 7, .int .i64 a, .int .i64 b]] w fun e w' => e = .returned (.bool true) ∧ St W w' g r := by
  obtain ⟨now, S, A, v, F, G, hB⟩ := h.boxed 7 a b
  have HX := Lib.hid hB.st
  obtain ⟨h3, h4, _, _, hp, _, _, hbo⟩ := hB
  have c0 := (hbo.cell 0).trans (show _ = some (Value.int .i64 7) from rfl)
  have c1 := (hbo.cell 1).trans (show _ = some (Value.int .i64 a) from rfl)
  clear h h3 h4 hbo hp
  rcases ha with q | q
  · go_enter Try.func12, Try.ntmps12
    go_wp2_with fail
    go_ret
    exact ⟨rfl, HX.out⟩
  · have q0 : ¬ (a < 0) := by omega
    go_enter Try.func12, Try.ntmps12
    go_wp2_with fail
    go_ret
    exact ⟨rfl, HX.out⟩
end Go.Proofs.Ytcobjejaflikjaa.WStepA
