/- Every bucket, every script of takings and questions, answers as the document reckons: BucketPlays returns true. No condition. -/
import Derived.Test.YtlajneljcmaiiaaBucketOne
import Derived.Test.YtlajneljcmaiiaaBucketRefO
import Derived.Test.YtlajneljcmaiiaaRead
namespace Go.Proofs.Ytlajneljcmaiiaa.BucketPlaysL
open Go.ChangeShapes Go.WideShapes Go.ChangeAt Go.RowKit BucketPure BucketObj BucketOps BucketRef BucketRefO BucketOne Rdg Mem
set_option linter.unusedVariables false
/-- the steps asked for lie where the list points: three numbers each -/
def Ops (w : World) (A : Option Addr) (n : Nat) : Prop :=
  0 < n → ∃ b o : Nat, A = some ⟨b, o, none⟩ ∧ b < w.heap.size ∧ ∀ i, i < n → ∃ (x y z : Int), w.cell? ⟨b, o + i * 3, none⟩ = some (.int .i64 x) ∧ w.cell? ⟨b, o + i * 3 + 1, none⟩ = some (.int .i64 y) ∧ w.cell? ⟨b, o + i * 3 + 2, none⟩ = some (.int .i64 z) ∧
    y ≤ 9223372036854775807
theorem ops_read {H : Type} {enc : TypeId × Value → H} {w : World} {base : Nat} {v : Value} {d : DataW H} {p : List MemPlace} (hv : Value.okWide Try.prog w .any base 22 v) (h : DataW.Trod enc Try.prog w 0 (fun _ => true) true 22 v d p) :
    ∃ A n c, v = .slice A n c ∧ n ≤ maxLen ∧ Ops w A n := by
  have hC : Try.prog.cellsOf 25 = 3 := by kernel_rfl
  obtain ⟨A, n, c, rfl⟩ := okWide_slice Try.underlying22 hv
  obtain ⟨A', n', c', D, S, h1, h2, h3, h4, h5⟩ := (rd_of h).slice Try.underlying22 (by rw [hC]; decide)
  simp only [Value.cells, List.cons.injEq, and_true, Value.slice.injEq] at h1
  obtain ⟨rfl, rfl, rfl⟩ := h1
  refine ⟨_, _, _, rfl, Nat.le_trans h2 h3, fun hn => ?_⟩
  obtain ⟨b, o, rfl, hb, h5⟩ := h5 hn
  refine ⟨b, o, rfl, hb, fun i hi => ?_⟩
  obtain ⟨xs, di, _, hl, hc, hr⟩ := h5 i hi
  obtain ⟨u0, _, _, g0, _, _, r0⟩ := hr.part Try.underlying25 (by kernel_rfl) hC 0 _ rfl
  obtain ⟨u1, _, _, g1, _, _, r1⟩ := hr.part Try.underlying25 (by kernel_rfl) hC 1 _ rfl
  obtain ⟨u2, _, _, g2, _, _, r2⟩ := hr.part Try.underlying25 (by kernel_rfl) hC 2 _ rfl
  obtain ⟨x, e0, _, _⟩ := r0.int Try.underlying3
  obtain ⟨y, e1, _, wy⟩ := r1.int Try.underlying3
  obtain ⟨z, e2, _, _⟩ := r2.int Try.underlying3
  obtain rfl : u0 = .int .i64 x := by simpa using e0
  obtain rfl : u1 = .int .i64 y := by simpa using e1
  obtain rfl : u2 = .int .i64 z := by simpa using e2
  have c0 := hc 0 _ g0
  have c1 := hc 1 _ g1
  have c2 := hc 2 _ g2
  rw [hC] at c0 c1 c2
  exact ⟨x, y, z, c0, by rw [Nat.add_assoc]; exact c1, by rw [Nat.add_assoc]; exact c2, (bounds_i64 wy).2⟩
/-- both buckets are the same -/
def St (w0 : World) (gd ge : Nat) (w : World) : Prop := ∃ b : B, Two w0 gd ge 51 53 w b b
/-- the time at which the bucket is made -/
def Start (w : World) (A : Option Addr) (n : Nat) (z : Int) : Prop := (n = 0 ∧ z = 0) ∨ (0 < n ∧ ∃ b o : Nat, A = some ⟨b, o, none⟩ ∧ b < w.heap.size ∧ w.cell? ⟨b, o + 1, none⟩ = some (.int .i64 z))
theorem start_any {w : World} {A : Option Addr} {n : Nat} (hO : Ops w A n) : ∃ z, Start w A n z := by
  rcases Nat.eq_zero_or_pos n with h | h
  · exact ⟨0, .inl ⟨h, rfl⟩⟩
  · obtain ⟨b, o, e, hb, hc⟩ := hO h
    obtain ⟨x, y, z, _, h2, _⟩ := hc 0 h
    exact ⟨y, .inr ⟨h, b, o, e, hb, by simpa using h2⟩⟩
set_option maxHeartbeats 4000000 in
set_option maxRecDepth 100000 in
theorem walkOut (m f e : Int) (A : Option Addr) (n c : Nat) (hn : n ≤ maxLen) (W : World) (hO : Ops W A n) (z : Int) (hz : Start W A n z) (hE : newE m f e z ≠ 0) :
    Calls Try.prog 3 #[.int .i64 m, .int .i64 f, .int .i64 e, .slice A n c] W fun e w' => e = .returned (.bool true) ∧ Below W.heap.size W w' := by
  have tt : (newE m f e z != newE m f e z) = false := bne_self_eq_false _
  have tu : (newE m f e z != 0) = true := by simpa using hE
  have HE := Lib.hid hE
  unfold maxLen at hn
  clear hE hO
  rcases hz with ⟨rfl, rfl⟩ | ⟨h0, b, o, rfl, hb, hc⟩
  all_goals
    go_enter Try.func3, Try.ntmps3
    go_wp2_with fail
    refine (anchor_any _).mono ?_
    rintro x wa ⟨rfl, hbe⟩
    try have hc := (hbe.cell (p := ⟨b, o + 1, none⟩) hb).trans hc
    go_wp2_with fail
    refine (new_bad _ _ _ _ HE.out _).mono ?_
    rintro x wb ⟨rfl, rfl⟩
    go_wp2_with fail
    refine (rnew_bad _ _ _ _ HE.out _).mono ?_
    rintro x wb ⟨rfl, rfl⟩
    generalize newE m f e _ = E at *
    go_wp2_with fail
    go_ret
    exact ⟨rfl, hbe⟩
set_option maxHeartbeats 4000000 in
set_option maxRecDepth 100000 in
theorem walkIn (m f e : Int) (A : Option Addr) (n c : Nat) (hn : n ≤ maxLen) (W : World) (hO : Ops W A n) (z : Int) (hz : Start W A n z) (hE : newE m f e z = 0) :
    Calls Try.prog 3 #[.int .i64 m, .int .i64 f, .int .i64 e, .slice A n c] W fun e w' => e = .returned (.bool true) ∧ Below W.heap.size W w' := by
  obtain ⟨f1, f2, f3, f4, f5⟩ := newE_ok hE
  have HOK := Lib.hid (full_ok (m := m) (f := f) (e := e) (now := z) (decide_eq_true f1) (decide_eq_true f2) (decide_eq_true f3) f4 f5)
  have HE := Lib.hid hE
  have HO := Lib.hid hO
  unfold maxLen at hn
  clear hE hO f1 f2 f3 f4 f5
  rcases hz with ⟨rfl, rfl⟩ | ⟨h0, b, o, rfl, hb, hc⟩
  all_goals
    go_enter Try.func3, Try.ntmps3
    go_wp2_with fail
    refine (anchor_any _).mono ?_
    rintro x wa ⟨rfl, hbe⟩
    try have hc := (hbe.cell (p := ⟨b, o + 1, none⟩) hb).trans hc
    go_wp2_with fail
    refine (new_ok _ _ _ _ HE.out _).mono ?_
    rintro x wb ⟨rfl, rfl⟩
    go_wp2_with fail
    refine (rnew_ok _ _ _ _ HE.out _).mono ?_
    rintro x wb ⟨rfl, rfl⟩
  · have T1 : Two W wa.heap.size (wa.heap.size + 1) 51 53 _ (full m f e 0) (full m f e 0) := Two.made hbe HOK.out
    have S1 : Hid (St W wa.heap.size (wa.heap.size + 1) _) := Lib.hid ⟨_, T1⟩
    clear T1 hbe HE HOK
    rw [show (wa.alloc (.cells #[.int .i64 m, .int .i64 f, .int .i64 e, .int .i64 m, .int .i64 0, .int .i64 0] 51)).heap.size = wa.heap.size + 1 by simp]
    generalize ((wa.alloc _).alloc _) = wb at *
    generalize wa.heap.size = ga at *
    generalize ga + 1 = gb at *
    go_wp2_with fail
    go_loopw [67] (fun i wr => i = .int .i64 0 ∧ Hid (St W ga gb wr)) (fun _ _ => 0)
    case atStart => exact ⟨rfl, S1⟩
    case round =>
      obtain ⟨rfl, hI⟩ := hrel
      obtain ⟨bb, T⟩ := hI.out
      go_wp2_with fail
      go_ret
      exact ⟨rfl, T.one.below⟩
  · clear hc hb h0
    have T1 : Two W wa.heap.size (wa.heap.size + 1) 51 53 _ (full m f e z) (full m f e z) := Two.made hbe HOK.out
    have S1 : Hid (St W wa.heap.size (wa.heap.size + 1) _) := Lib.hid ⟨_, T1⟩
    clear T1 hbe HE HOK
    rw [show (wa.alloc (.cells #[.int .i64 m, .int .i64 f, .int .i64 e, .int .i64 m, .int .i64 z, .int .i64 z] 51)).heap.size = wa.heap.size + 1 by simp]
    generalize ((wa.alloc _).alloc _) = wb at *
    generalize wa.heap.size = ga at *
    generalize ga + 1 = gb at *
    go_wp2_with fail
    go_loopw [67] (fun i wr => ∃ k : Nat, k ≤ n ∧ i = .int .i64 k ∧ Hid (St W ga gb wr)) (fun i _ => n - (intOf i).toNat)
    case atStart => exact ⟨0, by omega, rfl, S1⟩
    case round =>
      obtain ⟨k, hk, rfl, hI⟩ := hrel
      obtain ⟨bb, T⟩ := hI.out
      clear hI S1
      by_cases hlt : k < n
      · have hki : (k : Int) < (n : Int) := by omega
        obtain ⟨b2, o2, e2, hb2, hcell⟩ := HO.out (by omega)
        injection e2 with e2
        injection e2 with e2 e3
        subst e2
        subst e3
        obtain ⟨x, p, q, c0, c1, c2, hp⟩ := hcell k hlt
        have c0 : wr.cell? ⟨b, o + k * 3, none⟩ = some (.int .i64 x) := (T.one.below.cell (p := ⟨b, o + k * 3, none⟩) hb2).trans c0
        have c1 : wr.cell? ⟨b, o + k * 3 + 1, none⟩ = some (.int .i64 p) := (T.one.below.cell (p := ⟨b, o + k * 3 + 1, none⟩) hb2).trans c1
        have c2 : wr.cell? ⟨b, o + k * 3 + 2, none⟩ = some (.int .i64 q) := (T.one.below.cell (p := ⟨b, o + k * 3 + 2, none⟩) hb2).trans c2
        clear hcell hb2 hp
        by_cases x1 : x = 1
        · subst x1
          have hA := take_any ga bb p q T.one.ok
          have hB := rtake_any gb bb p q T.one.ok
          have hok2 := takeB_ok T.one.ok p q
          have HA := Lib.hid hA
          have HB := Lib.hid hB
          have HK := Lib.hid hok2
          clear hA hB hok2
          have T1 := T.alloc (.cells #[.int .i64 1, .int .i64 p, .int .i64 q] 25)
          have P1 := Has.new wr 25 #[.int .i64 1, .int .i64 p, .int .i64 q]
          have nga : wr.heap.size ≠ ga := fun e => by have := T.one.bk.lt; omega
          have ngb : wr.heap.size ≠ gb := fun e => by have := T.two.bk.lt; omega
          go_wp2_with fail
          clear c0 c1 c2 T
          generalize (wr.alloc _) = wq at *
          generalize wr.heap.size = go at *
          generalize takeR bb p q = rv at *
          generalize passE bb p = ev at *
          generalize takeB bb p q = nb at *
          refine (HA.out _ T1.one.bk).mono ?_
          rintro u w2 ⟨rfl, h', hg⟩
          have T2 := T1.stepA h' hg HK.out
          have P2 := P1.grown hg (fun e => nga (Option.some.inj e))
          have p1 := P2.cell 1
          have p2 := P2.cell 2
          clear h' hg T1 P1 HA
          go_wp2_with fail
          refine (HB.out _ T2.two.bk).mono ?_
          rintro u w3 ⟨rfl, h', hg⟩
          have T3 := T2.stepB h' hg HK.out
          have I3 : Hid (St W ga gb w3) := Lib.hid ⟨_, T3⟩
          clear h' hg T2 P2 p1 p2 HB T3
          have t1 : (rv != rv) = false := bne_self_eq_false _
          have t2 : (ev != ev) = false := bne_self_eq_false _
          go_wp2_with fail
          go_roundw
          case rel => exact ⟨k + 1, by omega, by go_num, I3⟩
          case measure => simp [intOf]; omega
        · by_cases x2 : x = 2
          · subst x2
            have hA := tokens_any ga bb p T.one.ok
            have hB := count_any gb bb p T.one.ok
            have hok2 := passB_ok T.one.ok p
            have HA := Lib.hid hA
            have HB := Lib.hid hB
            have HK := Lib.hid hok2
            clear hA hB hok2
            have T1 := T.alloc (.cells #[.int .i64 2, .int .i64 p, .int .i64 q] 25)
            have P1 := Has.new wr 25 #[.int .i64 2, .int .i64 p, .int .i64 q]
            have nga : wr.heap.size ≠ ga := fun e => by have := T.one.bk.lt; omega
            have ngb : wr.heap.size ≠ gb := fun e => by have := T.two.bk.lt; omega
            go_wp2_with fail
            clear c0 c1 c2 T
            generalize (wr.alloc _) = wq at *
            generalize wr.heap.size = go at *
            generalize tokR bb p = rv at *
            generalize passE bb p = ev at *
            generalize passB bb p = nb at *
            refine (HA.out _ T1.one.bk).mono ?_
            rintro u w2 ⟨rfl, h', hg⟩
            have T2 := T1.stepA h' hg HK.out
            have P2 := P1.grown hg (fun e => nga (Option.some.inj e))
            have p1 := P2.cell 1
            have p2 := P2.cell 2
            clear h' hg T1 P1 HA
            go_wp2_with fail
            refine (HB.out _ T2.two.bk).mono ?_
            rintro u w3 ⟨rfl, h', hg⟩
            have T3 := T2.stepB h' hg HK.out
            have I3 : Hid (St W ga gb w3) := Lib.hid ⟨_, T3⟩
            clear h' hg T2 P2 p1 p2 HB T3
            have t1 : (rv != rv) = false := bne_self_eq_false _
            have t2 : (ev != ev) = false := bne_self_eq_false _
            go_wp2_with fail
            go_roundw
            case rel => exact ⟨k + 1, by omega, by go_num, I3⟩
            case measure => simp [intOf]; omega
          · by_cases x3 : x = 3
            · subst x3
              have hA := wait_any ga bb p q T.one.ok
              have hB := rwait_any gb bb p q T.one.ok
              have hok2 := passB_ok T.one.ok p
              have HA := Lib.hid hA
              have HB := Lib.hid hB
              have HK := Lib.hid hok2
              clear hA hB hok2
              have T1 := T.alloc (.cells #[.int .i64 3, .int .i64 p, .int .i64 q] 25)
              have P1 := Has.new wr 25 #[.int .i64 3, .int .i64 p, .int .i64 q]
              have nga : wr.heap.size ≠ ga := fun e => by have := T.one.bk.lt; omega
              have ngb : wr.heap.size ≠ gb := fun e => by have := T.two.bk.lt; omega
              go_wp2_with fail
              clear c0 c1 c2 T
              generalize (wr.alloc _) = wq at *
              generalize wr.heap.size = go at *
              generalize waitR bb p q = rv at *
              generalize passE bb p = ev at *
              generalize passB bb p = nb at *
              refine (HA.out _ T1.one.bk).mono ?_
              rintro u w2 ⟨rfl, h', hg⟩
              have T2 := T1.stepA h' hg HK.out
              have P2 := P1.grown hg (fun e => nga (Option.some.inj e))
              have p1 := P2.cell 1
              have p2 := P2.cell 2
              clear h' hg T1 P1 HA
              go_wp2_with fail
              refine (HB.out _ T2.two.bk).mono ?_
              rintro u w3 ⟨rfl, h', hg⟩
              have T3 := T2.stepB h' hg HK.out
              have I3 : Hid (St W ga gb w3) := Lib.hid ⟨_, T3⟩
              clear h' hg T2 P2 p1 p2 HB T3
              have t1 : (rv != rv) = false := bne_self_eq_false _
              have t2 : (ev != ev) = false := bne_self_eq_false _
              go_wp2_with fail
              go_roundw
              case rel => exact ⟨k + 1, by omega, by go_num, I3⟩
              case measure => simp [intOf]; omega
            · have I3 : Hid (St W ga gb (wr.alloc (.cells #[.int .i64 x, .int .i64 p, .int .i64 q] 25))) := Lib.hid ⟨_, T.alloc _⟩
              clear T
              go_wp2_with fail
              go_roundw
              case rel => exact ⟨k + 1, by omega, by go_num, I3⟩
              case measure => simp [intOf]; omega
      · go_wp2_with fail
        go_ret
        exact ⟨rfl, T.one.below⟩
theorem walk {H : Type} {enc : TypeId × Value → H} {W : World} (m : Int) (_ : (Lit.int .i64 m).wf = true) (f : Int) (_ : (Lit.int .i64 f).wf = true) (e : Int) (_ : (Lit.int .i64 e).wf = true) {base : Nat} (v3 : Value) (d3 : DataW H) (p3 : List MemPlace) (k3 : Value.okWide Try.prog W .any base 22 v3)
    (h3 : DataW.Trod enc Try.prog W 0 (fun _ => true) true 22 v3 d3 p3) (_l3 : ∀ x ∈ p3, x.block < W.heap.size) :
    Calls Try.prog 3 #[.int .i64 m, .int .i64 f, .int .i64 e, v3] W fun e w' => e = .returned (.bool true) ∧ Below W.heap.size W w' := by
  obtain ⟨A, n, c, rfl, hn, hO⟩ := ops_read k3 h3
  obtain ⟨z, hz⟩ := start_any hO
  by_cases hE : newE m f e z = 0
  · exact walkIn m f e A n c hn W hO z hz hE
  · exact walkOut m f e A n c hn W hO z hz hE

/-! ### the row's step -/
set_option maxRecDepth 100000 in
theorem lifted (os : Os) (started : os.Started) (H : Type) (enc : TypeId × Value → H) :
    ReturnsInHanded {} Try.checked os 3 .any (Rows.bucketPlaysSpec.pre6 enc Try.prog Try.f3 Rows.bucketPlaysRow.domain false) (Rows.bucketPlaysSpec.post enc Try.prog Try.f3 false true false false) := by
  refine returnsInHanded_of_change_sized (C := Try.checked) LawBase.own started (by kernel_rfl) Try.func3
    (ChangeSpec.witness6 (enc := enc) (C := Try.checked) false ⟨#[], #[.int .i64 0, .int .i64 0, .int .i64 0, .slice none 0 0], []⟩ 8 (by kernel_rfl) (by kernel_rfl) (by kernel_rfl) (by kernel_rfl)) ?_
  intro W base args ds gs before hval0 hW hcnd hsz0 _
  have hval : ∀ (j : Nat) t v, Try.f3.params[j]? = some t → args[j]? = some v → Value.okWide Try.prog W .any base t v := hval0
  have hW' := hW
  obtain ⟨p, q, hA0, hV, rfl, hfz, hnd⟩ := hW
  have hA : DataW.TrodAll enc Try.prog W 0 (fun _ => true) true Try.f3.params.toList args.toList ds p := hA0
  rw [Try.params3] at hA hval
  have hlt : ∀ x ∈ p ++ q, x.block < W.heap.size := fun x hx => by simpa using hW'.lt x hx
  obtain ⟨v0, vs0, d0, ds0, p0, q0, hargs, rfl, rfl, h0, r0⟩ := trodAll_cons hA
  obtain ⟨v1, vs1, d1, ds1, p1, q1, rfl, rfl, rfl, h1, r1⟩ := trodAll_cons r0
  obtain ⟨v2, vs2, d2, ds2, p2, q2, rfl, rfl, rfl, h2, r2⟩ := trodAll_cons r1
  obtain ⟨v3, vs3, d3, ds3, p3, q3, rfl, rfl, rfl, h3, r3⟩ := trodAll_cons r2
  obtain ⟨rfl, rfl, rfl⟩ := trodAll_nil r3
  obtain rfl : args = #[v0, v1, v2, v3] := by cases args; simp_all
  obtain ⟨rfl, rfl⟩ := trodVars_none hV
  obtain ⟨a0, rfl, rfl, rfl, w0⟩ := open_int Try.underlying3 (hval 0 3 v0 rfl rfl) h0
  obtain ⟨a1, rfl, rfl, rfl, w1⟩ := open_int Try.underlying3 (hval 1 3 v1 rfl rfl) h1
  obtain ⟨a2, rfl, rfl, rfl, w2⟩ := open_int Try.underlying3 (hval 2 3 v2 rfl rfl) h2
  have l3 : ∀ x ∈ p3, x.block < W.heap.size := fun x hx => hlt x (by simp [hx])
  refine (walk (enc := enc) (W := W) a0 w0 a1 w1 a2 w2 v3 d3 p3 (hval 3 22 v3 rfl rfl) h3 l3).mono fun e W' ⟨he, hb⟩ => ?_
  subst he
  exact ⟨_, rfl, LawKit.law_post LawBase.laidOut (by kernel_rfl) hW' rfl rfl (by kernel_rfl) Try.underlying4 hb⟩

theorem over : Rows.bucketPlaysRow.holds Try.pinned (OpenSpec.ofChange Rows.bucketPlaysSpec) :=
  OpenClaim.holds_of_wide 3 Try.f3 rfl rfl rfl rfl rfl rfl rfl ⟨rfl, rfl, rfl, rfl, rfl⟩ rfl rfl rfl rfl rfl (by kernel_rfl) Try.func3 (by kernel_rfl)
    (of_decide_eq_true (by kernel_rfl)) (by unfold Func.isWrapper; first | (rw [if_pos (by decide +kernel)]; kernel_rfl) | (rw [if_neg (by decide +kernel)]; exact ⟨rfl, rfl⟩))
    (fun os started H enc _ => lifted os started H enc)

/-- THE STATEMENT -/
theorem proved : Rows.BucketPlaysSaid :=
  over
end Go.Proofs.Ytlajneljcmaiiaa.BucketPlaysL
