/- A dice of any seed draws what the document reckons, whatever is asked of it in which order: DicePlays returns true. No condition. -/
import Derived.Test.YtdckgbinfblpiaaDiceTwo
import Derived.Test.YtdckgbinfblpiaaLawBase
import Derived.Test.YtdckgbinfblpiaaRead
import Derived.Deep.RegionHeld3
import Derived.Deep.RegionWith
namespace Go.Proofs.Ytdckgbinfblpiaa.DicePlaysP
open Go.ChangeShapes Go.WideShapes Go.ChangeAt Go.RowKit DiceMath DiceWalks DiceObj DiceTwo Rdg Mem
set_option linter.unusedVariables false
def Inv (w0 : World) (gd ge : Nat) (w : World) : Prop := ∃ s y : Int, Two w0 47 29 gd ge w s y s y
/-- the steps asked for lie where the list points: three numbers each -/
def Ops (w : World) (A : Option Addr) (n : Nat) : Prop :=
  0 < n → ∃ b o : Nat, A = some ⟨b, o, none⟩ ∧ b < w.heap.size ∧ ∀ i, i < n → ∃ (x y z : Int), w.cell? ⟨b, o + i * 3, none⟩ = some (.int .i64 x) ∧ w.cell? ⟨b, o + i * 3 + 1, none⟩ = some (.int .i64 y) ∧ w.cell? ⟨b, o + i * 3 + 2, none⟩ = some (.int .i64 z) ∧
    y ≤ 9223372036854775807
theorem ops_read {H : Type} {enc : TypeId × Value → H} {w : World} {base : Nat} {v : Value} {d : DataW H} {p : List MemPlace} (hv : Value.okWide Try.prog w .any base 22 v) (h : DataW.Trod enc Try.prog w 0 (fun _ => true) true 22 v d p) :
    ∃ A n c, v = .slice A n c ∧ n ≤ maxLen ∧ Ops w A n := by
  have hC : Try.prog.cellsOf 31 = 3 := by kernel_rfl
  obtain ⟨A, n, c, rfl⟩ := okWide_slice Try.underlying22 hv
  obtain ⟨A', n', c', D, S, h1, h2, h3, h4, h5⟩ := (rd_of h).slice Try.underlying22 (by rw [hC]; decide)
  simp only [Value.cells, List.cons.injEq, and_true, Value.slice.injEq] at h1
  obtain ⟨rfl, rfl, rfl⟩ := h1
  refine ⟨_, _, _, rfl, Nat.le_trans h2 h3, fun hn => ?_⟩
  obtain ⟨b, o, rfl, hb, h5⟩ := h5 hn
  refine ⟨b, o, rfl, hb, fun i hi => ?_⟩
  obtain ⟨xs, di, _, hl, hc, hr⟩ := h5 i hi
  obtain ⟨u0, _, _, g0, _, _, r0⟩ := hr.part Try.underlying31 (by kernel_rfl) hC 0 _ rfl
  obtain ⟨u1, _, _, g1, _, _, r1⟩ := hr.part Try.underlying31 (by kernel_rfl) hC 1 _ rfl
  obtain ⟨u2, _, _, g2, _, _, r2⟩ := hr.part Try.underlying31 (by kernel_rfl) hC 2 _ rfl
  obtain ⟨x, e0, _, _⟩ := r0.int Try.underlying3
  obtain ⟨y, e1, _, wy⟩ := r1.int Try.underlying3
  obtain ⟨z, e2, _, _⟩ := r2.int Try.underlying3
  obtain rfl : u0 = .int .i64 x := by simpa using e0
  obtain rfl : u1 = .int .i64 y := by simpa using e1
  obtain rfl : u2 = .int .i64 z := by simpa using e2
  have c0 := hc 0 _ g0
  have c1 := hc 1 _ g1
  have c2 := hc 2 _ g2
  rw [hC] at c0 c1 c2
  exact ⟨x, y, z, c0, by rw [Nat.add_assoc]; exact c1, by rw [Nat.add_assoc]; exact c2, (bounds_i64 wy).2⟩
set_option maxHeartbeats 2000000 in
set_option maxRecDepth 100000 in
theorem walk {H : Type} {enc : TypeId × Value → H} (a0 : Int) (w0 : (Lit.int .i64 a0).wf = true) {base : Nat} (v1 : Value) (d1 : DataW H) (p1 : List MemPlace) (W : World) (k1 : Value.okWide Try.prog W .any base 22 v1)
    (h1 : DataW.Trod enc Try.prog W 0 (fun _ => true) true 22 v1 d1 p1) (l1 : ∀ x ∈ p1, x.block < W.heap.size) :
    Calls Try.prog 3 #[.int .i64 a0, v1] W fun e w' => e = .returned (.bool true) ∧ Below W.heap.size W w' := by
  obtain ⟨A, n, c, rfl, hn, hO⟩ := ops_read k1 h1
  unfold maxLen at hn
  clear k1 h1 w0
  go_enter Try.func3, Try.ntmps3
  go_wp2_with (first
    | (go_at_call 9; refine (anchor_any _).mono ?_; rintro e w1 ⟨rfl, hb⟩)
    | (go_at_call 10; refine (new_any _ _).mono ?_; rintro e w' ⟨rfl, rfl⟩))
  have I : Inv W w1.heap.size (w1.heap.size + 1) _ := ⟨_, _, Two.made hb _ _ (IntKind.u64.wrap a0) 0 (IntKind.u64.wrap a0) 0⟩
  clear hb
  generalize ((w1.alloc _).alloc _) = wB at *
  generalize w1.heap.size = gd at *
  generalize gd + 1 = ge at *
  go_loopw [22] (fun i wr => ∃ k : Nat, k ≤ n ∧ i = .int .i64 k ∧ Inv W gd ge wr) (fun i _ => n - (intOf i).toNat)
  case atStart => exact ⟨0, by omega, rfl, I⟩
  case round =>
    obtain ⟨k, hk, rfl, hI⟩ := hrel
    obtain ⟨s, y, T⟩ := hI
    clear I
    by_cases hlt : k < n
    · obtain ⟨b, o, rfl, hb, hcell⟩ := hO (by omega)
      obtain ⟨x, p, q, c0, c1, c2, hp⟩ := hcell k hlt
      have c0 : wr.cell? ⟨b, o + k * 3, none⟩ = some (.int .i64 x) := (T.below.cell (p := ⟨b, o + k * 3, none⟩) hb).trans c0
      have c1 : wr.cell? ⟨b, o + k * 3 + 1, none⟩ = some (.int .i64 p) := (T.below.cell (p := ⟨b, o + k * 3 + 1, none⟩) hb).trans c1
      have c2 : wr.cell? ⟨b, o + k * 3 + 2, none⟩ = some (.int .i64 q) := (T.below.cell (p := ⟨b, o + k * 3 + 2, none⟩) hb).trans c2
      by_cases x1 : x = 1
      · subst x1
        go_wp2_with fail
        refine (next_any _ _ _ _ (T.alloc _).d).mono ?_
        rintro e w2 ⟨rfl, h', hg⟩
        have T2 := (T.alloc _).stepD h' hg
        clear h' hg T c0 c1 c2
        have tt : (mixI (stepI s) == mixI (stepI s)) = true := beq_self_eq_true _
        go_wp2_with fail
        refine (rnext_any _ _ _ _ T2.e).mono ?_
        rintro e w3 ⟨rfl, h', hg⟩
        have T3 := T2.stepE h' hg
        have I3 : Inv W gd ge w3 := ⟨_, _, T3⟩
        clear h' hg T2 T3
        go_wp2_with fail
        go_roundw
        case rel => exact ⟨k + 1, by omega, by go_num, I3⟩
        case measure => simp [intOf]; omega
      · by_cases x2 : x = 2
        · subst x2
          have tt : (belowI s p == belowI s p) = true := beq_self_eq_true _
          go_wp2_with fail
          have T1 := T.alloc (.cells #[.int .i64 2, .int .i64 p, .int .i64 q] 31)
          have q1 : (wr.alloc (.cells #[.int .i64 2, .int .i64 p, .int .i64 q] 31)).cell? ⟨wr.heap.size, 1, none⟩ = some (.int .i64 p) := by go_simp
          have hod : wr.heap.size ≠ gd := fun e => by have := T.d.lt; omega
          have hoe : wr.heap.size ≠ ge := fun e => by have := T.e.lt; omega
          have hos : wr.heap.size < (wr.alloc (.cells #[.int .i64 2, .int .i64 p, .int .i64 q] 31)).heap.size := by simp
          generalize (wr.alloc _) = wq at *
          generalize wr.heap.size = go at *
          clear c0 c1 c2 T hcell
          go_region_held3 (fun w' => w'.cell? ⟨go, 1, none⟩ = some (.int .i64 p)) (first | exact q3 | exact q2 | exact q1)
            (first
              | (go_at_call 13; refine (below_any _ _ _ _ hp _ T1.drew.d).mono ?_; rintro e w2 ⟨rfl, h', hg⟩
                 have T2 := T1.drew.stepD h' hg
                 have q2 : w2.cell? ⟨go, 1, none⟩ = some (.int .i64 p) := (own_cell hg (by simpa using hos) hod).trans q1
                 have hos2 : go < w2.heap.size := Nat.lt_of_lt_of_le hos hg.size
                 clear h' hg)
              | (go_at_call 14; refine (rbelow_any _ _ _ _ hp _ T2.e).mono ?_; rintro e w3 ⟨rfl, h', hg⟩
                 have T3 := T2.stepE h' hg
                 have q3 : w3.cell? ⟨go, 1, none⟩ = some (.int .i64 p) := (own_cell hg hos2 hoe).trans q2
                 clear h' hg))
          have I3 : Inv W gd ge w3 := ⟨_, _, T3⟩
          clear T1 q1 hos T2 q2 hos2 T3 q3
          go_wp2_with fail
          go_roundw
          case rel => exact ⟨k + 1, by omega, by go_num, I3⟩
          case measure => simp [intOf]; omega
        · by_cases x3 : x = 3
          · subst x3
            have tt : (jitI s p q == jitI s p q) = true := beq_self_eq_true _
            go_wp2_with fail
            have T1 := T.alloc (.cells #[.int .i64 3, .int .i64 p, .int .i64 q] 31)
            have q1 : (wr.alloc (.cells #[.int .i64 3, .int .i64 p, .int .i64 q] 31)).cell? ⟨wr.heap.size, 1, none⟩ = some (.int .i64 p) ∧ (wr.alloc (.cells #[.int .i64 3, .int .i64 p, .int .i64 q] 31)).cell? ⟨wr.heap.size, 2, none⟩ = some (.int .i64 q) := by go_simp
            have hod : wr.heap.size ≠ gd := fun e => by have := T.d.lt; omega
            have hoe : wr.heap.size ≠ ge := fun e => by have := T.e.lt; omega
            have hos : wr.heap.size < (wr.alloc (.cells #[.int .i64 3, .int .i64 p, .int .i64 q] 31)).heap.size := by simp
            generalize (wr.alloc _) = wq at *
            generalize wr.heap.size = go at *
            clear c0 c1 c2 T hcell
            go_region_held3 (fun w' => w'.cell? ⟨go, 1, none⟩ = some (.int .i64 p) ∧ w'.cell? ⟨go, 2, none⟩ = some (.int .i64 q)) (first | exact q3 | exact q2 | exact q1)
              (first
                | (go_at_call 15; refine (jit_any _ _ _ _ _ _ T1.drew.d).mono ?_; rintro e w2 ⟨rfl, h', hg⟩
                   have T2 := T1.drew.stepD h' hg
                   have q2 : w2.cell? ⟨go, 1, none⟩ = some (.int .i64 p) ∧ w2.cell? ⟨go, 2, none⟩ = some (.int .i64 q) := ⟨(own_cell hg (by simpa using hos) hod).trans q1.1, (own_cell hg (by simpa using hos) hod).trans q1.2⟩
                   have hos2 : go < w2.heap.size := Nat.lt_of_lt_of_le hos hg.size
                   clear h' hg)
                | (go_at_call 16; refine (rjit_any _ _ _ _ _ _ T2.e).mono ?_; rintro e w3 ⟨rfl, h', hg⟩
                   have T3 := T2.stepE h' hg
                   have q3 : w3.cell? ⟨go, 1, none⟩ = some (.int .i64 p) ∧ w3.cell? ⟨go, 2, none⟩ = some (.int .i64 q) := ⟨(own_cell hg hos2 hoe).trans q2.1, (own_cell hg hos2 hoe).trans q2.2⟩
                   clear h' hg))
            have I3 : Inv W gd ge w3 := ⟨_, _, T3⟩
            clear T1 q1 hos T2 q2 hos2 T3 q3
            go_wp2_with fail
            go_roundw
            case rel => exact ⟨k + 1, by omega, by go_num, I3⟩
            case measure => simp [intOf]; omega
          · by_cases x4 : x = 4
            · subst x4
              have tt : ((y : Int) == y) = true := beq_self_eq_true _
              go_wp2_with fail
              have T1 := T.alloc (.cells #[.int .i64 4, .int .i64 p, .int .i64 q] 31)
              generalize (wr.alloc _) = wq at *
              clear c0 c1 c2 T hcell
              have q1 := T1.e.cell 1
              go_region_held3 (fun w' => w'.cell? ⟨ge, 1, none⟩ = some (.int .i64 y)) (exact q1)
                (first | (go_at_call 17; refine (drawn_any _ _ _ _ T1.drew.d).mono ?_; rintro e w2 ⟨rfl, rfl⟩))
              have I3 : Inv W gd ge wq.drew := ⟨_, _, T1.drew⟩
              clear T1 q1
              go_wp2_with fail
              go_roundw
              case rel => exact ⟨k + 1, by omega, by go_num, I3⟩
              case measure => simp [intOf]; omega
            · have I3 : Inv W gd ge (wr.alloc (.cells #[.int .i64 x, .int .i64 p, .int .i64 q] 31)) := ⟨_, _, T.alloc _⟩
              clear T hcell
              go_wp2_with fail
              go_roundw
              case rel => exact ⟨k + 1, by omega, by go_num, I3⟩
              case measure => simp [intOf]; omega
    · go_wp2_with fail
      have tt : ((y : Int) == y) = true := beq_self_eq_true _
      have tu : (mixI (stepI s) == mixI (stepI s)) = true := beq_self_eq_true _
      have q1 := T.e.cell 1
      have qf := T.e.free 1
      go_region_with (first
        | (go_at_call 17; refine (drawn_any _ _ _ _ T.drew.d).mono ?_; rintro e w2 ⟨rfl, rfl⟩)
        | (go_at_call 11; refine (next_any _ _ _ _ T.drew.d).mono ?_; rintro e w2 ⟨rfl, h', hg⟩
           have T2 := T.drew.stepD h' hg
           clear h' hg)
        | (go_at_call 12; refine (rnext_any _ _ _ _ T2.e).mono ?_; rintro e w3 ⟨rfl, h', hg⟩
           have T3 := T2.stepE h' hg
           clear h' hg))
      all_goals
        have hB := T3.below
        clear T T2 T3
        go_wp2_with fail
        go_ret
        exact ⟨rfl, hB⟩

/-! ### the row's step -/
set_option maxRecDepth 100000 in
theorem lifted (os : Os) (started : os.Started) (H : Type) (enc : TypeId × Value → H) :
    ReturnsInHanded {} Try.checked os 3 .any (Rows.dicePlaysSpec.pre6 enc Try.prog Try.f3 Rows.dicePlaysRow.domain false) (Rows.dicePlaysSpec.post enc Try.prog Try.f3 false true false false) := by
  refine returnsInHanded_of_change_sized (C := Try.checked) LawBase.own started (by kernel_rfl) Try.func3
    (ChangeSpec.witness6 (enc := enc) (C := Try.checked) false ⟨#[], #[.int .i64 0, .slice none 0 0], []⟩ 8 (by kernel_rfl) (by kernel_rfl) (by kernel_rfl) (by kernel_rfl)) ?_
  intro W base args ds gs before hval0 hW hcnd hsz0 _
  have hval : ∀ (j : Nat) t v, Try.f3.params[j]? = some t → args[j]? = some v → Value.okWide Try.prog W .any base t v := hval0
  have hW' := hW
  obtain ⟨p, q, hA0, hV, rfl, hfz, hnd⟩ := hW
  have hA : DataW.TrodAll enc Try.prog W 0 (fun _ => true) true Try.f3.params.toList args.toList ds p := hA0
  rw [Try.params3] at hA hval
  have hlt : ∀ x ∈ p ++ q, x.block < W.heap.size := fun x hx => by simpa using hW'.lt x hx
  obtain ⟨v0, vs0, d0, ds0, p0, q0, hargs, rfl, rfl, h0, r0⟩ := trodAll_cons hA
  obtain ⟨v1, vs1, d1, ds1, p1, q1, rfl, rfl, rfl, h1, r1⟩ := trodAll_cons r0
  obtain ⟨rfl, rfl, rfl⟩ := trodAll_nil r1
  obtain rfl : args = #[v0, v1] := by cases args; simp_all
  obtain ⟨rfl, rfl⟩ := trodVars_none hV
  obtain ⟨a0, rfl, rfl, rfl, w0⟩ := open_int Try.underlying3 (hval 0 3 v0 rfl rfl) h0
  have l1 : ∀ x ∈ p1, x.block < W.heap.size := fun x hx => hlt x (by simp [hx])
  refine (walk (enc := enc) (W := W) a0 w0 v1 d1 p1 (hval 1 22 v1 rfl rfl) h1 l1).mono fun e W' ⟨he, hb⟩ => ?_
  subst he
  exact ⟨_, rfl, LawKit.law_post LawBase.laidOut (by kernel_rfl) hW' rfl rfl (by kernel_rfl) Try.underlying4 hb⟩

theorem over : Rows.dicePlaysRow.holds Try.pinned (OpenSpec.ofChange Rows.dicePlaysSpec) :=
  OpenClaim.holds_of_wide 3 Try.f3 rfl rfl rfl rfl rfl rfl rfl ⟨rfl, rfl, rfl, rfl, rfl⟩ rfl rfl rfl rfl rfl (by kernel_rfl) Try.func3 (by kernel_rfl)
    (of_decide_eq_true (by kernel_rfl)) (by unfold Func.isWrapper; first | (rw [if_pos (by decide +kernel)]; kernel_rfl) | (rw [if_neg (by decide +kernel)]; exact ⟨rfl, rfl⟩))
    (fun os started H enc _ => lifted os started H enc)

/-- THE STATEMENT -/
theorem proved : Rows.DicePlaysSaid :=
  over
end Go.Proofs.Ytdckgbinfblpiaa.DicePlaysP
