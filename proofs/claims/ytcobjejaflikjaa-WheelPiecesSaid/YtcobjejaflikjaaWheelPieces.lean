/- For every two lists of integers: WheelPieces returns true. No condition. -/
import Derived.Test.YtcobjejaflikjaaWheelOneF
import Derived.Test.YtcobjejaflikjaaLawBase
import Derived.Test.YtcobjejaflikjaaRead
import Derived.Laws.StructEq
import Derived.BigQuiet
namespace Go.Proofs.Ytcobjejaflikjaa.WheelPiecesP
open Go.ChangeShapes Go.WideShapes Go.ChangeAt Go.RowKit Go.Maps WMath Mem Step WObj WOrd WMm WOps WSet WMin WSort WAdv WOne WOneF Rdg AppendRow

/-- numbers asked for lie where the list points -/
def Ints (w : World) (A : Option Addr) (n : Nat) : Prop :=
  0 < n → ∃ b o : Nat, A = some ⟨b, o, none⟩ ∧ b < w.heap.size ∧ ∀ i, i < n → ∃ x : Int, w.cell? ⟨b, o + i, none⟩ = some (.int .i64 x) ∧ -9223372036854775808 ≤ x ∧ x ≤ 9223372036854775807
theorem ints_read {H : Type} {enc : TypeId × Value → H} {w : World} {base : Nat} {v : Value} {d : DataW H} {p : List MemPlace} (hv : Value.okWide Try.prog w .any base 34 v) (h : DataW.Trod enc Try.prog w 0 (fun _ => true) true 34 v d p) :
    ∃ A n c, v = .slice A n c ∧ n ≤ maxLen ∧ Ints w A n := by
  have hC : Try.prog.cellsOf 3 = 1 := by kernel_rfl
  obtain ⟨A, n, c, rfl⟩ := okWide_slice Try.underlying34 hv
  obtain ⟨A', n', c', D, S, h1, h2, h3, h4, h5⟩ := (rd_of h).slice Try.underlying34 (by rw [hC]; decide)
  simp only [Value.cells, List.cons.injEq, and_true, Value.slice.injEq] at h1
  obtain ⟨rfl, rfl, rfl⟩ := h1
  refine ⟨_, _, _, rfl, Nat.le_trans h2 h3, fun hn => ?_⟩
  obtain ⟨b, o, rfl, hb, h5⟩ := h5 hn
  refine ⟨b, o, rfl, hb, fun i hi => ?_⟩
  obtain ⟨xs, di, _, hl, hc, hr⟩ := h5 i hi
  obtain ⟨x, e0, _, wx⟩ := hr.int Try.underlying3
  subst e0
  have c0 := hc 0 _ rfl
  rw [hC] at c0
  exact ⟨x, by simpa using c0, (bounds_i64 wx).1, (bounds_i64 wx).2⟩

/-- two lists in their order that hold the same are one -/
theorem rising_ext : ∀ {X Y : List Tm}, Rising X → Rising Y → (∀ t, t ∈ X ↔ t ∈ Y) → X = Y
  | [], [], _, _, _ => rfl
  | [], y :: Y, _, _, h => by have := (h y).2 (by simp); cases this
  | x :: X, [], _, _, h => by have := (h x).1 (by simp); cases this
  | x :: X, y :: Y, hX, hY, h => by
    obtain ⟨x1, x2⟩ := List.pairwise_cons.1 hX
    obtain ⟨y1, y2⟩ := List.pairwise_cons.1 hY
    have hxy : x = y := by
      rcases List.mem_cons.1 ((h x).1 (by simp)) with e | e
      · exact e
      · rcases List.mem_cons.1 ((h y).2 (by simp)) with e' | e'
        · exact e'.symm
        · exact absurd (ltT_trans (x1 y e') (y1 x e)) (ltT_irrefl x)
    subst hxy
    congr 1
    refine rising_ext x2 y2 fun t => ⟨fun ht => ?_, fun ht => ?_⟩
    · rcases List.mem_cons.1 ((h t).1 (by simp [ht])) with rfl | e
      · exact absurd (x1 t ht) (ltT_irrefl t)
      · exact e
    · rcases List.mem_cons.1 ((h t).2 (by simp [ht])) with rfl | e
      · exact absurd (y1 t ht) (ltT_irrefl t)
      · exact e

theorem disj_left {w w' : World} {FA FA' FB : Nat → Prop} (s : Step w w' FA FA') (hB : ∀ k, FB k → k < w.heap.size) (hd : ∀ k, FA k → ¬ FB k) : ∀ k, FA' k → ¬ FB k := fun k hk hb => by
  rcases s.grow k hk with h | ⟨h, _⟩
  · exact hd k h hb
  · have := hB k hb; omega
/-- two wheels with the same timers -/
def Pair (W w : World) (ga gb : Nat) (S : List Tm) : Prop := ∃ FA FB, OneF W w ga 0 S FA ∧ OneF W w gb 0 S FB ∧ ∀ k, FA k → ¬ FB k

/-- the second wheel in the midst of its pieces -/
def Mid (W w : World) (ga gb : Nat) (S X : List Tm) (lv mv : Value) (nb : Nat) (Sb : List Tm) : Prop :=
  ∃ M FA FB, OneF W w ga 1099511627776 [] FA ∧ OneF W w gb nb Sb FB ∧ (∀ k, FA k → ¬ FB k) ∧ Rising M ∧ (M ++ Sb).Perm S ∧ (∀ m ∈ M, ∀ x ∈ Sb, m.2 < x.2) ∧
    w.ownsRow 0 42 2 mv M.length (encs M) ∧ (∀ b, mv.ownBlock = some b → ¬ FA b ∧ ¬ FB b ∧ W.heap.size ≤ b) ∧
    w.ownsRow 0 42 2 lv X.length (encs X) ∧ (∀ b, lv.ownBlock = some b → ¬ FA b ∧ ¬ FB b ∧ W.heap.size ≤ b ∧ mv.ownBlock ≠ some b)
/-- one piece more: the second wheel has let time pass to n, and what fired is appended -/
theorem Mid.next {W w w1 w2 : World} {ga gb n : Nat} {S X M Sb Y : List Tm} {lv mv mv' : Value} {FA FB FB' : Nat → Prop} (hA : OneF W w ga 1099511627776 [] FA) (hd : ∀ k, FA k → ¬ FB k) (hBW : ∀ k, FB k → W.heap.size ≤ k) (hR : Rising M) (hp : (M ++ Sb).Perm S) (hlt : ∀ m ∈ M, ∀ x ∈ Sb, m.2 < x.2)
    (_hm : w.ownsRow 0 42 2 mv M.length (encs M)) (hmb : ∀ b, mv.ownBlock = some b → ¬ FA b ∧ ¬ FB b ∧ W.heap.size ≤ b)
    (hl : w.ownsRow 0 42 2 lv X.length (encs X)) (hlb : ∀ b, lv.ownBlock = some b → ¬ FA b ∧ ¬ FB b ∧ W.heap.size ≤ b ∧ mv.ownBlock ≠ some b)
    (hWw : W.heap.size ≤ w.heap.size) (hY : Y.Perm (Sb.filter (isDue n))) (hYR : Rising Y) (hO : OneF W w1 gb n (Sb.filter (isLate n)) FB') (s : Step w w1 FB FB')
    (hrow : w2.ownsRow 0 42 2 mv' (M.length + Y.length) (encs M ++ encs Y)) (hg : w1.grownBy w2 mv.ownBlock) (hat : mv'.ownBlock = mv.ownBlock ∨ mv'.ownBlock = some w1.heap.size) :
    Mid W w2 ga gb S X lv mv' n (Sb.filter (isLate n)) := by
  have hA1 := hA.far s (fun k h1 h2 => hd k h1 h2) hBW
  have s2 : Step w1 w2 (fun k => mv.ownBlock = some k) (fun k => mv.ownBlock = some k) := Step.of_grown hg (fun k e => e)
  have hAlow := hA.low
  have hYm : ∀ x ∈ Y, x ∈ Sb ∧ isDue n x = true := fun x hx => List.mem_filter.1 (hY.mem_iff.1 hx)
  have hmA : ∀ k, FA k → ¬ (mv.ownBlock = some k) := fun k h1 e => (hmb k e).1 h1
  have hmB : ∀ k, FB' k → ¬ (mv.ownBlock = some k) := fun k h1 e => by
    rcases s.grow k h1 with h | ⟨h, _⟩
    · exact (hmb k e).2.1 h
    · have := row_lt _hm e; omega
  have hmW : ∀ k, mv.ownBlock = some k → W.heap.size ≤ k := fun k e => (hmb k e).2.2
  have hdue : ∀ x : Tm, isDue n x = true → x.2 ≤ n := fun x hx => by simpa [isDue, isLate] using hx
  refine ⟨M ++ Y, FA, FB', hA1.far s2 hmA hmW, hO.far s2 hmB hmW, fun k h1 h2 => ?_, ?_, ?_, ?_, by rw [List.length_append, encs_append]; exact hrow, fun b e => ?_, ?_, fun b e => ?_⟩
  · rcases s.grow k h2 with h | ⟨h, _⟩
    · exact hd k h1 h
    · have := hAlow k h1; omega
  · unfold Rising at *
    rw [List.pairwise_append]
    exact ⟨hR, hYR, fun m hm x hx => .inl (hlt m hm x (hYm x hx).1)⟩
  · rw [List.append_assoc]
    refine List.Perm.trans (List.Perm.append_left M ?_) hp
    refine (hY.append_right _).trans ?_
    have h := WEmpty.filter_or (isDue n) (isLate n) Sb (fun x _ hx => by simpa [isDue] using hx)
    refine h.symm.trans (List.Perm.of_eq ?_)
    rw [List.filter_eq_self]
    intro x _
    cases hq : isLate n x <;> simp [isDue, hq]
  · intro m hm x hx
    have hx2 := List.mem_filter.1 hx
    rcases List.mem_append.1 hm with h | h
    · exact hlt m h x hx2.1
    · have h1 := hdue m (hYm m h).2
      have h2 : n < x.2 := by simpa [isLate] using hx2.2
      omega
  · rcases hat with h | h
    · have e' := h ▸ e
      exact ⟨(hmb b e').1, fun hf => hmB b hf e', (hmb b e').2.2⟩
    · rw [h] at e
      injection e with e
      refine ⟨fun hf => ?_, fun hf => ?_, ?_⟩
      · have := hAlow b hf; have := s.size; omega
      · have := hO.low b hf; omega
      · have := s.size; omega
  · exact s2.row (s.row hl (fun b e => (hlb b e).2.1)) (fun b e e' => (hlb b e).2.2.2 e')
  · obtain ⟨q1, q2, q3, q4⟩ := hlb b e
    have hbl := row_lt hl e
    refine ⟨q1, apart s hbl q2, q3, fun e' => ?_⟩
    rcases hat with h | h
    · exact q4 (h ▸ e')
    · rw [h] at e'
      injection e' with e'
      have := s.size
      omega

theorem neqT (a b : Int) (w : World) : (binOp .neq 42 (.agg #[.int .i64 a, .int .i64 b]) (.agg #[.int .i64 a, .int .i64 b])).run Try.prog w = .ok (.bool false) w := by
  have u3 := Try.underlying3
  have a3 := Try.isAgg3
  have z3 := Try.sizeOf3
  have hS : Try.prog.underlying 42 = some (.struct (Try.prog.fieldsOf 42)) := by kernel_rfl
  have hp : Try.prog.stoodInHeld 42 = false := by kernel_rfl
  rw [run_neq_struct, show (10000 : Nat) = 9999 + 1 from rfl, run_equalIn_agg w 9999 42 _ _ hS hp]
  simp only [Program.fieldsOf, Try.underlying42]
  go_simp
theorem due_all {W w : World} {g now : Nat} {S : List Tm} {F : Nat → Prop} (h : OneF W w g now S F) : S.filter (isDue 1099511627776) = S ∧ S.filter (isLate 1099511627776) = [] := by
  obtain ⟨_, hb, _⟩ := h.bnd
  refine ⟨List.filter_eq_self.2 fun t ht => ?_, List.filter_eq_nil_iff.2 fun t ht => ?_⟩
  · have := (hb t ht).2.1
    simp [isDue, isLate]; omega
  · have := (hb t ht).2.1
    simp [isLate]; omega
/-- at the end both lists are one, and both wheels are empty -/
theorem Mid.last {W w : World} {ga gb : Nat} {S X : List Tm} {lv mv : Value} (hX : Rising X) (hXp : X.Perm S) (h : Mid W w ga gb S X lv mv 1099511627776 []) :
    ∃ M', M' = X ∧ M'.length = S.length ∧ w.ownsRow 0 42 2 mv M'.length (encs M') ∧ w.ownsRow 0 42 2 lv X.length (encs X) ∧ WOne.One W w ga 1099511627776 [] ∧ WOne.One W w gb 1099511627776 [] := by
  obtain ⟨M, FA, FB, q1, q2, q3, q4, q5, q6, q7, q8, q9, q10⟩ := h
  rw [List.append_nil] at q5
  have e : M = X := rising_ext q4 hX (fun t => q5.mem_iff.trans hXp.mem_iff.symm)
  exact ⟨M, e, q5.length_eq, q7, q9, q1.one, q2.one⟩
theorem below_drewN {B : Nat} {a w : World} (n : Nat) (h : Below B a w) : Below B a (w.drewN n) := ⟨h.os, h.tape, h.output, h.size, h.block⟩
theorem setE_same (r : Int) : (r != r) = false := by simp

set_option maxHeartbeats 6400000 in
set_option maxRecDepth 100000 in
theorem walk {H : Type} {enc : TypeId × Value → H} {base : Nat} (v0 : Value) (d0 : DataW H) (p0 : List MemPlace) {W : World} (k0 : Value.okWide Try.prog W .any base 34 v0)
    (h0 : DataW.Trod enc Try.prog W 0 (fun _ => true) true 34 v0 d0 p0) (_l0 : ∀ x ∈ p0, x.block < W.heap.size) (v1 : Value) (d1 : DataW H) (p1 : List MemPlace) (k1 : Value.okWide Try.prog W .any base 34 v1)
    (h1 : DataW.Trod enc Try.prog W 0 (fun _ => true) true 34 v1 d1 p1) (_l1 : ∀ x ∈ p1, x.block < W.heap.size) :
    Calls Try.prog 4 #[v0, v1] W fun e w' => e = .returned (.bool true) ∧ Below W.heap.size W w' := by
  obtain ⟨A0, n0, c0, rfl, hn0, hI0⟩ := ints_read k0 h0
  obtain ⟨A1, n1, c1, rfl, hn1, hI1⟩ := ints_read k1 h1
  unfold maxLen at hn0 hn1
  have HI0 := Lib.hid hI0
  have HI1 := Lib.hid hI1
  clear k0 h0 k1 h1 hI0 hI1
  obtain ⟨i0, hi, hz0, hz1, hz2⟩ := info_parts infoT
  go_enter Try.func4, Try.ntmps4
  go_wp2_with fail
  refine (anchor_any W).mono ?_
  rintro e w1 ⟨rfl, hb1⟩
  have HN := Lib.hid (f_new W w1 hb1)
  clear hb1
  go_wp2_with fail
  refine HN.out.mono ?_
  rintro e w2 ⟨ga, FA, rfl, OA, sA⟩
  have HN2 := Lib.hid (f_new W w2 OA.below)
  have HOA := Lib.hid OA
  clear OA sA HN
  go_wp2_with fail
  refine HN2.out.mono ?_
  rintro e w3 ⟨gb, FB, rfl, OB, sB⟩
  have I0 : Hid (∃ S, Pair W w3 ga gb S) := Lib.hid ⟨[], FA, FB, HOA.out.far sB (fun _ _ h => h) (fun _ h => h.elim), OB, fun k h1 h2 => by
    rcases sB.grow k h2 with h | ⟨h, _⟩
    · exact h
    · have := HOA.out.low k h1; omega⟩
  clear OB sB HOA HN2
  go_wp2_with fail
  go_loopw [33] (fun i wr => ∃ k : Nat, k ≤ n0 ∧ i = .int .i64 k ∧ Hid (∃ S, Pair W wr ga gb S)) (fun i _ => n0 - (intOf i).toNat)
  case atStart => exact ⟨0, Nat.zero_le _, rfl, I0⟩
  case round =>
    obtain ⟨k, hk, rfl, HS⟩ := hrel
    clear I0
    by_cases hlt : k < n0
    · have hki : (k : Int) < (n0 : Int) := by omega
      obtain ⟨b, o, rfl, hb, hc⟩ := HI0.out (by omega)
      obtain ⟨x, cx, x1, x2⟩ := hc k hlt
      obtain ⟨S, FA1, FB1, OA, OB, hd⟩ := HS.out
      have cx := (OA.below.cell (p := ⟨b, o + k, none⟩) hb).trans cx
      by_cases h4 : k < 4096
      · have h4i : (k : Int) < 4096 := by omega
        have HA := Lib.hid (f_set OA k x (by omega) (by omega))
        have HOB := Lib.hid OB
        have HD := Lib.hid hd
        have hq := setE_same (setE 0 S k x)
        have HAW := Lib.hid OA.2.2
        clear OA OB hd hc HS
        go_wp2_with fail
        refine HA.out.mono ?_
        rintro e w4 ⟨rfl, FA2, OA2, sA⟩
        have OB2 := HOB.out.far sA (fun k h1 h2 => HD.out k h2 h1) HAW.out
        have HD2 := Lib.hid (disj_left sA HOB.out.low HD.out)
        have HB := Lib.hid (f_set OB2 k x (by omega) (by omega))
        have HOA2 := Lib.hid OA2
        have HOB2 := Lib.hid OB2
        clear OA2 OB2 sA HA HOB HD
        go_wp2_with fail
        refine HB.out.mono ?_
        rintro e w5 ⟨rfl, FB2, OB3, sB⟩
        have HP := Lib.hid (show ∃ S, Pair W w5 ga gb S from ⟨_, FA2, FB2, HOA2.out.far sB (fun k h1 h2 => HD2.out k h1 h2) HOB2.out.2.2, OB3, fun k h1 h2 => disj_left sB HOA2.out.low (fun k h1 h2 => HD2.out k h2 h1) k h2 h1⟩)
        clear OB3 sB HB HOA2 HOB2 HD2 cx
        generalize setE 0 S k x = r at hq
        go_wp2_with fail
        exact ⟨⟨k + 1, by omega, by go_num, HP⟩, by simp [intOf]; omega⟩
      · have h4i : ¬ ((k : Int) < 4096) := by omega
        clear OA OB hd hc
        go_wp2_with fail
        exact ⟨⟨k + 1, by omega, by go_num, HS⟩, by simp [intOf]; omega⟩
    · have hki : ¬ ((k : Int) < (n0 : Int)) := by omega
      obtain ⟨S, FA1, FB1, OA, OB, hd⟩ := HS.out
      have HL := Lib.hid (one_len OA.one)
      have HA := Lib.hid (f_adv OA 1099511627776)
      have hSl := OA.bnd.2.2.2
      have hSn := OA.bnd.2.2.1
      have HDA := Lib.hid (due_all OA)
      have HAW := Lib.hid OA.2.2
      have HOB := Lib.hid OB
      have HD := Lib.hid hd
      clear OA OB hd HS
      go_wp2_with fail
      refine HL.out.mono ?_
      rintro e w' ⟨rfl, rfl⟩
      go_wp2_with fail
      refine HA.out.mono ?_
      rintro e w4 (⟨h1, _⟩ | ⟨n, lv, X, FA2, h1, _, _, rfl, hp, hR, hr, hb, OA2, sA⟩)
      · omega
      have hn : n = 1099511627776 := by omega
      subst hn
      rw [HDA.out.1] at hp
      rw [HDA.out.2] at OA2
      have hXl := hp.length_eq
      have OB2 := HOB.out.far sA (fun k h1 h2 => HD.out k h2 h1) HAW.out
      have hwr := HOB.out.below.size
      have IM : Hid (∃ nb Sb, Mid W w4 ga gb S X lv (.slice none 0 0) nb Sb) := Lib.hid ⟨0, S, [], FA2, FB1, OA2, OB2, disj_left sA HOB.out.low HD.out, List.Pairwise.nil, List.Perm.refl _, fun m hm => by simp at hm, by simpa [encs] using World.ownsRow_nil w4 0 42 2, fun b e => by simp [Value.ownBlock] at e, hr, fun b e => by
        obtain ⟨q1, q2⟩ := hb b e
        exact ⟨q1, fun hf => by have := HOB.out.low b hf; omega, by omega, by simp [Value.ownBlock]⟩⟩
      have HXR := Lib.hid hR
      have HXP := Lib.hid hp
      obtain ⟨lp, lcap, rfl, hlp⟩ := WAdw.row_shape hr
      clear hr hb OA2 sA OB2 hp hR HA HL HOB HD HAW HDA
      rw [hXl] at IM ⊢
      clear hki hlt hk
      go_wp2_with fail
      go_loopw [12, 61] (fun mv i wr => ∃ k : Nat, k ≤ n1 ∧ i = .int .i64 k ∧ Hid (∃ nb Sb, Mid W wr ga gb S X (.slice lp S.length lcap) mv nb Sb)) (fun _ i _ => n1 - (intOf i).toNat)
      case atStart => exact ⟨0, Nat.zero_le _, rfl, IM⟩
      case round =>
        obtain ⟨k, hk, rfl, HM⟩ := hrel
        clear IM
        obtain ⟨nb, Sb, M, FA, FB, q1, q2, q3, q4, q5, q6, q7, q8, q9, q10⟩ := HM.out
        by_cases hlt : k < n1
        · have hki : (k : Int) < (n1 : Int) := by omega
          obtain ⟨b, o, rfl, hb, hc⟩ := HI1.out (by omega)
          obtain ⟨x, cx, x1, x2⟩ := hc k hlt
          have cx := (q1.below.cell (p := ⟨b, o + k, none⟩) hb).trans cx
          have HMM := Lib.hid HM.out
          have HADV := Lib.hid (f_adv q2 x)
          have Q1 := Lib.hid q1
          have Q3 := Lib.hid q3
          have Q4 := Lib.hid q4
          have Q5 := Lib.hid q5
          have Q6 := Lib.hid q6
          have Q7 := Lib.hid q7
          have Q8 := Lib.hid q8
          have Q9 := Lib.hid q9
          have Q10 := Lib.hid q10
          have QW := Lib.hid q2.2.2
          have hww := q2.below.size
          have HDB := Lib.hid (due_all q2)
          have hSp := q5.length_eq
          rw [List.length_append] at hSp
          have hnb := q2.bnd.1
          clear q1 q2 q3 q4 q5 q6 q7 q8 q9 q10 HM
          clear hc
          go_wp2_with fail
          refine HADV.out.mono ?_
          rintro e w5 (⟨_, rfl, rfl⟩ | ⟨n, xv, Y, FB', h1, h2, h3, rfl, hp, hR, hr, hb', OB2, sB⟩)
          · clear cx HADV
            go_wp2_with fail
            exact ⟨⟨k + 1, by omega, by go_num, HMM⟩, by simp [intOf]; omega⟩
          · have hYl : Y.length ≤ Sb.length := by
              have := hp.length_eq
              have := List.length_filter_le (isDue n) Sb
              omega
            have hm7 := sB.row Q7.out (fun b e => (Q8.out b e).2.1)
            have HP := Lib.hid hp
            have HR := Lib.hid hR
            have HO := Lib.hid OB2
            have HSB := Lib.hid sB
            clear hp hR hb' OB2 sB cx HADV HMM
            go_wp2_with (at_builtin; refine wpList_append_row rfl (.tmp 73) (.tmp 74) 38 rfl 0 42 i0 _ 2 16 Try.underlying38 hi hz0 hz1 hz2 rfl (by omega) u12 _ _ rfl hm7 xv 0 _ _ rfl hr (WDel.encs_cells _) (by simp only [maxLen]; omega) (by omega) (Nat.zero_le _) ?_; intro mv' w6 hown6 hg6 hat6)
            exact ⟨⟨k + 1, by omega, by go_num, Lib.hid ⟨_, _, Mid.next Q1.out Q3.out QW.out Q4.out Q5.out Q6.out Q7.out Q8.out Q9.out Q10.out hww HP.out HR.out HO.out HSB.out hown6 hg6 hat6⟩⟩, by simp [intOf]; omega⟩
        · have hki : ¬ ((k : Int) < (n1 : Int)) := by omega
          have HADV := Lib.hid (f_adv q2 1099511627776)
          have Q1 := Lib.hid q1
          have Q3 := Lib.hid q3
          have Q4 := Lib.hid q4
          have Q5 := Lib.hid q5
          have Q6 := Lib.hid q6
          have Q7 := Lib.hid q7
          have Q8 := Lib.hid q8
          have Q9 := Lib.hid q9
          have Q10 := Lib.hid q10
          have QW := Lib.hid q2.2.2
          have hww := q2.below.size
          have HDB := Lib.hid (due_all q2)
          have hSp := q5.length_eq
          rw [List.length_append] at hSp
          have hnb := q2.bnd.1
          clear q1 q2 q3 q4 q5 q6 q7 q8 q9 q10 HM
          go_wp2_with fail
          refine HADV.out.mono ?_
          rintro e w5 (⟨h1, _⟩ | ⟨n, xv, Y, FB', h1, h2, h3, rfl, hp, hR, hr, hb', OB2, sB⟩)
          · omega
          have hn : n = 1099511627776 := by omega
          subst hn
          have hYl : Y.length ≤ Sb.length := by
            have := hp.length_eq
            have := List.length_filter_le (isDue 1099511627776) Sb
            omega
          have hm7 := sB.row Q7.out (fun b e => (Q8.out b e).2.1)
          have HP := Lib.hid hp
          have HR := Lib.hid hR
          have hle : Sb.filter (isLate 1099511627776) = [] := HDB.out.2
          have HO := Lib.hid OB2
          have HSB := Lib.hid sB
          clear hp hR hb' OB2 sB HADV
          go_wp2_with (at_builtin; refine wpList_append_row rfl (.tmp 85) (.tmp 86) 38 rfl 0 42 i0 _ 2 16 Try.underlying38 hi hz0 hz1 hz2 rfl (by omega) u12 _ _ rfl hm7 xv 0 _ _ rfl hr (WDel.encs_cells _) (by simp only [maxLen]; omega) (by omega) (Nat.zero_le _) ?_; intro mv' w6 hown6 hg6 hat6; obtain ⟨M', hMX, hMl, hmr, hlr, hOA, hOB⟩ := Mid.last HXR.out HXP.out (hle ▸ Mid.next Q1.out Q3.out QW.out Q4.out Q5.out Q6.out Q7.out Q8.out Q9.out Q10.out hww HP.out HR.out HO.out HSB.out hown6 hg6 hat6); obtain ⟨mp, mcap, rfl, hmp⟩ := WAdw.row_shape hmr; subst hMX; rw [hMl] at hmp ⊢)
          have hlb : 0 < S.length → ∃ b, lp = some ⟨b, 0, none⟩ ∧ WLib.RowAt w6 b M' ∧ b < w6.heap.size := fun h => by
            obtain ⟨b, hb1, hb2⟩ := hlp (by omega)
            rw [hMl] at hb2
            exact ⟨b, hb1, WLib.row_at hlr hb2, row_lt hlr hb2⟩
          have hmb : 0 < S.length → ∃ b, mp = some ⟨b, 0, none⟩ ∧ WLib.RowAt w6 b M' ∧ b < w6.heap.size := fun h => by
            obtain ⟨b, hb1, hb2⟩ := hmp h
            rw [← hMl] at hb2
            exact ⟨b, hb1, WLib.row_at hmr hb2, row_lt hmr hb2⟩
          have HLA := Lib.hid (one_len hOA)
          have HLB := Lib.hid (one_len hOB)
          have HBW := Lib.hid hOA.below
          clear hown6 hg6 hat6 hmr hlr hOA hOB HP HR HO HSB Q1 Q3 Q4 Q5 Q6 Q7 Q8 Q9 Q10 QW hm7 hr hlp hmp HDB
          refine HLA.out.mono ?_
          rintro e w' ⟨rfl, rfl⟩
          go_wp2_with fail
          refine HLB.out.mono ?_
          rintro e w' ⟨rfl, rfl⟩
          go_wp2_with fail
          clear HLA HLB
          go_loopw [118] (fun i wr => ∃ k : Nat, k ≤ S.length ∧ i = .int .i64 k ∧ Hid (Below w6.heap.size w6 wr)) (fun i _ => S.length - (intOf i).toNat)
          case atStart => exact ⟨0, Nat.zero_le _, rfl, Lib.hid (Below.refl _ _)⟩
          case round =>
            obtain ⟨k, hk, rfl, HB⟩ := hrel
            by_cases hlt : k < S.length
            · have hki : (k : Int) < ((S.length : Nat) : Int) := by omega
              obtain ⟨lb, rfl, hl1, hl2⟩ := hlb (by omega)
              obtain ⟨mb, rfl, hm1, hm2⟩ := hmb (by omega)
              obtain ⟨t, ht⟩ : ∃ t, M'[k]? = some t := ⟨M'[k], List.getElem?_eq_getElem (by omega)⟩
              have bx := Has.new wr 42 #[.int .i64 (t.1 : Int), .int .i64 (t.2 : Int)]
              have hlr := (hl1.below HB.out hl2)
              have hmr := (hm1.below HB.out hm2)
              obtain ⟨l0, l1⟩ := hlr k t ht
              obtain ⟨m0, m1⟩ := hmr k t ht
              have hnb := Lib.hid (fun n : Nat => below_drewN n (HB.out.alloc HB.out.size (.cells #[.int .i64 (t.1 : Int), .int .i64 (t.2 : Int)] 42)))
              have hnq := neqT (t.1 : Int) (t.2 : Int)
              have hlw : lb < wr.heap.size := Nat.lt_of_lt_of_le hl2 HB.out.size
              have hmw : mb < wr.heap.size := Nat.lt_of_lt_of_le hm2 HB.out.size
              by_cases hk0 : k = 0
              · subst hk0
                have b0 := (bx.cell 0).trans (show _ = some (Value.int .i64 (t.1 : Int)) from rfl)
                have b1 := (bx.cell 1).trans (show _ = some (Value.int .i64 (t.2 : Int)) from rfl)
                clear bx hlr hmr hl1 hm1
                go_wp2_with fail
                go_quiet (fail)
                go_wp2_with fail
                exact ⟨⟨1, by omega, rfl, Lib.hid (hnb.out _)⟩, by simp [intOf]; omega⟩
              · obtain ⟨j, rfl⟩ : ∃ j, k = j + 1 := ⟨k - 1, by omega⟩
                obtain ⟨u, hu⟩ : ∃ u, M'[j]? = some u := ⟨M'[j], List.getElem?_eq_getElem (by omega)⟩
                obtain ⟨p0, p1⟩ := hlr j u hu
                have hut : ltT u t := by
                  have h3 := List.pairwise_iff_getElem.1 HXR.out j (j + 1) (by omega) (by omega) (by omega)
                  obtain ⟨_, e1⟩ := List.getElem?_eq_some_iff.1 hu
                  obtain ⟨_, e2⟩ := List.getElem?_eq_some_iff.1 ht
                  rw [e1, e2] at h3
                  exact h3
                have b0 := (bx.cell 0).trans (show _ = some (Value.int .i64 (t.1 : Int)) from rfl)
                have b1 := (bx.cell 1).trans (show _ = some (Value.int .i64 (t.2 : Int)) from rfl)
                have g0 : (0 : Int) < ((j + 1 : Nat) : Int) := by omega
                have g1 : ((j + 1 : Nat) : Int) - 1 < ((S.length : Nat) : Int) := by omega
                have g2 : (0 : Int) ≤ ((j + 1 : Nat) : Int) - 1 := by omega
                have g3 : (((j + 1 : Nat) : Int) - 1).toNat = j := by omega
                have g4 : decide (((t.2 : Nat) : Int) < ((u.2 : Nat) : Int)) = false := by unfold ltT at hut; exact decide_eq_false (by omega)
                have g4n : decide (t.2 < u.2) = false := by unfold ltT at hut; exact decide_eq_false (by omega)
                have g5 : ((j : Nat) : Int) < ((S.length : Nat) : Int) := by omega
                have g6 : (0 : Int) ≤ (j : Int) + 1 := by omega
                have g10 : (0 : Int) ≤ (j : Int) := by omega
                have g11 : (j : Int) + 1 - 1 = (j : Int) := by omega
                have g12 : IntKind.i64.wrap (j : Int) = (j : Int) := by rw [IntKind.wrap_i64]; omega
                have g7 : (j : Int) + 1 < ((S.length : Nat) : Int) := by omega
                have g8 : ((j : Int) + 1).toNat = j + 1 := by omega
                have g9 : (0 : Int) < (j : Int) + 1 := by omega
                clear bx hlr hmr hl1 hm1 HXR
                by_cases he : u.2 = t.2
                · have e1 : (((u.2 : Nat) : Int) == ((t.2 : Nat) : Int)) = true := by rw [he]; simp
                  have e2 : decide (((t.1 : Nat) : Int) ≤ ((u.1 : Nat) : Int)) = false := by unfold ltT at hut; exact decide_eq_false (by omega)
                  have e2n : decide (t.1 ≤ u.1) = false := by unfold ltT at hut; exact decide_eq_false (by omega)
                  have e1n : (u.2 == t.2) = true := by rw [he]; simp
                  have e1m : decide (u.2 = t.2) = true := by rw [he]; simp
                  clear hut he
                  go_wp2_with fail
                  go_quiet (fail)
                  go_wp2_with fail
                  exact ⟨⟨j + 1 + 1, by omega, by go_num, Lib.hid (hnb.out _)⟩, by simp [intOf]; omega⟩
                · have e1 : (((u.2 : Nat) : Int) == ((t.2 : Nat) : Int)) = false := by simp; omega
                  have e1n : (u.2 == t.2) = false := by simpa using he
                  have e1m : decide (u.2 = t.2) = false := decide_eq_false he
                  clear hut he
                  go_wp2_with fail
                  go_quiet (fail)
                  go_wp2_with fail
                  exact ⟨⟨j + 1 + 1, by omega, by go_num, Lib.hid (hnb.out _)⟩, by simp [intOf]; omega⟩
            · have hki : ¬ ((k : Int) < ((S.length : Nat) : Int)) := by omega
              have HE := Lib.hid (HBW.out.trans (HB.out.mono HBW.out.size))
              go_wp2_with fail
              go_ret
              exact ⟨rfl, HE.out⟩

/-! ### the row's step -/
set_option maxRecDepth 100000 in
theorem lifted (os : Os) (started : os.Started) (H : Type) (enc : TypeId × Value → H) :
    ReturnsInHanded {} Try.checked os 4 .any (Rows.wheelPiecesSpec.pre6 enc Try.prog Try.f4 Rows.wheelPiecesRow.domain false) (Rows.wheelPiecesSpec.post enc Try.prog Try.f4 false true false false) := by
  refine returnsInHanded_of_change_sized (C := Try.checked) LawBase.own started (by kernel_rfl) Try.func4
    (ChangeSpec.witness6 (enc := enc) (C := Try.checked) false ⟨#[], #[.slice none 0 0, .slice none 0 0], []⟩ 8 (by kernel_rfl) (by kernel_rfl) (by kernel_rfl) (by kernel_rfl)) ?_
  intro W base args ds gs before hval0 hW hcnd hsz0 _
  have hval : ∀ (j : Nat) t v, Try.f4.params[j]? = some t → args[j]? = some v → Value.okWide Try.prog W .any base t v := hval0
  have hW' := hW
  obtain ⟨p, q, hA0, hV, rfl, hfz, hnd⟩ := hW
  have hA : DataW.TrodAll enc Try.prog W 0 (fun _ => true) true Try.f4.params.toList args.toList ds p := hA0
  rw [Try.params4] at hA hval
  have hlt : ∀ x ∈ p ++ q, x.block < W.heap.size := fun x hx => by simpa using hW'.lt x hx
  obtain ⟨v0, vs0, d0, ds0, p0, q0, hargs, rfl, rfl, h0, r0⟩ := trodAll_cons hA
  obtain ⟨v1, vs1, d1, ds1, p1, q1, rfl, rfl, rfl, h1, r1⟩ := trodAll_cons r0
  obtain ⟨rfl, rfl, rfl⟩ := trodAll_nil r1
  obtain rfl : args = #[v0, v1] := by cases args; simp_all
  obtain ⟨rfl, rfl⟩ := trodVars_none hV
  have l0 : ∀ x ∈ p0, x.block < W.heap.size := fun x hx => hlt x (by simp [hx])
  have l1 : ∀ x ∈ p1, x.block < W.heap.size := fun x hx => hlt x (by simp [hx])
  refine (walk (enc := enc) (W := W) v0 d0 p0 (hval 0 34 v0 rfl rfl) h0 l0 v1 d1 p1 (hval 1 34 v1 rfl rfl) h1 l1).mono fun e W' ⟨he, hb⟩ => ?_
  subst he
  exact ⟨_, rfl, LawKit.law_post LawBase.laidOut (by kernel_rfl) hW' rfl rfl (by kernel_rfl) Try.underlying4 hb⟩

theorem over : Rows.wheelPiecesRow.holds Try.pinned (OpenSpec.ofChange Rows.wheelPiecesSpec) :=
  OpenClaim.holds_of_wide 4 Try.f4 rfl rfl rfl rfl rfl rfl rfl ⟨rfl, rfl, rfl, rfl, rfl⟩ rfl rfl rfl rfl rfl (by kernel_rfl) Try.func4 (by kernel_rfl)
    (of_decide_eq_true (by kernel_rfl)) (by unfold Func.isWrapper; first | (rw [if_pos (by decide +kernel)]; kernel_rfl) | (rw [if_neg (by decide +kernel)]; exact ⟨rfl, rfl⟩))
    (fun os started H enc _ => lifted os started H enc)

/-- THE STATEMENT -/
theorem proved : Rows.WheelPiecesSaid :=
  over

end Go.Proofs.Ytcobjejaflikjaa.WheelPiecesP
