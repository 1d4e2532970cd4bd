/- For every integer n: WheelMemory returns true. No condition. -/
import Derived.Test.YtcobjejaflikjaaWheelOneF
import Derived.Test.YtcobjejaflikjaaLawBase
namespace Go.Proofs.Ytcobjejaflikjaa.WheelMemoryP
open Go.ChangeShapes Go.WideShapes Go.ChangeAt Go.RowKit Go.Maps WMath Mem Step WObj WOrd WMm WOps WSet WMin WSort WAdv WOne WOneF

/-- the first k pairs of timers that are set -/
def memS : Nat → List Tm
  | 0 => []
  | k + 1 => (200 + k, 9) :: (k, 5) :: memS k
theorem memS_len : ∀ k, (memS k).length = 2 * k
  | 0 => rfl
  | k + 1 => by simp [memS, memS_len k]; omega
theorem memS_mem : ∀ k (t : Tm), t ∈ memS k ↔ (t.1 < k ∧ t.2 = 5) ∨ (200 ≤ t.1 ∧ t.1 < 200 + k ∧ t.2 = 9)
  | 0, t => by simp [memS]; omega
  | k + 1, t => by
    rw [memS, List.mem_cons, List.mem_cons, memS_mem k t]
    constructor
    · rintro (rfl | rfl | h)
      · exact .inr ⟨by simp, by simp, rfl⟩
      · exact .inl ⟨by simp, rfl⟩
      · omega
    · intro h
      by_cases h1 : t.1 = k ∧ t.2 = 5
      · exact .inr (.inl (Prod.ext h1.1 h1.2))
      · by_cases h2 : t.1 = 200 + k ∧ t.2 = 9
        · exact .inl (Prod.ext h2.1 h2.2)
        · exact .inr (.inr (by omega))
theorem mem_set1 (k : Nat) (hk : k < 100) : setE 0 (memS k) k 5 = 0 ∧ setS 0 (memS k) k 5 = (k, 5) :: memS k := by
  have e : setE 0 (memS k) k 5 = 0 := by
    unfold setE
    rw [if_neg (by omega), if_neg (by omega), if_neg (by rw [memS_len]; omega)]
  refine ⟨e, ?_⟩
  unfold setS
  rw [if_pos e, without_no]
  · rfl
  · intro t ht
    have := (memS_mem k t).1 ht
    omega
theorem mem_set2 (k : Nat) (hk : k < 100) : setE 0 ((k, 5) :: memS k) (200 + (k : Int)) 9 = 0 ∧ setS 0 ((k, 5) :: memS k) (200 + (k : Int)) 9 = memS (k + 1) := by
  have e : setE 0 ((k, 5) :: memS k) (200 + (k : Int)) 9 = 0 := by
    unfold setE
    rw [if_neg (by omega), if_neg (by omega), if_neg (by rw [List.length_cons, memS_len]; omega)]
  refine ⟨e, ?_⟩
  unfold setS
  rw [if_pos e, without_no]
  · rw [memS, show (200 + (k : Int)).toNat = 200 + k by omega]; rfl
  · intro t ht
    rcases List.mem_cons.1 ht with rfl | ht
    · simp only; omega
    · have := (memS_mem k t).1 ht
      omega
/-- two lists in their order that hold the same are one -/
theorem rising_ext : ∀ {X Y : List Tm}, Rising X → Rising Y → (∀ t, t ∈ X ↔ t ∈ Y) → X = Y
  | [], [], _, _, _ => rfl
  | [], y :: Y, _, _, h => by have := (h y).2 (by simp); cases this
  | x :: X, [], _, _, h => by have := (h x).1 (by simp); cases this
  | x :: X, y :: Y, hX, hY, h => by
    obtain ⟨x1, x2⟩ := List.pairwise_cons.1 hX
    obtain ⟨y1, y2⟩ := List.pairwise_cons.1 hY
    have hxy : x = y := by
      rcases List.mem_cons.1 ((h x).1 (by simp)) with e | e
      · exact e
      · rcases List.mem_cons.1 ((h y).2 (by simp)) with e' | e'
        · exact e'.symm
        · exact absurd (ltT_trans (x1 y e') (y1 x e)) (ltT_irrefl x)
    subst hxy
    congr 1
    refine rising_ext x2 y2 fun t => ⟨fun ht => ?_, fun ht => ?_⟩
    · rcases List.mem_cons.1 ((h t).1 (by simp [ht])) with rfl | e
      · exact absurd (x1 t ht) (ltT_irrefl t)
      · exact e
    · rcases List.mem_cons.1 ((h t).2 (by simp [ht])) with rfl | e
      · exact absurd (y1 t ht) (ltT_irrefl t)
      · exact e
def rowT (o a n : Nat) : List Tm := (List.range n).map fun j => (o + j, a)
theorem rowT_mem (o a n : Nat) (t : Tm) : t ∈ rowT o a n ↔ o ≤ t.1 ∧ t.1 < o + n ∧ t.2 = a := by
  simp only [rowT, List.mem_map, List.mem_range]
  constructor
  · rintro ⟨j, hj, rfl⟩
    exact ⟨by simp, by simp; omega, rfl⟩
  · rintro ⟨h1, h2, h3⟩
    exact ⟨t.1 - o, by omega, Prod.ext (by simp; omega) h3.symm⟩
theorem rowT_rising (o a n : Nat) : Rising (rowT o a n) := by
  unfold Rising rowT
  rw [List.pairwise_map]
  refine List.Pairwise.imp (fun {i j} h => ?_) (List.pairwise_lt_range (n := n))
  exact .inr ⟨rfl, Nat.add_lt_add_left h o⟩
theorem rowT_len (o a n : Nat) : (rowT o a n).length = n := by simp [rowT]
theorem rowT_get (o a n i : Nat) (h : i < n) : (rowT o a n)[i]? = some (o + i, a) := by simp [rowT, h]
theorem fired5 {n : Nat} {X : List Tm} (hp : X.Perm ((memS n).filter (isDue 5))) (hR : Rising X) : X = rowT 0 5 n := by
  refine rising_ext hR (rowT_rising 0 5 n) fun t => ?_
  rw [hp.mem_iff, List.mem_filter, memS_mem, rowT_mem]
  simp only [isDue, isLate, Bool.not_eq_true', decide_eq_false_iff_not]
  omega
theorem fired9 {n : Nat} {X : List Tm} (hp : X.Perm (((memS n).filter (isLate 5)).filter (isDue 9))) (hR : Rising X) : X = rowT 200 9 n := by
  refine rising_ext hR (rowT_rising 200 9 n) fun t => ?_
  rw [hp.mem_iff, List.mem_filter, List.mem_filter, memS_mem, rowT_mem]
  simp only [isDue, isLate, Bool.not_eq_true', decide_eq_false_iff_not, decide_eq_true_iff]
  omega
theorem left9 (n : Nat) : ((memS n).filter (isLate 5)).filter (isLate 9) = [] := by
  rw [List.filter_eq_nil_iff]
  intro t ht
  have := (memS_mem n t).1 (List.mem_filter.1 ht).1
  simp only [isLate, decide_eq_true_iff]
  omega

/-- the first k of the list's timers are marked -/
def Marked (w9 : World) (ba cap : Nat) (k : Nat) (wr : World) : Prop :=
  ∃ cs, Has wr ba 42 cs ∧ cs.size = cap * 2 ∧ (∀ j, j < k → cs[j * 2]? = some (.int .i64 (-1))) ∧ Step w9 wr (fun b => b = ba) (fun b => b = ba)
theorem Marked.next {w9 wr : World} {ba cap k : Nat} {cs : Array Value} (h1 : Has wr ba 42 cs) (h2 : cs.size = cap * 2) (h3 : ∀ j, j < k → cs[j * 2]? = some (.int .i64 (-1))) (h4 : Step w9 wr (fun b => b = ba) (fun b => b = ba)) (hk : k < cap) :
    Marked w9 ba cap (k + 1) ((wr.setCell ⟨ba, k * 2, none⟩ (.int .i64 (-1))).setCell ⟨ba, k * 2 + 1, none⟩ (.int .i64 0)) := by
  refine ⟨_, (h1.set_ (k * 2) (.int .i64 (-1))).set_ (k * 2 + 1) (.int .i64 0), by simpa using h2, fun j hj => ?_, (h4.trans (Step.set_ wr (F := fun b => b = ba) (g := ba) rfl (k * 2) _)).trans (Step.set_ _ (F := fun b => b = ba) (g := ba) rfl (k * 2 + 1) _)⟩
  rw [Array.getElem?_setIfInBounds_ne (by omega)]
  by_cases e : j = k
  · subst e
    rw [Array.getElem?_setIfInBounds_self_of_lt (by omega)]
  · rw [Array.getElem?_setIfInBounds_ne (by omega)]
    exact h3 j (by omega)

theorem shape_pos {w : World} {v : Value} {n : Nat} {xs : List Value} (h : w.ownsRow 0 42 2 v n xs) (hn : 0 < n) : ∃ b cap, v = .slice (some ⟨b, 0, none⟩) n cap := by
  rcases h.2 with ⟨_, h⟩ | ⟨b, cap, _, h, _⟩
  · omega
  · exact ⟨b, cap, h⟩
theorem cells_at {w : World} {b n cap : Nat} {xs : List Value} (h : w.ownsRow 0 42 2 (.slice (some ⟨b, 0, none⟩) n cap) n xs) {i : Nat} {u : Value} (hu : xs[i]? = some u) : w.cell? ⟨b, i, none⟩ = some u := by
  have := h.cells (g := b) rfl i u hu
  rwa [show (⟨b, 0, none⟩ : Addr).add i = ⟨b, i, none⟩ by unfold Addr.add; split <;> simp_all] at this

set_option maxHeartbeats 6400000 in
set_option maxRecDepth 100000 in
theorem walk (n0 : Int) (w0 : (Lit.int .i64 n0).wf = true) (W : World) :
    Calls Try.prog 7 #[.int .i64 n0] W fun e w' => e = .returned (.bool true) ∧ Below W.heap.size W w' := by
  obtain ⟨l0, u0⟩ := bounds_i64 w0
  clear w0
  obtain ⟨i0, hi, hz0, hz1, hz2⟩ := info_parts infoT
  go_enter Try.func7, Try.ntmps7
  go_wp2_with fail
  refine (anchor_any W).mono ?_
  rintro e w1 ⟨rfl, hb1⟩
  by_cases q1 : n0 < 1
  · have HB := Lib.hid hb1
    clear hb1
    go_wp2_with fail
    go_ret
    exact ⟨rfl, HB.out⟩
  · by_cases q2 : 100 < n0
    · have HB := Lib.hid hb1
      clear hb1
      go_wp2_with fail
      go_ret
      exact ⟨rfl, HB.out⟩
    · obtain ⟨n, rfl⟩ : ∃ n : Nat, n0 = n := ⟨n0.toNat, by omega⟩
      have HN := Lib.hid (one_new W w1 hb1)
      clear hb1
      go_wp2_with fail
      refine HN.out.mono ?_
      rintro e w2 ⟨g, rfl, O2⟩
      have I0 : Hid (WOne.One W w2 g 0 (memS 0)) := Lib.hid O2
      clear O2 HN
      go_wp2_with fail
      go_loopw [4] (fun i wr => ∃ k : Nat, k ≤ n ∧ i = .int .i64 k ∧ Hid (WOne.One W wr g 0 (memS k))) (fun i _ => n - (intOf i).toNat)
      case atStart => exact ⟨0, Nat.zero_le _, rfl, I0⟩
      case round =>
        obtain ⟨k, hk, rfl, HO⟩ := hrel
        clear I0
        by_cases hlt : k < n
        · have hki : (k : Int) < (n : Int) := by omega
          have hs := WOne.one_set HO.out k 5 (by omega) (by omega)
          rw [(mem_set1 k (by omega)).1, (mem_set1 k (by omega)).2] at hs
          have HS := Lib.hid hs
          clear hs HO
          go_wp2_with fail
          refine HS.out.mono ?_
          rintro e w3 ⟨rfl, O3⟩
          have hs := WOne.one_set O3 (200 + (k : Int)) 9 (by omega) (by omega)
          rw [(mem_set2 k (by omega)).1, (mem_set2 k (by omega)).2] at hs
          have HS2 := Lib.hid hs
          clear hs O3 HS
          go_wp2_with fail
          refine HS2.out.mono ?_
          rintro e w4 ⟨rfl, O4⟩
          have HO4 := Lib.hid O4
          clear O4
          go_wp2_with fail
          exact ⟨⟨k + 1, by omega, by go_num, HO4⟩, by simp [intOf]; omega⟩
        · have hkn : k = n := by omega
          subst hkn
          obtain ⟨F, hO⟩ := HO.out
          have hWr := HO.out.below.size
          have HA := Lib.hid (f_adv (show OneF W wr g 0 (memS k) F from hO) 5)
          clear hO HO
          go_wp2_with fail
          refine HA.out.mono ?_
          rintro e w5 (⟨h1, _⟩ | ⟨n5, av, X5, F5, h1, _, _, rfl, hp5, hR5, hr5, hb5, O5, s5⟩)
          · omega
          have hn5 : n5 = 5 := by omega
          subst hn5
          have hX5 := fired5 hp5 hR5
          subst hX5
          have HA9 := Lib.hid (f_adv O5 9)
          rw [rowT_len] at hr5
          obtain ⟨ba, capa, rfl, hba, hbaW⟩ : ∃ ba capa, av = .slice (some ⟨ba, 0, none⟩) k capa ∧ ¬ F5 ba ∧ wr.heap.size ≤ ba := by
            rcases hr5.2 with ⟨_, h⟩ | ⟨b, cap, _, rfl, _⟩
            · omega
            · exact ⟨b, cap, rfl, (hb5 b rfl).1, (hb5 b rfl).2⟩
          have hbal := row_lt hr5 (b := ba) rfl
          have HR5 := Lib.hid hr5
          clear HA hp5 hR5 hr5 hb5 O5 s5
          go_wp2_with fail
          refine HA9.out.mono ?_
          rintro e w9 (⟨h1, _⟩ | ⟨n9, bv, X9, F9, h1, _, _, rfl, hp9, hR9, hr9, hb9, O9, s9⟩)
          · omega
          have hn9 : n9 = 9 := by omega
          subst hn9
          have hX9 := fired9 hp9 hR9
          subst hX9
          rw [left9] at O9
          rw [rowT_len] at hr9
          obtain ⟨bb, capb, rfl, hbb⟩ : ∃ bb capb, bv = .slice (some ⟨bb, 0, none⟩) k capb ∧ w5.heap.size ≤ bb := by
            rcases hr9.2 with ⟨_, h⟩ | ⟨b, cap, _, rfl, _⟩
            · omega
            · exact ⟨b, cap, rfl, (hb9 b rfl).2⟩
          have hba9 := apart s9 hbal hba
          have hr59 := s9.row HR5.out (fun b e => by simp [Value.ownBlock] at e; rw [← e]; exact hba)
          obtain ⟨cur, hkc, hcm, hcs, _, hh⟩ : ∃ cur : Array Value, k ≤ capa ∧ capa ≤ maxLen ∧ cur.size = capa * 2 ∧ cur.toList.take (k * 2) = encs (rowT 0 5 k) ∧ Has w9 ba 42 cur := by
            rcases hr59.2 with ⟨h, _⟩ | ⟨g, cap', cur, he, _, hh, h1, h2, h3, h4⟩
            · cases h
            · simp only [Value.slice.injEq, Option.some.injEq, Addr.mk.injEq, and_true, true_and] at he
              obtain ⟨rfl, rfl⟩ := he
              exact ⟨cur, h1, h2, h3, h4, ⟨hh⟩⟩
          have hab : bb ≠ ba := by omega
          have hWa : W.heap.size ≤ ba := by omega
          have hbbl := row_lt hr9 (b := bb) rfl
          have I1 : Hid (Marked w9 ba capa 0 w9) := Lib.hid ⟨cur, hh, hcs, fun j hj => by omega, Step.refl _ _⟩
          have HR9 := Lib.hid hr9
          have HO9 := Lib.hid O9
          clear hr9 hr59 O9 s9 hh hcs HA9 hp9 hR9 hb9 HR5
          go_wp2_with fail
          go_loopw [9, 61] (fun _ i wr => ∃ j : Nat, j ≤ k ∧ i = .int .i64 j ∧ Hid (Marked w9 ba capa j wr)) (fun _ i _ => k - (intOf i).toNat)
          case atStart => exact ⟨0, Nat.zero_le _, rfl, I1⟩
          case round =>
            obtain ⟨j, hj, rfl, HM⟩ := hrel
            clear I1
            obtain ⟨cs, m1, m2, m3, m4⟩ := HM.out
            by_cases hjl : j < k
            · have hji : (j : Int) < (k : Int) := by omega
              have c0 : wr.cell? ⟨ba, j * 2, none⟩ = some cs[j * 2] := by rw [m1.cell, Array.getElem?_eq_getElem (by omega)]
              have c1 : wr.cell? ⟨ba, j * 2 + 1, none⟩ = some cs[j * 2 + 1] := by rw [m1.cell, Array.getElem?_eq_getElem (by omega)]
              have f0 := m1.free (j * 2)
              have f1 := m1.free (j * 2 + 1)
              have HI := Lib.hid (Marked.next m1 m2 m3 m4 (by omega))
              generalize cs[j * 2] = u0 at c0
              generalize cs[j * 2 + 1] = u1 at c1
              clear m1 m2 m3 m4 HM
              go_wp2_with fail
              exact ⟨⟨j + 1, by omega, by go_num, HI⟩, by simp [intOf]; omega⟩
            · have hjk : j = k := by omega
              subst hjk
              have hrowA : wr.ownsRow 0 42 2 (.slice (some ⟨ba, 0, none⟩) j capa) j (cs.toList.take (j * 2)) :=
                ⟨by simp; omega, .inr ⟨ba, capa, cs, rfl, Nat.zero_le _, m1.at_, by omega, hcm, m2, rfl⟩⟩
              have hrowB := m4.row HR9.out (fun b e => by simp [Value.ownBlock] at e; omega)
              have HOW := Lib.hid (HO9.out.far m4 (fun b hb e => hba9 (e ▸ hb)) (fun b e => e ▸ hWa))
              have R3 := hrowA.alloc (.cells #[.int .i64 (-2), .int .i64 0, .int .i64 (-2), .int .i64 0] 42)
              have HN := Lib.hid (World.news_of_block (heap_alloc_new wr (.cells #[.int .i64 (-2), .int .i64 0, .int .i64 (-2), .int .i64 0] 42)))
              have M3 := Lib.hid m3
              have HRB := Lib.hid hrowB
              have hcl : (cs.toList.take (j * 2)).length = j * 2 := by simp; omega
              have hll : j + 2 ≤ maxLen := by unfold maxLen; omega
              clear hrowA hrowB m3 m1 m4 HM HR9 HO9
              go_wp2_with (at_builtin; refine wpList_append_own_at _ rfl (.tmp 69) (.tmp 72) 38 rfl 0 42 i0 _ 2 16 Try.underlying38 hi hz0 hz1 hz2 rfl (by omega) (.slice (some ⟨ba, 0, none⟩) j capa) j _ rfl R3 ⟨wr.heap.size, 0, none⟩ 2 2 [.int .i64 (-2), .int .i64 0, .int .i64 (-2), .int .i64 0] rfl rfl HN.out (by simp [Value.oneCell']) hll (by omega) (Nat.zero_le _) ?_; intro cv w4 hown4 hg4 _ hat4; obtain ⟨bc, capc, rfl⟩ : ∃ bc capc, cv = .slice (some ⟨bc, 0, none⟩) (j + 2) capc := shape_pos hown4 (by omega))
              have s34 : Step wr w4 (fun b => b = ba) (fun b => b = ba) := (Step.alloc wr _ _).trans (Step.of_grown hg4 (fun k e => by simp [Value.ownBlock] at e; exact e.symm))
              have hrb4 : w4.ownsRow 0 42 2 (.slice (some ⟨bb, 0, none⟩) j capb) j (encs (rowT 200 9 j)) := s34.row HRB.out (fun b e e' => by
                have e2 : some bb = some b := e
                injection e2 with e2
                exact hab (e2.trans e'))
              have HRB4 := Lib.hid (WLib.row_at (base := 0) (l := rowT 200 9 j) (v := .slice (some ⟨bb, 0, none⟩) j capb) (b := bb) (by rw [rowT_len]; exact hrb4) rfl)
              clear hrb4
              have HC4 := Lib.hid (fun i (h : i < j) => cells_at hown4 (i := i * 2) (u := .int .i64 (-1)) (by
                rw [List.getElem?_append_left (by rw [hcl]; omega), List.getElem?_take_of_lt (by omega)]
                simpa using M3.out i h))
              have HOW4 := Lib.hid (HOW.out.far s34 (fun b hb e => hba9 (e ▸ hb)) (fun b e => e ▸ hWa))
              clear s34 hg4 hat4 hown4 R3 HN M3 HRB HOW hcl
              go_wp2_with fail
              go_loop [11, 76] (fun _ i => ∃ i0 : Nat, i0 ≤ j ∧ i = .int .i64 i0) (fun _ i => j - (intOf i).toNat)
              case atStart => exact ⟨0, Nat.zero_le _, rfl⟩
              case round =>
                obtain ⟨i, hij, rfl⟩ := hrel
                by_cases hil : i < j
                · have hii : (i : Int) < (j : Int) := by omega
                  have hij2 : (i : Int) < ((j + 2 : Nat) : Int) := by omega
                  have hij3 : (i : Int) < ((j : Nat) : Int) + 2 := by omega
                  obtain ⟨b0, _⟩ := HRB4.out i _ (rowT_get 200 9 j i hil)
                  have c0 := HC4.out i hil
                  go_wp2_with fail
                  exact ⟨⟨i + 1, by omega, by go_num⟩, by simp [intOf]; omega⟩
                · have HL := Lib.hid (one_len HOW4.out.one)
                  have HB := Lib.hid HOW4.out.below
                  go_wp2_with fail
                  refine HL.out.mono ?_
                  rintro e w' ⟨rfl, rfl⟩
                  go_wp2_with fail
                  go_ret
                  exact ⟨rfl, HB.out⟩

/-! ### the row's step -/
set_option maxRecDepth 100000 in
theorem lifted (os : Os) (started : os.Started) (H : Type) (enc : TypeId × Value → H) :
    ReturnsInHanded {} Try.checked os 7 .any (Rows.wheelMemorySpec.pre6 enc Try.prog Try.f7 Rows.wheelMemoryRow.domain false) (Rows.wheelMemorySpec.post enc Try.prog Try.f7 false true false false) := by
  refine returnsInHanded_of_change_sized (C := Try.checked) LawBase.own started (by kernel_rfl) Try.func7
    (ChangeSpec.witness6 (enc := enc) (C := Try.checked) false ⟨#[], #[.int .i64 0], []⟩ 8 (by kernel_rfl) (by kernel_rfl) (by kernel_rfl) (by kernel_rfl)) ?_
  intro W base args ds gs before hval0 hW hcnd hsz0 _
  have hval : ∀ (j : Nat) t v, Try.f7.params[j]? = some t → args[j]? = some v → Value.okWide Try.prog W .any base t v := hval0
  have hW' := hW
  obtain ⟨p, q, hA0, hV, rfl, hfz, hnd⟩ := hW
  have hA : DataW.TrodAll enc Try.prog W 0 (fun _ => true) true Try.f7.params.toList args.toList ds p := hA0
  rw [Try.params7] at hA hval
  have hlt : ∀ x ∈ p ++ q, x.block < W.heap.size := fun x hx => by simpa using hW'.lt x hx
  obtain ⟨v0, vs0, d0, ds0, p0, q0, hargs, rfl, rfl, h0, r0⟩ := trodAll_cons hA
  obtain ⟨rfl, rfl, rfl⟩ := trodAll_nil r0
  obtain rfl : args = #[v0] := by cases args; simp_all
  obtain ⟨rfl, rfl⟩ := trodVars_none hV
  obtain ⟨a0, rfl, rfl, rfl, w0⟩ := open_int Try.underlying3 (hval 0 3 v0 rfl rfl) h0
  refine (walk a0 w0 W).mono fun e W' ⟨he, hb⟩ => ?_
  subst he
  exact ⟨_, rfl, LawKit.law_post LawBase.laidOut (by kernel_rfl) hW' rfl rfl (by kernel_rfl) Try.underlying4 hb⟩

theorem over : Rows.wheelMemoryRow.holds Try.pinned (OpenSpec.ofChange Rows.wheelMemorySpec) :=
  OpenClaim.holds_of_wide 7 Try.f7 rfl rfl rfl rfl rfl rfl rfl ⟨rfl, rfl, rfl, rfl, rfl⟩ rfl rfl rfl rfl rfl (by kernel_rfl) Try.func7 (by kernel_rfl)
    (of_decide_eq_true (by kernel_rfl)) (by unfold Func.isWrapper; first | (rw [if_pos (by decide +kernel)]; kernel_rfl) | (rw [if_neg (by decide +kernel)]; exact ⟨rfl, rfl⟩))
    (fun os started H enc _ => lifted os started H enc)

/-- THE STATEMENT -/
theorem proved : Rows.WheelMemorySaid :=
  over

end Go.Proofs.Ytcobjejaflikjaa.WheelMemoryP
