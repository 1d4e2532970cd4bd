/- Texts of this seat, one behind another: R16Cors, R16Dice, BucketRef, BucketRefO, R16Box, R7RemBig, R7SetBig, R16OneA. -/
import Derived.Handy
import Derived.OwnWalk
import Derived.Maps.AppendAt
import Derived.Deep.AppendLies
import Derived.Test.YtfdpoibmlggfbaaA2
import Derived.Test.YtfdpoibmlggfbaaA1
import Derived.Test.YtfdpoibmlggfbaaR1
import Derived.Test.YtfdpoibmlggfbaaA4
import Derived.Test.YtfdpoibmlggfbaaR2
/- The document's layer 16: say and cors. -/
namespace Go.Proofs.Ytfdpoibmlggfbaa.R16Cors
open Go.ChangeShapes Go.WideShapes Go.ChangeAt Go.RowKit Bytes LexPure ConfPure ConfMem FieldsPure Flds FilterPure FiltState FiltKeep FiltObj R14Eq Ret Mem Step
set_option maxRecDepth 100000
set_option linter.unusedVariables false
set_option linter.unusedSimpArgs false
abbrev VT : TypeId := 42
theorem verd_size : (Try.prog.info? 42).map (·.size) = some 5 := by kernel_rfl
def zV : Array Value := #[.bool false, .int .i64 0, .slice none 0 0, .string ⟨#[]⟩, .slice none 0 0]
theorem rsay_any (status : Int) (body : ByteArray) (w : World) :
    Calls Try.prog 39 #[.int .i64 status, .string body] w fun e w' => e = .returned (.agg #[.bool true, .int .i64 status, .slice none 0 0, .string body, .slice none 0 0]) ∧ Below w.heap.size w w' := by
  have HZ := Has.new w 42 #[.bool false, .int .i64 0, .slice none 0 0, .string ⟨#[]⟩, .slice none 0 0]
  have hb := (Below.refl w.heap.size w).alloc (Nat.le_refl _) (.cells #[.bool false, .int .i64 0, .slice none 0 0, .string ⟨#[]⟩, .slice none 0 0] 42)
  have HX := has_set HZ #[.bool true, .int .i64 status, .slice none 0 0, .string body, .slice none 0 0]
  have HB := below_set hb #[.bool true, .int .i64 status, .slice none 0 0, .string body, .slice none 0 0] (Nat.le_refl _)
  go_enter Try.func39, Try.ntmps39
  go_wp2_with (refine store_whole rfl 42 5 verd_size _ _ rfl w.heap.size _ _ HZ rfl rfl (by simp [Value.oneCell']) rfl rfl ?_)
  refine bodyPost_ret (v := .agg #[.bool true, .int .i64 status, .slice none 0 0, .string body, .slice none 0 0]) (results_cell_row rfl _ _ w.heap.size 42 _ (0, 0) _ rfl HX.at_ Try.underlying42 rfl (by kernel_rfl)) rfl ?_
  exact ⟨rfl, HB⟩
def cors16 (f : Filt) (method : L) (G : List HField) : Verd := if pre16 method G then say16 200 [(ACAO, f.value), (ACAM, getV G ACRM)] [] else none16
theorem toList_options (mt : ByteArray) : (mt.toList == [79, 80, 84, 73, 79, 78, 83]) = (toL mt == OPTIONS) := by rw [ByteArray.toList_eq]; rfl
set_option maxHeartbeats 3200000 in
theorem rcors_any (x : Filt) (mt : ByteArray) (vl : Value) (G : List HField) (hG : Few G) (w : World) (hF : FL w vl G) :
    Calls Try.prog 40 #[.agg #[.int .i64 x.kind, .string (ofL x.name), .string (ofL x.value), .int .i64 x.n, .int .i64 x.m, .int .i64 x.k], .string mt, vl] w fun e w' =>
      ∃ fl, e = .returned (.agg (vrdA (cors16 x (toL mt) G) fl (.slice none 0 0))) ∧ Lst w' w.heap.size fl (cors16 x (toL mt) G).fields ∧ Below w.heap.size w w' := by
  obtain ⟨pl, cl, rfl, -, -⟩ := id hF
  have hb0 := ((Below.refl w.heap.size w).alloc (Nat.le_refl _) (.cells #[.int .i64 x.kind, .string (ofL x.name), .string (ofL x.value), .int .i64 x.n, .int .i64 x.m, .int .i64 x.k] 29))
  have hb1 := hb0.alloc hb0.size (.cells #[.bool false, .int .i64 0, .slice none 0 0, .string ⟨#[]⟩, .slice none 0 0] 42)
  have HF1 := Lib.hid (hF.below hb1)
  have HX1 := Lib.hid ((Has.new w 29 #[.int .i64 x.kind, .string (ofL x.name), .string (ofL x.value), .int .i64 x.n, .int .i64 x.m, .int .i64 x.k]).alloc (.cells #[.bool false, .int .i64 0, .slice none 0 0, .string ⟨#[]⟩, .slice none 0 0] 42))
  have HZ1 := Lib.hid (Has.new (w.alloc (.cells #[.int .i64 x.kind, .string (ofL x.name), .string (ofL x.value), .int .i64 x.n, .int .i64 x.m, .int .i64 x.k] 29)) 42 #[.bool false, .int .i64 0, .slice none 0 0, .string ⟨#[]⟩, .slice none 0 0])
  have HG := Lib.hid hG
  have HB1 := Lib.hid hb1
  clear hF hG hb0 hb1
  obtain ⟨V, hV⟩ : ∃ V, Hid (V = cors16 x (toL mt) G) := ⟨_, Lib.hid rfl⟩
  rw [← hV.out]
  go_enter Try.func40, Try.ntmps40
  go_wp2_with fail
  refine (R7Get.rget_any _ G _ (by decide) HG.out _ HF1.out).mono ?_
  rintro e w2 ⟨rfl, hb2⟩
  have HF2 := Lib.hid (HF1.out.below hb2)
  have HX2 := Lib.hid (HX1.out.below hb2 HX1.out.lt)
  have HZ2 := Lib.hid (HZ1.out.below hb2 HZ1.out.lt)
  have HB2 := Lib.hid (below_chain HB1.out hb2)
  clear hb2 HF1 HX1 HZ1 HB1
  go_wp2_with fail
  refine (R7Get.rget_any _ G _ (by decide) HG.out _ HF2.out).mono ?_
  rintro e w3 ⟨rfl, hb3⟩
  have HX3 := Lib.hid (HX2.out.below hb3 HX2.out.lt)
  have HZ3 := Lib.hid (HZ2.out.below hb3 HZ2.out.lt)
  have HB3 := Lib.hid (below_chain HB2.out hb3)
  clear hb3 HF2 HX2 HZ2 HB2
  obtain ⟨n1, hn1⟩ : ∃ n, n = getN G (toL ⟨#[111, 114, 105, 103, 105, 110]⟩) := ⟨_, rfl⟩
  obtain ⟨v1, hv1⟩ : ∃ n, n = getV G (toL ⟨#[111, 114, 105, 103, 105, 110]⟩) := ⟨_, rfl⟩
  obtain ⟨n2, hn2⟩ : ∃ n, n = getN G (toL ⟨#[97, 99, 99, 101, 115, 115, 45, 99, 111, 110, 116, 114, 111, 108, 45, 114, 101, 113, 117, 101, 115, 116, 45, 109, 101, 116, 104, 111, 100]⟩) := ⟨_, rfl⟩
  obtain ⟨v2, hv2⟩ : ∃ n, n = getV G (toL ⟨#[97, 99, 99, 101, 115, 115, 45, 99, 111, 110, 116, 114, 111, 108, 45, 114, 101, 113, 117, 101, 115, 116, 45, 109, 101, 116, 104, 111, 100]⟩) := ⟨_, rfl⟩
  rw [← hn1, ← hv1, ← hn2, ← hv2]
  have HP : Hid (pre16 (toL mt) G = ((mt.toList == [79, 80, 84, 73, 79, 78, 83]) && (decide (0 < n1) && decide (0 < n2)))) := Lib.hid (by rw [toList_options, hn1, hn2]; rfl)
  have HV2 : Hid (getV G ACRM = v2) := Lib.hid hv2.symm
  clear hn1 hv1 hn2 hv2
  by_cases hp : pre16 (toL mt) G = true
  · have hp2 := hp
    rw [HP.out, Bool.and_eq_true, Bool.and_eq_true, decide_eq_true_eq, decide_eq_true_eq] at hp2
    obtain ⟨t1, t2, t3⟩ := hp2
    have t4 : (mt.toList != [79, 80, 84, 73, 79, 78, 83]) = false := by unfold bne; rw [t1]; rfl
    have t5 : ((n1 : Int) == 0) = false := by rw [beq_eq_false_iff_ne]; omega
    have t6 : ((n2 : Int) == 0) = false := by rw [beq_eq_false_iff_ne]; omega
    have HE : Hid (V = say16 200 [(ACAO, x.value), (ACAM, v2)] []) := Lib.hid (by rw [hV.out]; unfold cors16; rw [if_pos hp, HV2.out])
    clear hp t2 t3
    go_wp2_with fail
    refine (rsay_any 200 ⟨#[]⟩ w3).mono ?_
    rintro e w4 ⟨rfl, hb4⟩
    have hX4 := HX3.out.below hb4 HX3.out.lt
    have hZ4 := HZ3.out.below hb4 HZ3.out.lt
    have hB4 := below_chain HB3.out hb4
    have HX5 := Lib.hid (hX4.alloc (.cells #[.bool true, .int .i64 200, .slice none 0 0, .string ⟨#[]⟩, .slice none 0 0] 42))
    have HV5 := Lib.hid (Has.new w4 42 #[.bool true, .int .i64 200, .slice none 0 0, .string ⟨#[]⟩, .slice none 0 0])
    have HZ5 := Lib.hid (hZ4.alloc (.cells #[.bool true, .int .i64 200, .slice none 0 0, .string ⟨#[]⟩, .slice none 0 0] 42))
    have HB5 := Lib.hid (hB4.alloc hB4.size (.cells #[.bool true, .int .i64 200, .slice none 0 0, .string ⟨#[]⟩, .slice none 0 0] 42))
    have c2 : (w4.alloc (.cells #[.bool true, .int .i64 200, .slice none 0 0, .string ⟨#[]⟩, .slice none 0 0] 42)).cell? ⟨w.heap.size, 2, none⟩ = some (.string (ofL x.value)) := HX5.out.cell 2
    have HR := (hZ4.alloc (.cells #[.bool true, .int .i64 200, .slice (some ⟨w4.heap.size + 1, 0, none⟩) 2 2, .string ⟨#[]⟩, .slice none 0 0] 42)).alloc (.cells #[.string ⟨#[65, 99, 99, 101, 115, 115, 45, 67, 111, 110, 116, 114, 111, 108, 45, 65, 108, 108, 111, 119, 45, 79, 114, 105, 103, 105, 110]⟩, .string (ofL x.value), .string ⟨#[65, 99, 99, 101, 115, 115, 45, 67, 111, 110, 116, 114, 111, 108, 45, 65, 108, 108, 111, 119, 45, 77, 101, 116, 104, 111, 100, 115]⟩, .string (ofL v2)] 54)
    have hBX := (hB4.alloc hB4.size (.cells #[.bool true, .int .i64 200, .slice (some ⟨w4.heap.size + 1, 0, none⟩) 2 2, .string ⟨#[]⟩, .slice none 0 0] 42)).alloc (by have := hB4.size; simp; omega) (.cells #[.string ⟨#[65, 99, 99, 101, 115, 115, 45, 67, 111, 110, 116, 114, 111, 108, 45, 65, 108, 108, 111, 119, 45, 79, 114, 105, 103, 105, 110]⟩, .string (ofL x.value), .string ⟨#[65, 99, 99, 101, 115, 115, 45, 67, 111, 110, 116, 114, 111, 108, 45, 65, 108, 108, 111, 119, 45, 77, 101, 116, 104, 111, 100, 115]⟩, .string (ofL v2)] 54)
    simp only [World.size_alloc] at HR
    have hlt := hZ4.lt
    simp only [World.size_alloc] at hlt
    have HX := has_set HR #[.bool true, .int .i64 200, .slice (some ⟨w4.heap.size + 1, 0, none⟩) 2 2, .string ⟨#[]⟩, .slice none 0 0]
    have HB := below_set hBX #[.bool true, .int .i64 200, .slice (some ⟨w4.heap.size + 1, 0, none⟩) 2 2, .string ⟨#[]⟩, .slice none 0 0] (Nat.le_succ _)
    have hrow : (((w4.alloc (.cells #[.bool true, .int .i64 200, .slice (some ⟨w4.heap.size + 1, 0, none⟩) 2 2, .string ⟨#[]⟩, .slice none 0 0] 42)).alloc (.cells #[.string ⟨#[65, 99, 99, 101, 115, 115, 45, 67, 111, 110, 116, 114, 111, 108, 45, 65, 108, 108, 111, 119, 45, 79, 114, 105, 103, 105, 110]⟩, .string (ofL x.value), .string ⟨#[65, 99, 99, 101, 115, 115, 45, 67, 111, 110, 116, 114, 111, 108, 45, 65, 108, 108, 111, 119, 45, 77, 101, 116, 104, 111, 100, 115]⟩, .string (ofL v2)] 54)).setRow (w.heap.size + 1) #[.bool true, .int .i64 200, .slice (some ⟨w4.heap.size + 1, 0, none⟩) 2 2, .string ⟨#[]⟩, .slice none 0 0]).heap[w4.heap.size + 1]? = some (.cells #[.string ⟨#[65, 99, 99, 101, 115, 115, 45, 67, 111, 110, 116, 114, 111, 108, 45, 65, 108, 108, 111, 119, 45, 79, 114, 105, 103, 105, 110]⟩, .string (ofL x.value), .string ⟨#[65, 99, 99, 101, 115, 115, 45, 67, 111, 110, 116, 114, 111, 108, 45, 65, 108, 108, 111, 119, 45, 77, 101, 116, 104, 111, 100, 115]⟩, .string (ofL v2)] 54 (0, 0)) := by
      rw [setRow_other _ _ _ _ (by omega)]
      have := (Has.new (w4.alloc (.cells #[.bool true, .int .i64 200, .slice (some ⟨w4.heap.size + 1, 0, none⟩) 2 2, .string ⟨#[]⟩, .slice none 0 0] 42)) 54 #[.string ⟨#[65, 99, 99, 101, 115, 115, 45, 67, 111, 110, 116, 114, 111, 108, 45, 65, 108, 108, 111, 119, 45, 79, 114, 105, 103, 105, 110]⟩, .string (ofL x.value), .string ⟨#[65, 99, 99, 101, 115, 115, 45, 67, 111, 110, 116, 114, 111, 108, 45, 65, 108, 108, 111, 119, 45, 77, 101, 116, 104, 111, 100, 115]⟩, .string (ofL v2)]).at_
      simpa using this
    have HL := Lib.hid (show Lst (((w4.alloc (.cells #[.bool true, .int .i64 200, .slice (some ⟨w4.heap.size + 1, 0, none⟩) 2 2, .string ⟨#[]⟩, .slice none 0 0] 42)).alloc (.cells #[.string ⟨#[65, 99, 99, 101, 115, 115, 45, 67, 111, 110, 116, 114, 111, 108, 45, 65, 108, 108, 111, 119, 45, 79, 114, 105, 103, 105, 110]⟩, .string (ofL x.value), .string ⟨#[65, 99, 99, 101, 115, 115, 45, 67, 111, 110, 116, 114, 111, 108, 45, 65, 108, 108, 111, 119, 45, 77, 101, 116, 104, 111, 100, 115]⟩, .string (ofL v2)] 54)).setRow (w.heap.size + 1) #[.bool true, .int .i64 200, .slice (some ⟨w4.heap.size + 1, 0, none⟩) 2 2, .string ⟨#[]⟩, .slice none 0 0]) w.heap.size (.slice (some ⟨w4.heap.size + 1, 0, none⟩) 2 2) [(ACAO, x.value), (ACAM, v2)] from ⟨rfl, .inr ⟨w4.heap.size + 1, 2, _, rfl, by omega, hrow, Nat.le_refl _, by decide, rfl, rfl⟩⟩)
    clear hb4 hX4 hZ4 hB4 HX3 HZ3 HB3 hrow hBX
    go_wp2_with (refine store_whole rfl 42 5 verd_size _ _ rfl (w.heap.size + 1) _ _ HR rfl rfl (by simp [Value.oneCell']) rfl rfl ?_)
    refine bodyPost_ret (v := .agg #[.bool true, .int .i64 200, .slice (some ⟨w4.heap.size + 1, 0, none⟩) 2 2, .string ⟨#[]⟩, .slice none 0 0]) (results_cell_row rfl _ _ (w.heap.size + 1) 42 _ (0, 0) _ rfl HX.at_ Try.underlying42 rfl (by kernel_rfl)) rfl ?_
    exact ⟨.slice (some ⟨w4.heap.size + 1, 0, none⟩) 2 2, by rw [HE.out]; rfl, by rw [HE.out]; exact HL.out, HB⟩
  · have HE : Hid (V = none16) := Lib.hid (by rw [hV.out]; unfold cors16; rw [if_neg hp])
    have hx : (mt.toList == [79, 80, 84, 73, 79, 78, 83]) = false ∨ ((mt.toList == [79, 80, 84, 73, 79, 78, 83]) = true ∧ n1 = 0) ∨ ((mt.toList == [79, 80, 84, 73, 79, 78, 83]) = true ∧ 0 < n1 ∧ n2 = 0) := by
      rw [HP.out] at hp
      cases h : (mt.toList == [79, 80, 84, 73, 79, 78, 83])
      · exact .inl rfl
      · rw [h, Bool.true_and, Bool.and_eq_true, decide_eq_true_eq, decide_eq_true_eq] at hp
        by_cases h2 : n1 = 0
        · exact .inr (.inl ⟨rfl, h2⟩)
        · exact .inr (.inr ⟨rfl, by omega, by omega⟩)
    clear hp
    have HR := HZ3.out
    have HX := has_set HZ3.out #[.bool false, .int .i64 0, .slice none 0 0, .string ⟨#[]⟩, .slice none 0 0]
    have HB := below_set HB3.out #[.bool false, .int .i64 0, .slice none 0 0, .string ⟨#[]⟩, .slice none 0 0] (Nat.le_succ _)
    simp only [World.size_alloc] at HR HX HB
    rcases hx with t1 | ⟨t1, rfl⟩ | ⟨t1, t2, rfl⟩
    all_goals
      have t4 : (mt.toList != [79, 80, 84, 73, 79, 78, 83]) = !(mt.toList == [79, 80, 84, 73, 79, 78, 83]) := rfl
      rw [t1] at t4
      go_wp2_with (refine store_whole rfl 42 5 verd_size _ _ rfl (w.heap.size + 1) _ _ HR rfl rfl (by simp [Value.oneCell']) rfl rfl ?_)
      refine bodyPost_ret (v := .agg #[.bool false, .int .i64 0, .slice none 0 0, .string ⟨#[]⟩, .slice none 0 0]) (results_cell_row rfl _ _ (w.heap.size + 1) 42 _ (0, 0) _ rfl HX.at_ Try.underlying42 rfl (by kernel_rfl)) rfl ?_
      exact ⟨.slice none 0 0, by rw [HE.out]; rfl, by rw [HE.out]; exact World.ownsRow_nil _ _ _ _, HB⟩
end Go.Proofs.Ytfdpoibmlggfbaa.R16Cors

/- The document's chain holds its dice within itself: what a draw does to it. -/
namespace Go.Proofs.Ytfdpoibmlggfbaa.R16Dice
open Go.ChangeShapes Go.WideShapes Go.ChangeAt Go.RowKit DiceMath DiceWalks DiceHigh DiceObj Mem
set_option linter.unusedSimpArgs false
theorem cnext_any (g : Nat) (lv bv : Value) (s n z : Int) (w : World) (h : Has w g 73 #[lv, bv, .int .u64 s, .int .i64 n, .int .i64 z]) :
    Calls Try.prog 48 #[.pointer (some ⟨g, 2, none⟩)] w fun e w' => e = .returned (.int .u64 (mixI (stepI s))) ∧ Has w' g 73 #[lv, bv, .int .u64 (stepI s), .int .i64 (upI n), .int .i64 z] ∧ w.grownBy w' (some g) := by
  have c0 : w.cell? ⟨g, 2, none⟩ = some (.int .u64 s) := h.cell 2
  have c1 : w.cell? ⟨g, 3, none⟩ = some (.int .i64 n) := h.cell 3
  have f0 := h.free 2
  have f1 := h.free 3
  have b := stepI_bd s
  go_enter Try.func48, Try.ntmps48
  go_wp2_with fail
  refine (rmix_any (stepI s) b.1 b.2 _).mono ?_
  rintro e w' ⟨rfl, rfl⟩
  go_wp2_with fail
  go_ret
  exact ⟨rfl, (h.set_ 2 _).set_ 3 _, own_set (own_set (World.grownBy.refl w _) 2 _) 3 _⟩
theorem cbelow_any (g : Nat) (lv bv : Value) (s k n z : Int) (h1 : 1 ≤ n) (hn : n ≤ 9223372036854775807) (w : World) (h : Has w g 73 #[lv, bv, .int .u64 s, .int .i64 k, .int .i64 z]) :
    Calls Try.prog 41 #[.pointer (some ⟨g, 2, none⟩), .int .i64 n] w fun e w' => e = .returned (.int .i64 (belowI s n)) ∧ Has w' g 73 #[lv, bv, .int .u64 (bS s n), .int .i64 (bN k n), .int .i64 z] ∧ w.grownBy w' (some g) := by
  have hlt : ¬ n < 1 := by omega
  have b := mixI_bd (stepI s)
  have bb := highI_lt (mixI (stepI s)) n b.1 b.2 (by omega)
  unfold belowI bS bN
  rw [if_neg hlt, if_neg hlt, if_neg hlt]
  go_enter Try.func41, Try.ntmps41
  go_wp2_with fail
  refine (cnext_any g lv bv s k z _ h).mono ?_
  rintro e w' ⟨rfl, h', hg⟩
  go_wp2_with fail
  refine (high_any _ _ b.1 b.2 (by omega) (by omega) _).mono ?_
  rintro e w' ⟨rfl, rfl⟩
  go_wp2_with fail
  go_ret
  exact ⟨rfl, h', hg⟩
end Go.Proofs.Ytfdpoibmlggfbaa.R16Dice

/- The document's own bucket: what each call does to its state. -/
namespace Go.Proofs.Ytfdpoibmlggfbaa.BucketRef
open Go.ChangeShapes Go.WideShapes Go.ChangeAt Go.RowKit BucketPure BucketObj BucketOps Mem

theorem after_after {b : B} (h : Ok b) {j now : Int} : after (after b j now) 1 now = after b (j + 1) now := by
  have := h.f1
  unfold after
  simp only [Int.one_mul, Int.add_mul]
  congr 1 <;> omega
theorem after_zero {b : B} (h : Ok b) {now : Int} : after b 0 now = { b with told := now } := by
  have := h.t2
  unfold after
  simp only [Int.zero_mul]
  congr 1 <;> omega
/-- many fillings by the rule -/
theorem rule {b : B} (h : Ok b) (k : Int) : ((b.most - b.tokens) / b.fill + 1 ≤ k → b.most ≤ b.tokens + k * b.fill) ∧ (k < (b.most - b.tokens) / b.fill + 1 → b.tokens + k * b.fill ≤ b.most) := by
  have hf := h.f1
  obtain ⟨h1, h2⟩ := (quo_iff (b.most - b.tokens) b.fill _ hf).1 rfl
  generalize (b.most - b.tokens) / b.fill = q at *
  constructor
  · intro hk
    have := Int.mul_le_mul_of_nonneg_right hk (show 0 ≤ b.fill by omega)
    rw [Int.add_mul] at this
    omega
  · intro hk
    have := Int.mul_le_mul_of_nonneg_right (show k ≤ q by omega) (show 0 ≤ b.fill by omega)
    omega
/-- the fillings so far -/
def RInv (w : World) (g : Nat) (b : B) (now : Int) (wr : World) : Prop :=
  ∃ j : Int, 0 ≤ j ∧ b.filled + j * b.every ≤ now ∧ Bk wr g 78 (after b j now) ∧ w.grownBy wr (some g)
set_option maxHeartbeats 1600000 in
set_option maxRecDepth 100000 in
/-- one filling -/
theorem reckon_any (g : Nat) (b : B) (now : Int) (ok : Ok b) (w : World) (h : Bk w g 78 b) :
    Calls Try.prog 47 #[.pointer (some ⟨g, 0, none⟩), .int .i64 now] w fun e w' => e = .returned (.int .i64 (passE b now)) ∧ Bk w' g 78 (passB b now) ∧ w.grownBy w' (some g) := by
  by_cases hl : late b now
  · have e1 : passE b now = 20 := by unfold passE; rw [if_pos hl]
    have e2 : passB b now = b := by unfold passB; rw [if_pos hl]
    rw [e1, e2]
    have c5 := h.cell 5
    have hx : now < b.told ∨ (¬ now < b.told ∧ 1099511627776 < now) := by unfold late at hl; omega
    clear hl e1 e2
    rcases hx with hx | ⟨h1, hx⟩
    all_goals
      go_enter Try.func47, Try.ntmps47
      go_wp2_with fail
      go_ret
      exact ⟨rfl, h, World.grownBy.refl w _⟩
  · have e1 : passE b now = 0 := by unfold passE; rw [if_neg hl]
    have e2 : passB b now = pass b now := by unfold passB; rw [if_neg hl]
    rw [e1, e2]
    have h1 : ¬ now < b.told := by unfold late at hl; omega
    have h2 : ¬ 1099511627776 < now := by unfold late at hl; omega
    have hl1 := ok.l1
    have hl2 := ok.l2
    clear hl e1 e2
    have c5 := h.cell 5
    have f5 := h.free 5
    go_enter Try.func47, Try.ntmps47
    go_wp2_with fail
    have R0 : Hid (RInv w g b now (w.setCell ⟨g, 5, none⟩ (.int .i64 now))) := Lib.hid ⟨0, Int.le_refl _, by omega, by rw [after_zero ok]; exact h.set_ 5 _, own_set (World.grownBy.refl w (some g)) 5 (.int .i64 now)⟩
    clear c5 f5 h
    generalize (w.setCell _ _) = w1 at *
    go_loopw [5] (fun i wr => ∃ k : Nat, k ≤ 100 ∧ i = .int .i64 k ∧ Hid (RInv w g b now wr)) (fun i _ => 100 - (intOf i).toNat)
    case atStart => exact ⟨0, by omega, rfl, R0⟩
    case round =>
      obtain ⟨k, hk, rfl, hI0⟩ := hrel
      obtain ⟨j, hj0, hj1, H, hg⟩ := hI0.out
      clear hI0 R0
      have okj : Ok (after b j now) := after_ok ok hj0 hj1 (by omega)
      have htj : (after b j now).told = now := rfl
      have hfin : pass (after b j now) now = pass b now := pass_after ok hj1
      have hstep : after (after b j now) 1 now = after b (j + 1) now := after_after ok
      have hsum : b.filled + (j + 1) * b.every = (after b j now).filled + (after b j now).every := by
        show _ = b.filled + j * b.every + b.every
        rw [Int.add_mul]
        omega
      have HF := Lib.hid hfin
      have HS := Lib.hid hstep
      have HSU := Lib.hid hsum
      have HJ := Lib.hid hj0
      have OKJ := Lib.hid okj
      clear hfin hstep hj1 hsum hj0 ok hl1 hl2 h1
      generalize after b j now = a at *
      have a1 := okj.m1
      have a2 := okj.m2
      have a3 := okj.f1
      have a4 := okj.f2
      have a5 := okj.e1
      have a6 := okj.e2
      have a7 := okj.t1
      have a8 := okj.t2
      have a9 := okj.l1
      have a10 := okj.l2
      rw [htj] at a10
      clear okj
      by_cases hgo : k < 100 ∧ a.filled ≤ now - a.every
      · obtain ⟨hk2, hfl⟩ := hgo
        have hki : (k : Int) < 100 := by omega
        have c2 := H.cell 2
        have c4 := H.cell 4
        have f4 := H.free 4
        go_wp2_with fail
        go_quiet (fail)
        have H1 := H.drewN nq
        have G1 := own_drewN hg nq
        clear H hg c2 c4 f4
        generalize (wr.drewN nq) = w2 at *
        have c2 := H1.cell 2
        have c4 := H1.cell 4
        have f4 := H1.free 4
        go_wp2_with fail
        go_region
        have H2 : Bk (w2.setCell ⟨g, 4, none⟩ (.int .i64 (a.filled + a.every))).drew g 78 { a with filled := a.filled + a.every } := (H1.set_ 4 _).drew
        have G2 := own_drew (own_set G1 4 (.int .i64 (a.filled + a.every)))
        clear H1 G1 c2 c4 f4
        generalize (w2.setCell _ _).drew = w3 at *
        have c1 := H2.cell 1
        have c3 := H2.cell 3
        have f3 := H2.free 3
        go_wp2_with fail
        go_region
        have H3 : Bk (w3.setCell ⟨g, 3, none⟩ (.int .i64 (a.tokens + a.fill))).drew g 78 { a with filled := a.filled + a.every, tokens := a.tokens + a.fill } := (H2.set_ 3 _).drew
        have G3 := own_drew (own_set G2 3 (.int .i64 (a.tokens + a.fill)))
        clear H2 G2 c1 c3 f3
        generalize (w3.setCell _ _).drew = w4 at *
        have c0 := H3.cell 0
        have c3 := H3.cell 3
        have f3 := H3.free 3
        by_cases hc : a.most < a.tokens + a.fill
        · have e : after a 1 now = { a with filled := a.filled + a.every, tokens := a.most } := by
            unfold after
            rw [← htj]
            simp only [Int.one_mul]
            congr 1
            omega
          have HE := Lib.hid e
          clear e
          go_wp2_with fail
          go_quiet (fail)
          have H4 := H3.drewN nq
          have G4 := own_drewN G3 nq
          clear H3 G3 c0 c3 f3
          generalize (w4.drewN nq) = w5 at *
          have c0 := H4.cell 0
          have c3 := H4.cell 3
          have f3 := H4.free 3
          have RR : Hid (RInv w g b now (w5.setCell ⟨g, 3, none⟩ (.int .i64 a.most))) := Lib.hid ⟨j + 1, by have := HJ.out; omega, by rw [HSU.out]; omega, by rw [← HS.out, HE.out]; exact H4.set_ 3 _, own_set G4 3 _⟩
          go_wp2_with fail
          go_roundw
          case rel => exact ⟨k + 1, by omega, by go_num, RR⟩
          case measure => simp [intOf]; omega
        · have e : after a 1 now = { a with filled := a.filled + a.every, tokens := a.tokens + a.fill } := by
            unfold after
            rw [← htj]
            simp only [Int.one_mul]
            congr 1
            omega
          have HE := Lib.hid e
          clear e
          go_wp2_with fail
          go_quiet (fail)
          have H4 := H3.drewN nq
          have G4 := own_drewN G3 nq
          clear H3 G3 c0 c3 f3
          generalize (w4.drewN nq) = w5 at *
          have RR : Hid (RInv w g b now w5) := Lib.hid ⟨j + 1, by have := HJ.out; omega, by rw [HSU.out]; omega, by rw [← HS.out, HE.out]; exact H4, G4⟩
          go_wp2_with fail
          go_roundw
          case rel => exact ⟨k + 1, by omega, by go_num, RR⟩
          case measure => simp [intOf]; omega
      · have c2 := H.cell 2
        have c4 := H.cell 4
        have hz : ¬ a.every = 0 := by omega
        have hK0 : 0 ≤ (now - a.filled) / a.every := Int.ediv_nonneg (by omega) (by omega)
        have hK1 : (now - a.filled) / a.every ≤ now - a.filled := Int.ediv_le_self _ (by omega)
        have HSP := Lib.hid (fillings_spec (b := a) a5 now)
        have HPA : Hid (pass b now = after a ((now - a.filled) / a.every) now) := Lib.hid HF.out.symm
        have HR := Lib.hid (rule OKJ.out)
        clear HF HS HSU HJ
        have hx : ((k : Int) < 100 ∧ now - a.every < a.filled) ∨ (¬ (k : Int) < 100 ∧ decide ((k : Int) < 100) = false) := by
          by_cases hk2 : k < 100
          · exact .inl ⟨by omega, by omega⟩
          · exact .inr ⟨by omega, decide_eq_false (by omega)⟩
        clear hgo hk
        rcases hx with ⟨hki, hfl⟩ | ⟨hki, hkd⟩
        all_goals
          go_wp2_with fail
          go_quiet (fail)
          have H1 := H.drewN nq
          have G1 := own_drewN hg nq
          clear H hg c2 c4 hki
          generalize (wr.drewN nq) = w2 at *
          have c2 := H1.cell 2
          have c4 := H1.cell 4
          go_wp2_with fail
          go_quiet (fail)
          have H2 := H1.drewN nq
          have G2 := own_drewN G1 nq
          clear H1 G1 c2 c4
          generalize (w2.drewN nq) = w3 at *
          have e1 : fillings a now = (now - a.filled) / a.every := rfl
          rw [e1] at HSP
          clear e1
          generalize (now - a.filled) / a.every = K at *
          have hs1 : K * a.every ≤ now - a.filled := HSP.out.1
          have hs0 : 0 ≤ K * a.every := Int.mul_nonneg hK0 (by omega)
          have hf0 : 0 ≤ K * a.fill := Int.mul_nonneg hK0 (by omega)
          have c0 := H2.cell 0
          have c3 := H2.cell 3
          by_cases hK : 0 < K
          · by_cases hTM : a.tokens < a.most
            · go_wp2_with fail
              go_quiet (fail)
              have H3 := H2.drewN nq
              have G3 := own_drewN G2 nq
              clear H2 G2 c0 c3
              generalize (w3.drewN nq) = w4 at *
              have c0 := H3.cell 0
              have c3 := H3.cell 3
              go_wp2_with fail
              go_quiet (fail)
              have H4 := H3.drewN nq
              have G4 := own_drewN G3 nq
              clear H3 G3 c0 c3
              generalize (w4.drewN nq) = w5 at *
              have c1 := H4.cell 1
              have hzf : ¬ a.fill = 0 := by omega
              have hm0 : 0 ≤ (a.most - a.tokens) / a.fill := Int.ediv_nonneg (by omega) (by omega)
              have hm1 : (a.most - a.tokens) / a.fill ≤ a.most - a.tokens := Int.ediv_le_self _ (by omega)
              obtain ⟨r1, r2⟩ := HR.out K
              have c0 := H4.cell 0
              have c3 := H4.cell 3
              have f3 := H4.free 3
              by_cases hq : (a.most - a.tokens) / a.fill + 1 ≤ K
              · have r3 := r1 hq
                have HE : Hid (pass b now = { a with tokens := a.most, filled := a.filled + K * a.every }) := Lib.hid (by
                  rw [HPA.out]
                  unfold after
                  rw [← htj]
                  congr 1
                  omega)
                clear r1 r2 r3
                go_wp2_with fail
                have H6 : Bk _ g 78 { a with tokens := a.most } := H4.set_ 3 (.int .i64 a.most)
                have G6 := own_set G4 3 (.int .i64 a.most)
                clear H4 G4 c0 c1 c3 f3
                generalize (World.setCell _ _ _) = w7 at *
                have c2 := H6.cell 2
                have c4 := H6.cell 4
                have f4 := H6.free 4
                go_wp2_with fail
                go_region
                have H8 : Bk _ g 78 { a with tokens := a.most, filled := a.filled + K * a.every } := (H6.set_ 4 (.int .i64 (a.filled + K * a.every))).drew
                have G8 := own_drew (own_set G6 4 (.int .i64 (a.filled + K * a.every)))
                clear H6 G6 c2 c4 f4
                generalize (World.setCell _ _ _).drew = w8 at *
                have c0 := H8.cell 0
                have c3 := H8.cell 3
                go_wp2_with fail
                go_quiet (fail)
                go_wp2_with fail
                go_ret
                rw [HE.out]
                exact ⟨rfl, H8.drewN _, own_drewN G8 _⟩
              · have r3 := r2 (by omega)
                have HE : Hid (pass b now = { a with tokens := a.tokens + K * a.fill, filled := a.filled + K * a.every }) := Lib.hid (by
                  rw [HPA.out]
                  unfold after
                  rw [← htj]
                  congr 1
                  omega)
                clear r1 r2
                go_wp2_with fail
                go_region
                have H6 : Bk _ g 78 { a with tokens := a.tokens + K * a.fill } := (H4.set_ 3 (.int .i64 (a.tokens + K * a.fill))).drew
                have G6 := own_drew (own_set G4 3 (.int .i64 (a.tokens + K * a.fill)))
                clear H4 G4 c0 c1 c3 f3
                generalize (World.setCell _ _ _).drew = w7 at *
                have c2 := H6.cell 2
                have c4 := H6.cell 4
                have f4 := H6.free 4
                go_wp2_with fail
                go_region
                have H8 : Bk _ g 78 { a with tokens := (a.tokens + K * a.fill), filled := a.filled + K * a.every } := (H6.set_ 4 (.int .i64 (a.filled + K * a.every))).drew
                have G8 := own_drew (own_set G6 4 (.int .i64 (a.filled + K * a.every)))
                clear H6 G6 c2 c4 f4
                generalize (World.setCell _ _ _).drew = w8 at *
                have c0 := H8.cell 0
                have c3 := H8.cell 3
                go_wp2_with fail
                go_quiet (fail)
                go_wp2_with fail
                go_ret
                rw [HE.out]
                exact ⟨rfl, H8.drewN _, own_drewN G8 _⟩
            · have hTd : decide (a.tokens < a.most) = false := decide_eq_false hTM
              have hTe : a.tokens = a.most := by omega
              have HE : Hid (pass b now = { a with tokens := a.tokens, filled := a.filled + K * a.every }) := Lib.hid (by
                rw [HPA.out]
                unfold after
                rw [← htj]
                congr 1
                omega)
              go_wp2_with fail
              go_quiet (fail)
              have H3 := H2.drewN nq
              have G3 := own_drewN G2 nq
              clear H2 G2 c0 c3
              generalize (w3.drewN nq) = w4 at *
              have c2 := H3.cell 2
              have c4 := H3.cell 4
              have f4 := H3.free 4
              go_wp2_with fail
              go_region
              have H8 : Bk _ g 78 { a with tokens := a.tokens, filled := a.filled + K * a.every } := (H3.set_ 4 (.int .i64 (a.filled + K * a.every))).drew
              have G8 := own_drew (own_set G3 4 (.int .i64 (a.filled + K * a.every)))
              clear H3 G3 c2 c4 f4
              generalize (World.setCell _ _ _).drew = w8 at *
              have c0 := H8.cell 0
              have c3 := H8.cell 3
              go_wp2_with fail
              go_quiet (fail)
              go_wp2_with fail
              go_ret
              rw [HE.out]
              exact ⟨rfl, H8.drewN _, own_drewN G8 _⟩
          · have hKd : decide (0 < K) = false := decide_eq_false hK
            have hKe : K = 0 := by omega
            have HE : Hid (pass b now = { a with tokens := a.tokens, filled := a.filled + K * a.every }) := Lib.hid (by
              rw [HPA.out]
              unfold after
              rw [← htj]
              congr 1
              subst hKe
              omega)
            clear hKe
            go_wp2_with fail
            go_quiet (fail)
            have H3 := H2.drewN nq
            have G3 := own_drewN G2 nq
            clear H2 G2 c0 c3
            generalize (w3.drewN nq) = w4 at *
            have c2 := H3.cell 2
            have c4 := H3.cell 4
            have f4 := H3.free 4
            go_wp2_with fail
            go_region
            have H8 : Bk _ g 78 { a with tokens := a.tokens, filled := a.filled + K * a.every } := (H3.set_ 4 (.int .i64 (a.filled + K * a.every))).drew
            have G8 := own_drew (own_set G3 4 (.int .i64 (a.filled + K * a.every)))
            clear H3 G3 c2 c4 f4
            generalize (World.setCell _ _ _).drew = w8 at *
            have c0 := H8.cell 0
            have c3 := H8.cell 3
            go_wp2_with fail
            go_quiet (fail)
            go_wp2_with fail
            go_ret
            rw [HE.out]
            exact ⟨rfl, H8.drewN _, own_drewN G8 _⟩
end Go.Proofs.Ytfdpoibmlggfbaa.BucketRef

/- The document's own bucket: New, Take, Count, Wait. -/
namespace Go.Proofs.Ytfdpoibmlggfbaa.BucketRefO
open Go.ChangeShapes Go.WideShapes Go.ChangeAt Go.RowKit BucketPure BucketObj BucketOps BucketRef Mem

theorem newE_ok {m f e now : Int} (hE : newE m f e now = 0) : (1 ≤ m ∧ m ≤ 1073741824) ∧ (1 ≤ f ∧ f ≤ 1073741824) ∧ (1 ≤ e ∧ e ≤ 1073741824) ∧ 0 ≤ now ∧ now ≤ 1099511627776 := by
  unfold newE at hE
  by_cases h : (fits m && fits f && fits e) = true
  · rw [if_pos h] at hE
    simp only [Bool.and_eq_true] at h
    obtain ⟨⟨h1, h2⟩, h3⟩ := h
    refine ⟨of_decide_eq_true h1, of_decide_eq_true h2, of_decide_eq_true h3, ?_⟩
    by_cases hn : 0 ≤ now ∧ now ≤ 1099511627776
    · exact hn
    · rw [if_neg hn] at hE; omega
  · rw [if_neg h] at hE; omega
theorem newE_20 {m f e now : Int} (h1 : 1 ≤ m ∧ m ≤ 1073741824) (h2 : 1 ≤ f ∧ f ≤ 1073741824) (h3 : 1 ≤ e ∧ e ≤ 1073741824) (hn : ¬ (0 ≤ now ∧ now ≤ 1099511627776)) : newE m f e now = 20 := by
  unfold newE
  rw [show fits m = true from decide_eq_true h1, show fits f = true from decide_eq_true h2, show fits e = true from decide_eq_true h3, if_pos (show (true && true && true) = true from rfl), if_neg hn]
theorem newE_30 {m f e now : Int} (h : ¬ ((1 ≤ m ∧ m ≤ 1073741824) ∧ (1 ≤ f ∧ f ≤ 1073741824) ∧ (1 ≤ e ∧ e ≤ 1073741824))) : newE m f e now = 30 := by
  unfold newE
  rw [if_neg]
  intro hb
  simp only [Bool.and_eq_true] at hb
  exact h ⟨of_decide_eq_true hb.1.1, of_decide_eq_true hb.1.2, of_decide_eq_true hb.2⟩
theorem rnew_ok (m f e now : Int) (hE : newE m f e now = 0) (w : World) :
    Calls Try.prog 25 #[.int .i64 m, .int .i64 f, .int .i64 e, .int .i64 now] w fun x w' => x = .returned (.tuple #[.pointer (some ⟨w.heap.size, 0, none⟩), .int .i64 0]) ∧
      w.alloc (.cells #[.int .i64 m, .int .i64 f, .int .i64 e, .int .i64 m, .int .i64 now, .int .i64 now] 78) = w' := by
  obtain ⟨⟨h1, h2⟩, ⟨h3, h4⟩, ⟨h5, h6⟩, h7, h8⟩ := newE_ok hE
  clear hE
  go_enter Try.func25, Try.ntmps25
  go_wp2_with fail
  go_ret2
  exact ⟨rfl, rfl⟩
theorem rnew_bad (m f e now : Int) (hE : newE m f e now ≠ 0) (w : World) :
    Calls Try.prog 25 #[.int .i64 m, .int .i64 f, .int .i64 e, .int .i64 now] w fun x w' => x = .returned (.tuple #[.pointer none, .int .i64 (newE m f e now)]) ∧ w = w' := by
  rcases Int.lt_or_le m 1 with hx | c0
  rotate_left
  rcases Int.lt_or_le 1073741824 m with hx | c1
  rotate_left
  rcases Int.lt_or_le f 1 with hx | c2
  rotate_left
  rcases Int.lt_or_le 1073741824 f with hx | c3
  rotate_left
  rcases Int.lt_or_le e 1 with hx | c4
  rotate_left
  rcases Int.lt_or_le 1073741824 e with hx | c5
  rotate_left
  · have e20 : newE m f e now = 20 := newE_20 ⟨c0, c1⟩ ⟨c2, c3⟩ ⟨c4, c5⟩ (fun hn => hE (by
      unfold newE
      rw [show fits m = true from decide_eq_true ⟨c0, c1⟩, show fits f = true from decide_eq_true ⟨c2, c3⟩, show fits e = true from decide_eq_true ⟨c4, c5⟩, if_pos (show (true && true && true) = true from rfl), if_pos hn]))
    have hn : now < 0 ∨ (0 ≤ now ∧ 1099511627776 < now) := by
      by_cases h : now < 0
      · exact .inl h
      · refine .inr ⟨by omega, ?_⟩
        rcases Int.lt_or_le 1099511627776 now with h2 | h2
        · exact h2
        · exfalso
          refine hE ?_
          unfold newE
          rw [show fits m = true from decide_eq_true ⟨c0, c1⟩, show fits f = true from decide_eq_true ⟨c2, c3⟩, show fits e = true from decide_eq_true ⟨c4, c5⟩, if_pos (show (true && true && true) = true from rfl), if_pos ⟨by omega, h2⟩]
    rw [e20]
    clear hE e20
    rcases hn with hn | ⟨h0, hn⟩
    all_goals
      go_enter Try.func25, Try.ntmps25
      go_wp2_with fail
      go_ret2
      exact ⟨rfl, rfl⟩
  all_goals
    have e30 : newE m f e now = 30 := newE_30 (by omega)
    rw [e30]
    clear hE e30
    go_enter Try.func25, Try.ntmps25
    go_wp2_with fail
    go_ret2
    exact ⟨rfl, rfl⟩
theorem rtake_any (g : Nat) (b : B) (now n : Int) (ok : Ok b) (w : World) (h : Bk w g 78 b) :
    Calls Try.prog 38 #[.pointer (some ⟨g, 0, none⟩), .int .i64 now, .int .i64 n] w fun e w' => e = .returned (.tuple #[.bool (takeR b now n), .int .i64 (passE b now)]) ∧ Bk w' g 78 (takeB b now n) ∧ w.grownBy w' (some g) := by
  by_cases hl : late b now
  · have e1 : passE b now = 20 := by unfold passE; rw [if_pos hl]
    have e2 : takeR b now n = false := by unfold takeR; rw [if_pos hl]
    have e3 : takeB b now n = passB b now := by unfold takeB passB; rw [if_pos hl, if_pos hl]
    rw [e1, e2, e3]
    go_enter Try.func38, Try.ntmps38
    go_wp2_with fail
    refine (reckon_any g b now ok _ h).mono ?_
    rintro e w' ⟨rfl, h', hg⟩
    rw [e1]
    go_wp2_with fail
    go_ret2
    exact ⟨rfl, h', hg⟩
  · have e1 : passE b now = 0 := by unfold passE; rw [if_neg hl]
    have e2 : takeR b now n = can (passB b now) n := by unfold takeR passB; rw [if_neg hl, if_neg hl]
    have e3 : takeB b now n = less (passB b now) n := by unfold takeB passB; rw [if_neg hl, if_neg hl]
    rw [e1, e2, e3]
    have ok' := passB_ok ok now
    clear e2 e3
    generalize hB : passB b now = b' at *
    have HB := Lib.hid hB
    clear hB hl
    go_enter Try.func38, Try.ntmps38
    go_wp2_with fail
    refine (reckon_any g b _ ok _ h).mono ?_
    rintro e w' ⟨rfl, h', hg⟩
    rw [e1]
    rw [HB.out] at h'
    clear e1
    have c3 := h'.cell 3
    have f3 := h'.free 3
    by_cases h1 : 1 ≤ n
    · by_cases h2 : n ≤ b'.tokens
      · have e4 : can b' n = true := decide_eq_true ⟨h1, h2⟩
        have e5 : less b' n = { b' with tokens := b'.tokens - n } := by unfold less; rw [if_pos e4]
        have E4 := Lib.hid e4
        have E5 := Lib.hid e5
        have hm2 := ok'.m2
        have ht2 := ok'.t2
        clear e4 e5
        go_wp2_with fail
        go_ret2
        rw [E4.out, E5.out]
        exact ⟨rfl, h'.set_ 3 _, own_set hg 3 _⟩
      · have e4 : can b' n = false := decide_eq_false (by omega)
        have e5 : less b' n = b' := by unfold less; rw [if_neg (by simp [e4])]
        have E4 := Lib.hid e4
        have E5 := Lib.hid e5
        clear e4 e5
        go_wp2_with fail
        go_ret2
        rw [E4.out, E5.out]
        exact ⟨rfl, h', hg⟩
    · have e4 : can b' n = false := decide_eq_false (by omega)
      have e5 : less b' n = b' := by unfold less; rw [if_neg (by simp [e4])]
      have E4 := Lib.hid e4
      have E5 := Lib.hid e5
      clear e4 e5
      go_wp2_with fail
      go_ret2
      rw [E4.out, E5.out]
      exact ⟨rfl, h', hg⟩
end Go.Proofs.Ytfdpoibmlggfbaa.BucketRefO

/- The document's layer 16: its chain in memory, and what one filter says. -/
namespace Go.Proofs.Ytfdpoibmlggfbaa.R16Box
open Go.ChangeShapes Go.WideShapes Go.ChangeAt Go.RowKit Bytes LexPure ConfPure ConfMem FieldsPure Flds FilterPure FiltState FiltKeep FiltObj BucketPure BucketObj R14Eq L16Right Ret Mem Step
set_option maxRecDepth 20000
set_option linter.unusedVariables false
/-- what stays while only F's blocks turn -/
def Kpt (F : Nat → Prop) (w : World) (P : World → Prop) : Prop := ∀ W F', Step w W F F' → P W
section
variable {F : Nat → Prop} {w W : World} {P : World → Prop}
theorem Kpt.here (h : Kpt F w P) : P w := h w F (Step.refl w F)
theorem Kpt.go (h : Kpt F w P) (hs : Step w W F F) : Kpt F W P := fun V F' hv => h V F' (hs.trans hv)
theorem Kpt.list {base : Nat} {v : Value} {G : List HField} (h : Lst w base v G) (hl : G.length ≤ 4398046511104) (hF : ∀ b, v.ownBlock = some b → ¬ F b) : Kpt F w (fun W => FL W v G) := fun W F' hs => fl_of (hs.row h hF) hl
theorem Kpt.arg {B : Nat} (hB : B ≤ w.heap.size) (hF : ∀ k, F k → B ≤ k) (h : ∀ W, Below B w W → P W) : Kpt F w P := fun W F' hs => h W (hs.below hB hF)
end
def pt (b : Nat) : Value := .pointer (some ⟨b, 0, none⟩)
/-- the parts of a chain: block g; lv its filters; bv, bl its buckets; the dice lies within -/
structure RParts (w : World) (g : Nat) (lv bv : Value) (bl : List Nat) (fs : List Filt) (bs : List B) (d seen : Int) : Prop where
  hd : ∃ dk, Has w g 73 #[lv, bv, .int .u64 d, .int .i64 dk, .int .i64 seen]
  row : w.ownsRow 0 74 1 bv fs.length (bl.map pt)
  lb : bl.length = fs.length
  ls : bs.length = fs.length
  bk : ∀ i (hi : i < fs.length), fs[i].kind = 3 → Bk w (bl.getD i 0) 78 (bs.getD i zB)
  ap : ∀ i j (hj : j < fs.length) (hij : i < j), (fs[i]'(Nat.lt_trans hij hj)).kind = 3 → fs[j].kind = 3 → bl.getD i 0 ≠ bl.getD j 0
structure RInF (F : Nat → Prop) (g : Nat) (bv : Value) (bl : List Nat) (fs : List Filt) : Prop where
  mine : F g
  row : ∀ b, bv.ownBlock = some b → F b
  bk : ∀ i (hi : i < fs.length), fs[i].kind = 3 → F (bl.getD i 0)
section
variable {w w' W : World} {F G G' : Nat → Prop} {g : Nat} {lv bv : Value} {bl : List Nat} {fs : List Filt} {bs : List B} {d seen : Int}
theorem RParts.step (h : RParts w g lv bv bl fs bs d seen) (hi : RInF F g bv bl fs) (hs : Step w w' G G') (hf : ∀ k, F k → ¬ G k) : RParts w' g lv bv bl fs bs d seen :=
  ⟨h.hd.imp (fun dk hd => hs.has hd (hf _ hi.mine)), hs.row h.row (fun b hb => hf _ (hi.row b hb)), h.lb, h.ls, fun i hx hk => hs.has (h.bk i hx hk) (hf _ (hi.bk i hx hk)), h.ap⟩
theorem set_same {l : List B} {i : Nat} (h : i < l.length) : l.set i (l.getD i zB) = l := by
  have e : l.getD i zB = l[i] := by simp [List.getD, List.getElem?_eq_getElem h]
  rw [e, List.set_getElem_self]
theorem ptr_at {bl : List Nat} {i : Nat} (h : i < bl.length) : (bl.map pt)[i]? = some (.pointer (some ⟨bl.getD i 0, 0, none⟩)) := by
  rw [List.getElem?_map, List.getElem?_eq_getElem h]
  simp [pt, List.getD, List.getElem?_eq_getElem h]
/-- a bucket turned -/
theorem RParts.taken (h : RParts w g lv bv bl fs bs d seen) {k : Nat} (hk : k < fs.length) (h3 : fs[k].kind = 3) {x : B} (hx : Bk w' (bl.getD k 0) 78 x) (hg : w.grownBy w' (some (bl.getD k 0))) : RParts w' g lv bv bl fs (bs.set k x) d seen := by
  obtain ⟨dk, hd⟩ := h.hd
  have hs : Step w w' (fun q => q = bl.getD k 0) (fun q => q = bl.getD k 0) := Step.of_grown hg (fun q e => by injection e with e; exact e.symm)
  refine ⟨⟨dk, hs.has hd (Has.ne_ hd (h.bk k hk h3) (by decide))⟩, hs.row h.row (fun b hb e => row_ne h.row (h.bk k hk h3) (by decide) (by rw [hb, e])), h.lb, by rw [List.length_set]; exact h.ls, fun i hi hk3 => ?_, h.ap⟩
  rw [getD_set x (by rw [h.ls]; exact hk)]
  by_cases e : i = k
  · subst e
    rw [if_pos rfl]
    exact hx
  · rw [if_neg e]
    refine hs.has (h.bk i hi hk3) (fun q => ?_)
    rcases Nat.lt_or_gt_of_ne e with o | o
    · exact h.ap i k hk o hk3 h3 q
    · exact h.ap k i hi o h3 hk3 q.symm
/-- the head turned -/
theorem RParts.headed (h : RParts w g lv bv bl fs bs d seen) {d2 s2 dk : Int} (hx : Has w' g 73 #[lv, bv, .int .u64 d2, .int .i64 dk, .int .i64 s2]) (hg : w.grownBy w' (some g)) : RParts w' g lv bv bl fs bs d2 s2 := by
  obtain ⟨dk0, hd⟩ := h.hd
  have hs : Step w w' (fun q => q = g) (fun q => q = g) := Step.of_grown hg (fun q e => by injection e with e; exact e.symm)
  exact ⟨⟨dk, hx⟩, hs.row h.row (fun b hb e => row_ne h.row hd (by decide) (by rw [hb, e])), h.lb, h.ls, fun i hi hk => hs.has (h.bk i hi hk) (Has.ne_ (h.bk i hi hk) hd (by decide)), h.ap⟩
end
/-- block g, and those of F, hold a chain of the document's -/
structure RCh (w : World) (F : Nat → Prop) (g : Nat) (lv : Value) (s : Cn) : Prop where
  lt : ∀ k, F k → k < w.heap.size
  good : Good16 s
  parts : ∃ bv bl, RParts w g lv bv bl s.fs s.bs s.d s.seen ∧ RInF F g bv bl s.fs
theorem RCh.step {w w' : World} {F G G' : Nat → Prop} {g : Nat} {lv : Value} {s : Cn} (h : RCh w F g lv s) (hs : Step w w' G G') (hf : ∀ k, F k → ¬ G k) : RCh w' F g lv s := by
  obtain ⟨bv, bl, hp, hi⟩ := h.parts
  exact ⟨fun k hk => Nat.lt_of_lt_of_le (h.lt k hk) hs.size, h.good, bv, bl, hp.step hi hs hf, hi⟩
def RNewC (w w' : World) (e : Ending) (lv : Value) (s : Cn) : Prop := ∃ g F, e = .returned (.pointer (some ⟨g, 0, none⟩)) ∧ RCh w' F g lv s ∧ ∀ k, F k → w.heap.size ≤ k
def RReqC (w w' : World) (e : Ending) (F : Nat → Prop) (g : Nat) (lv : Value) (r : Verd × Int) (s' : Cn) : Prop :=
  ∃ fl pl, e = .returned (.tuple #[.agg (vrdA r.1 fl pl), .int .i64 r.2]) ∧ Lst w' w.heap.size fl r.1.fields ∧ Lst w' w.heap.size pl r.1.pass ∧ Apart16 fl pl ∧ RCh w' F g lv s' ∧ Step w w' F F
/-- what one filter is asked -/
structure OAsk (F : Nat → Prop) (g : Nat) (lv bv : Value) (bl : List Nat) (fs : List Filt) (bs : List B) (d seen : Int) (i : Nat) (now : Int) (vl : Value) (G : List HField) (w : World) : Prop where
  hi : i < fs.length
  right : ∀ f ∈ fs, filtB f = true
  few : FewM G
  len : G.length ≤ 16777216
  fsl : fs.length ≤ 16777216
  parts : RParts w g lv bv bl fs bs d seen
  inf : RInF F g bv bl fs
  lt : ∀ k, F k → k < w.heap.size
  fi : Kpt F w (fun W => Filts W lv fs)
  fl : Kpt F w (fun W => FL W vl G)
  bkok : ∀ b ∈ bs, Ok b ∧ b.told ≤ now
  now2 : now ≤ 1099511627776
/-- what it says; base: the call's heap -/
def OneC (F : Nat → Prop) (g : Nat) (lv bv : Value) (bl : List Nat) (fs : List Filt) (bs : List B) (d seen : Int) (i : Nat) (x : Filt) (now : Int) (mt : ByteArray) (size : Int) (G : List HField) (w : World) (e : Ending) (w' : World) : Prop :=
  ∃ V fl p n c, one16 dv16 x (bs.getD i zB) d now (toL mt) G size = V ∧ e = .returned (.tuple #[.agg (vrdA V fl (.slice none 0 0)), .slice p n c]) ∧ Lst w' w.heap.size fl V.fields ∧
    (V.stop = false → Kpt F w' (fun W => FL W (.slice p n c) (fld16 x G))) ∧ RParts w' g lv bv bl fs (bs.set i (bkt16 x (bs.getD i zB) now)) (dce16 dn16 x d) seen ∧ Step w w' F F
section
variable {F : Nat → Prop} {g : Nat} {lv bv : Value} {bl : List Nat} {fs : List Filt} {bs : List B} {d seen : Int} {i : Nat} {now : Int} {vl : Value} {G : List HField} {w W : World} {x : Filt}
theorem RParts.asis (h : RParts W g lv bv bl fs bs d seen) (hi : i < fs.length) (h3 : x.kind ≠ 3) (h7 : x.kind ≠ 7) : RParts W g lv bv bl fs (bs.set i (bkt16 x (bs.getD i zB) now)) (dce16 dn16 x d) seen := by
  have e1 : bkt16 x (bs.getD i zB) now = bs.getD i zB := by unfold bkt16; rw [if_neg h3]
  have e2 : dce16 dn16 x d = d := by unfold dce16; rw [if_neg h7]
  rw [e1, e2, set_same (by rw [h.ls]; exact hi)]
  exact h
theorem fld_cap {x : Filt} (h : G.length ≤ 16777216) : (fld16 x G).length ≤ 4398046511104 := by have := fld_len x G; omega
/-- the end of it: W ahead of the result's store -/
theorem one_end (h : OAsk F g lv bv bl fs bs d seen i now vl G w) (mt : ByteArray) (size : Int) (V : Verd) (hV : one16 dv16 x (bs.getD i zB) d now (toL mt) G size = V) (hs : Step w W F F) (hp : RParts W g lv bv bl fs (bs.set i (bkt16 x (bs.getD i zB) now)) (dce16 dn16 x d) seen)
    {old : Array Value} (hZ : Has W w.heap.size 42 old) {fl : Value} (hfl : Lst W w.heap.size fl V.fields) {p : Option Addr} {n c : Nat} (hgo : V.stop = false → (.slice p n c = vl ∧ fld16 x G = G) ∨ Lst W w.heap.size (.slice p n c) (fld16 x G)) (cs : Array Value) :
    OneC F g lv bv bl fs bs d seen i x now mt size G w (.returned (.tuple #[.agg (vrdA V fl (.slice none 0 0)), .slice p n c])) (W.setRow w.heap.size cs) := by
  have h1 : Step W (W.setRow w.heap.size cs) (fun k => k = w.heap.size) (fun k => k = w.heap.size) := step_set cs rfl
  have hrow : ∀ {v : Value} {X : List HField}, Lst W w.heap.size v X → Lst (W.setRow w.heap.size cs) w.heap.size v X := fun hv2 => h1.row hv2 (fun b hb e => row_ne hv2 hZ (by decide) (by rw [hb, e]))
  have hs2 : Step w (W.setRow w.heap.size cs) F F := hs.beyond h1 (fun j e => by omega)
  refine ⟨V, fl, p, n, c, hV, rfl, hrow hfl, fun hv => ?_, hp.step h.inf h1 (fun k hk e => by have := h.lt k hk; omega), hs2⟩
  rcases hgo hv with ⟨e1, e2⟩ | hl
  · rw [e1, e2]
    exact h.fl.go hs2
  · exact Kpt.list (hrow hl) (fld_cap h.len) (fun b hb hF => by have := (hl.lt b hb).1; have := h.lt b hF; omega)
/-- the head of it: the result's cell, and the filter's copy -/
structure Pre (F : Nat → Prop) (g : Nat) (lv bv : Value) (bl : List Nat) (fs : List Filt) (bs : List B) (d seen : Int) (vl : Value) (G : List HField) (w : World) (k0 : Int) (x : Filt) (W : World) : Prop where
  hX : Has W (w.heap.size + 1) 29 #[.int .i64 k0, .string (ofL x.name), .string (ofL x.value), .int .i64 x.n, .int .i64 x.m, .int .i64 x.k]
  hZ : Has W w.heap.size 42 zV16
  parts : RParts W g lv bv bl fs bs d seen
  st : Step w W F F
  fl : FL W vl G
  sz : w.heap.size + 2 ≤ W.heap.size
theorem OAsk.pre (h : OAsk F g lv bv bl fs bs d seen i now vl G w) (x : Filt) (hx : x = fs[i]'h.hi) (k0 : Int) (hk : x.kind = k0) : ∃ gf ff cf pl cl, lv = .slice (some ⟨gf, ff, none⟩) fs.length cf ∧ vl = .slice pl G.length cl ∧
    (w.alloc (.cells zV16 42)).cell? ⟨g, 0, none⟩ = some (.slice (some ⟨gf, ff, none⟩) fs.length cf) ∧
    (w.alloc (.cells zV16 42)).cell? ⟨gf, ff + i * 6, none⟩ = some (.int .i64 k0) ∧ (w.alloc (.cells zV16 42)).cell? ⟨gf, ff + i * 6 + 1, none⟩ = some (.string (ofL x.name)) ∧ (w.alloc (.cells zV16 42)).cell? ⟨gf, ff + i * 6 + 2, none⟩ = some (.string (ofL x.value)) ∧ (w.alloc (.cells zV16 42)).cell? ⟨gf, ff + i * 6 + 3, none⟩ = some (.int .i64 x.n) ∧ (w.alloc (.cells zV16 42)).cell? ⟨gf, ff + i * 6 + 4, none⟩ = some (.int .i64 x.m) ∧ (w.alloc (.cells zV16 42)).cell? ⟨gf, ff + i * 6 + 5, none⟩ = some (.int .i64 x.k) ∧
    Pre F g lv bv bl fs bs d seen vl G w k0 x ((w.alloc (.cells zV16 42)).alloc (.cells #[.int .i64 k0, .string (ofL x.name), .string (ofL x.value), .int .i64 x.n, .int .i64 x.m, .int .i64 x.k] 29)) := by
  subst hk
  have s1 : Step w (w.alloc (.cells zV16 42)) F F := Step.alloc w _ F
  have hfi := h.fi _ _ s1
  obtain ⟨pf, cf, hlv, -, -⟩ := hfi.parts
  obtain ⟨pl, cl, hvl, -, -⟩ := id h.fl.here
  rw [hlv] at hfi
  obtain ⟨gf, ff, rfl, m0, m1, m2, m3, m4, m5⟩ := filt_at hfi i h.hi x hx
  obtain ⟨dk, hd⟩ := h.parts.hd
  have c0 : (w.alloc (.cells zV16 42)).cell? ⟨g, 0, none⟩ = some lv := (hd.alloc _).cell 0
  rw [hlv] at c0
  have s2 := s1.trans (Step.alloc (w.alloc (.cells zV16 42)) (.cells #[.int .i64 x.kind, .string (ofL x.name), .string (ofL x.value), .int .i64 x.n, .int .i64 x.m, .int .i64 x.k] 29) F)
  have s3 : Step w _ (fun _ => False) (fun _ => False) := (Step.alloc w (.cells zV16 42) _).trans (Step.alloc (w.alloc (.cells zV16 42)) (.cells #[.int .i64 x.kind, .string (ofL x.name), .string (ofL x.value), .int .i64 x.n, .int .i64 x.m, .int .i64 x.k] 29) _)
  have hX := Has.new (w.alloc (.cells zV16 42)) 29 #[.int .i64 x.kind, .string (ofL x.name), .string (ofL x.value), .int .i64 x.n, .int .i64 x.m, .int .i64 x.k]
  rw [World.size_alloc] at hX
  exact ⟨gf, ff, cf, pl, cl, hlv, hvl, c0, m0, m1, m2, m3, m4, m5, hX, (Has.new w _ _).alloc _, h.parts.step h.inf s3 (fun _ _ e => e), s2, h.fl _ _ s2, by simp⟩
theorem Pre.below {W' : World} {k0 : Int} (h : Pre F g lv bv bl fs bs d seen vl G w k0 x W) (ho : OAsk F g lv bv bl fs bs d seen i now vl G w) (hb : Below W.heap.size W W') : Pre F g lv bv bl fs bs d seen vl G w k0 x W' := by
  have hs : Step W W' F F := Step.of_below hb F
  exact ⟨h.hX.below hb h.hX.lt, h.hZ.below hb h.hZ.lt, h.parts.step ho.inf (Step.of_below hb (fun _ => False)) (fun _ _ e => e), h.st.trans hs, ho.fl _ _ (h.st.trans hs), Nat.le_trans h.sz hb.size⟩
theorem few_f {G : List HField} (h : FewM G) : Few G := fun j hj => h _ (List.getElem_mem hj)
theorem rverd_size : (Try.prog.info? 42).map (·.size) = some 5 := by kernel_rfl
end
end Go.Proofs.Ytfdpoibmlggfbaa.R16Box

/- Layer 7, the document's own Remove. -/
namespace Go.Proofs.Ytfdpoibmlggfbaa.R7RemBig
open Go.ChangeShapes Go.WideShapes Go.ChangeAt Go.RowKit LexPure Bytes Ret Rows1 FieldsPure Flds RAlike7 R7Get KeptRow Mem
set_option maxRecDepth 20000
theorem remove_snoc (l : List HField) (f : HField) (n : List UInt8) : remove (l ++ [f]) n = if hit n f then remove l n else remove l n ++ [f] := by
  unfold remove
  rw [List.filter_append]
  cases h : hit n f <;> simp [h]
theorem remove_len (l : List HField) (n : List UInt8) : (remove l n).length ≤ l.length := List.length_filter_le _ _
set_option maxHeartbeats 1600000 in
theorem rremove_any (v : Value) (G : List HField) (n : ByteArray) (hn : n.size ≤ 1048576) (hG : Few G) (hle2 : G.length ≤ 16777216) (w : World) (hF : FL w v G) :
    Calls Try.prog 37 #[v, .string n] w fun e w' => ∃ v', e = .returned v' ∧ w'.ownsRow w.heap.size 54 2 v' (remove G (toL n)).length (encFs (remove G (toL n))) ∧ Below w.heap.size w w' := by
  obtain ⟨i0, hi, hz0, hz1, hz2⟩ := info_parts infoF
  obtain ⟨p, cap, rfl, hle, hc⟩ := hF
  replace hc := Lib.hid hc
  replace hG := Lib.hid hG
  have HK := Lib.hid (Kept.start w)
  go_enter Try.func37, Try.ntmps37
  go_wp2_with fail
  go_loopw [5, 6] (fun x i wr => ∃ k : Nat, k ≤ G.length ∧ i = .int .i64 k ∧ Hid (Kept w (remove (G.take k) (toL n)) x wr)) (fun _ i _ => G.length - (intOf i).toNat)
  case atStart => exact ⟨0, Nat.zero_le _, rfl, HK⟩
  case round =>
    obtain ⟨k, hk, rfl, HI⟩ := hrel
    clear HK
    by_cases hlt : k < G.length
    · obtain ⟨g, o, rfl, hgl, hcell⟩ := hc.out (by omega)
      obtain ⟨c1, c2⟩ := hcell k hlt
      have hki : (k : Int) < (G.length : Int) := by omega
      obtain ⟨s1, s2⟩ := hG.out k hlt
      have HA := Lib.hid (fun w => ralike7_any (ofL G[k].1) n (by rw [ofL_size]; omega) (by omega) w)
      rw [toL_ofL] at HA
      have HT : Hid (remove (G.take (k + 1)) (toL n) = if hit (toL n) G[k] then remove (G.take k) (toL n) else remove (G.take k) (toL n) ++ [G[k]]) := Lib.hid (by rw [← remove_snoc, List.take_add_one, List.getElem?_eq_getElem hlt]; rfl)
      replace c1 := (HI.out.below.cell (p := ⟨g, o + k * 2, none⟩) hgl).trans c1
      replace c2 := (HI.out.below.cell (p := ⟨g, o + k * 2 + 1, none⟩) hgl).trans c2
      have hgl2 := Nat.lt_of_lt_of_le hgl HI.out.below.size
      clear hcell
      cases hh : hit (toL n) G[k]
      · rw [hh] at HT
        rw [show alike G[k].1 (toL n) = false from hh] at HA
        clear hh
        go_wp2_with fail
        refine (HA.out _).mono ?_
        rintro e w2 ⟨rfl, hb2⟩
        have HK2 := (HI.out.call hb2).alloc (.cells #[.string (ofL G[k].1), .string (ofL G[k].2)] 54)
        have hlen := Nat.le_trans (remove_len (G.take k) (toL n)) (List.length_take_le _ _)
        replace c1 := (hb2.cell (p := ⟨g, o + k * 2, none⟩) hgl2).trans c1
        replace c2 := (hb2.cell (p := ⟨g, o + k * 2 + 1, none⟩) hgl2).trans c2
        have HN := Lib.hid (World.news_of_block (heap_alloc_new w2 (.cells #[.string (ofL G[k].1), .string (ofL G[k].2)] 54)))
        have HKH := Lib.hid HK2
        have hrow := HK2.row
        clear hb2 HK2
        go_wp2_with (at_builtin; refine wpList_append_own_at _ rfl (.tmp 21) (.tmp 26) 32 rfl w.heap.size 54 i0 _ 2 32 Try.underlying32 hi hz0 hz1 hz2 rfl (by omega) _ _ _ rfl hrow ⟨w2.heap.size, 0, none⟩ 1 1 (encF G[k]) rfl rfl HN.out (by simp [encF, Value.oneCell']) (by simp only [maxLen]; omega) (by omega) (by have := HKH.out.below.size; exact this) ?_; intro v4 w4 hown4 hg4 _ hat4)
        have HK3 : Hid (Kept w (remove (G.take (k + 1)) (toL n)) v4 w4) := Lib.hid (by
          rw [HT.out]
          refine ⟨?_, Below.grown HKH.out.below hg4 HKH.out.below.size HKH.out.lt⟩
          rw [if_neg (by decide), encFs_append, List.length_append]
          exact hown4)
        clear hown4 hg4 hat4 hrow
        go_wp2_with fail
        go_roundw
        case rel => exact ⟨k + 1, by omega, by go_num, HK3⟩
        case measure => simp [intOf]; omega
      · rw [hh] at HT
        rw [show alike G[k].1 (toL n) = true from hh] at HA
        clear hh
        go_wp2_with fail
        refine (HA.out _).mono ?_
        rintro e w2 ⟨rfl, hb2⟩
        have HK3 : Hid (Kept w (remove (G.take (k + 1)) (toL n)) u5 w2) := Lib.hid (by
          rw [HT.out]
          exact HI.out.call hb2)
        clear hb2
        go_wp2_with fail
        go_roundw
        case rel => exact ⟨k + 1, by omega, by go_num, HK3⟩
        case measure => simp [intOf]; omega
    · have hall : G.take k = G := List.take_of_length_le (by omega)
      have HE := HI.out
      rw [hall] at HE
      have HEH := Lib.hid HE
      clear HE HI hall
      go_wp2_with fail
      go_ret
      exact ⟨_, rfl, HEH.out.row, HEH.out.below⟩
end Go.Proofs.Ytfdpoibmlggfbaa.R7RemBig

/- Layer 7, the document's own Set. -/
namespace Go.Proofs.Ytfdpoibmlggfbaa.R7SetBig
open Go.ChangeShapes Go.WideShapes Go.ChangeAt Go.RowKit LexPure Bytes Ret Rows1 FieldsPure Flds RAlike7 R7Get KeptRow R7RemBig Mem
set_option maxRecDepth 20000
set_option maxHeartbeats 1600000 in
theorem rset_any (v : Value) (G : List HField) (n x : ByteArray) (hn : n.size ≤ 1048576) (hG : Few G) (hle2 : G.length ≤ 16777216) (w : World) (hF : FL w v G) :
    Calls Try.prog 28 #[v, .string n, .string x] w fun e w' => ∃ v', e = .returned v' ∧ w'.ownsRow w.heap.size 54 2 v' (setF G (toL n) (toL x)).length (encFs (setF G (toL n) (toL x))) ∧ Below w.heap.size w w' := by
  obtain ⟨i0, hi, hz0, hz1, hz2⟩ := info_parts infoF
  have HR := Lib.hid (rremove_any v G n hn hG hle2 w hF)
  have hlen := remove_len G (toL n)
  have HX : Hid (encFs (setF G (toL n) (toL x)) = encFs (remove G (toL n)) ++ encF (toL n, toL x)) := Lib.hid (by unfold setF; rw [encFs_append]; rfl)
  have HL : Hid ((setF G (toL n) (toL x)).length = (remove G (toL n)).length + 1) := Lib.hid (by unfold setF; simp)
  clear hF hG
  go_enter Try.func28, Try.ntmps28
  go_wp2_with fail
  refine HR.out.mono ?_
  rintro e w2 ⟨v2, rfl, hrow2, hb2⟩
  have hrow := row_below hrow2 ((Below.refl w2.heap.size w2).alloc (Nat.le_refl _) (.cells #[.string n, .string x] 54))
  have HB := Lib.hid (hb2.alloc hb2.size (.cells #[.string n, .string x] 54))
  have HLT := Lib.hid (fun j (hj : v2.ownBlock = some j) => (hrow2.lt j hj).1)
  have HN := Lib.hid (World.news_of_block (heap_alloc_new w2 (.cells #[.string n, .string x] 54)))
  clear hrow2 hb2 HR
  go_wp2_with (at_builtin; refine wpList_append_own_at _ rfl (.tmp 11) (.tmp 15) 32 rfl w.heap.size 54 i0 _ 2 32 Try.underlying32 hi hz0 hz1 hz2 rfl (by omega) _ _ _ rfl hrow ⟨w2.heap.size, 0, none⟩ 1 1 [.string n, .string x] rfl rfl HN.out (by simp [Value.oneCell']) (by simp only [maxLen]; omega) (by omega) HB.out.size ?_; intro v4 w4 hown4 hg4 _ hat4)
  have HE : Hid (w4.ownsRow w.heap.size 54 2 v4 (setF G (toL n) (toL x)).length (encFs (setF G (toL n) (toL x))) ∧ Below w.heap.size w w4) := Lib.hid (by
    rw [HX.out, HL.out]
    unfold encF
    rw [ofL_toL, ofL_toL]
    exact ⟨hown4, Below.grown HB.out hg4 HB.out.size HLT.out⟩)
  clear hown4 hg4 hat4 hrow
  go_wp2_with fail
  go_ret
  exact ⟨_, rfl, HE.out⟩
end Go.Proofs.Ytfdpoibmlggfbaa.R7SetBig

/- The document's layer 16: what one filter says (A). -/
namespace Go.Proofs.Ytfdpoibmlggfbaa.R16One
open Go.ChangeShapes Go.WideShapes Go.ChangeAt Go.RowKit Bytes LexPure ConfPure ConfMem FieldsPure Flds FilterPure FiltState FiltKeep FiltObj BucketPure BucketObj R14Eq L16Right R16Box R16Cors Ret Mem Step
set_option maxRecDepth 100000
set_option linter.unusedVariables false
set_option linter.unusedSimpArgs false
set_option maxHeartbeats 6400000 in
theorem one_1 {F : Nat → Prop} {g : Nat} {lv bv : Value} {bl : List Nat} {fs : List Filt} {bs : List B} {d seen : Int} {i : Nat} {now : Int} {vl : Value} {G : List HField} {w : World} (h : OAsk F g lv bv bl fs bs d seen i now vl G w) (mt : ByteArray) (size : Int) (x : Filt) (hx : x = fs[i]'h.hi) (hk : x.kind = 1) :
    Calls Try.prog 29 #[.pointer (some ⟨g, 0, none⟩), .int .i64 (i : Int), .int .i64 now, .string mt, vl, .int .i64 size] w (OneC F g lv bv bl fs bs d seen i x now mt size G w) := by
  obtain ⟨gf, ff, cf, pl, cl, rfl, rfl, c0, m0, m1, m2, m3, m4, m5, hp⟩ := h.pre x hx 1 hk
  have hki : (i : Int) < (fs.length : Int) := by have := h.hi; omega
  have hk0 : (0 : Int) ≤ (i : Int) := by omega
  have hfs : fs.length ≤ 16777216 := h.fsl
  have hR : filtB x = true := by rw [hx]; exact h.right _ (List.getElem_mem _)
  have HO := Lib.hid h
  have HP := Lib.hid hp
  have HK := Lib.hid hk
  have HV : Hid (one16 dv16 x (bs.getD i zB) d now (toL mt) G size = none16) := Lib.hid (by unfold one16; rw [hk, if_neg (by decide), if_neg (by decide), if_neg (by decide), if_neg (by decide), if_neg (by decide)])
  have HS := Lib.hid (R7SetBig.rset_any _ G (ofL x.name) (ofL x.value) (by rw [ofL_size]; exact (right_len hR).1) (few_f h.few) h.len _ HP.out.fl)
  have HQ : Hid (setF G (toL (ofL x.name)) (toL (ofL x.value)) = fld16 x G) := Lib.hid (by rw [toL_ofL, toL_ofL]; unfold fld16; rw [hk]; rfl)
  rw [HQ.out] at HS
  clear hp hR hk hx h
  go_enter Try.func29, Try.ntmps29
  go_wp2_with fail
  refine HS.out.mono ?_
  rintro e w3 ⟨v3, rfl, hrow3, hb3⟩
  have HP3 := Lib.hid (HP.out.below HO.out hb3)
  obtain ⟨p3, c3, rfl, -⟩ := RowKeep.row_form hrow3
  have Z3 := HP3.out.hZ
  have HE := Lib.hid (one_end HO.out mt size none16 HV.out HP3.out.st (HP3.out.parts.asis HO.out.hi (by rw [HK.out]; decide) (by rw [HK.out]; decide)) Z3 (lst_nil _ _) (fun _ => .inr (RowKeep.row_mono hrow3 (Nat.le_trans (by omega) HP.out.sz))) zV16)
  clear hrow3 hb3 HQ HS
  go_wp2_with (refine store_whole rfl 42 5 rverd_size _ _ rfl w.heap.size _ _ Z3 rfl rfl (by simp [Value.oneCell']) rfl rfl ?_)
  refine bodyPost_ret (v := .tuple #[.agg zV16, .slice p3 (fld16 x G).length c3]) (end_pair rfl _ _ w.heap.size 42 _ _ rfl rfl (has_set Z3 _) (run_loadVar_row _ _ _ _ _ (0, 0) _ (has_set Z3 _).at_ Try.underlying42 rfl (by kernel_rfl))) rfl ?_
  exact HE.out
set_option maxHeartbeats 6400000 in
theorem one_2 {F : Nat → Prop} {g : Nat} {lv bv : Value} {bl : List Nat} {fs : List Filt} {bs : List B} {d seen : Int} {i : Nat} {now : Int} {vl : Value} {G : List HField} {w : World} (h : OAsk F g lv bv bl fs bs d seen i now vl G w) (mt : ByteArray) (size : Int) (x : Filt) (hx : x = fs[i]'h.hi) (hk : x.kind = 2) :
    Calls Try.prog 29 #[.pointer (some ⟨g, 0, none⟩), .int .i64 (i : Int), .int .i64 now, .string mt, vl, .int .i64 size] w (OneC F g lv bv bl fs bs d seen i x now mt size G w) := by
  obtain ⟨gf, ff, cf, pl, cl, rfl, rfl, c0, m0, m1, m2, m3, m4, m5, hp⟩ := h.pre x hx 2 hk
  have hki : (i : Int) < (fs.length : Int) := by have := h.hi; omega
  have hk0 : (0 : Int) ≤ (i : Int) := by omega
  have hfs : fs.length ≤ 16777216 := h.fsl
  have hR : filtB x = true := by rw [hx]; exact h.right _ (List.getElem_mem _)
  have HO := Lib.hid h
  have HP := Lib.hid hp
  have HK := Lib.hid hk
  have HV : Hid (one16 dv16 x (bs.getD i zB) d now (toL mt) G size = none16) := Lib.hid (by unfold one16; rw [hk, if_neg (by decide), if_neg (by decide), if_neg (by decide), if_neg (by decide), if_neg (by decide)])
  have HS := Lib.hid (R7RemBig.rremove_any _ G (ofL x.name) (by rw [ofL_size]; exact (right_len hR).1) (few_f h.few) h.len _ HP.out.fl)
  have HQ : Hid (remove G (toL (ofL x.name)) = fld16 x G) := Lib.hid (by rw [toL_ofL]; unfold fld16; rw [hk]; rfl)
  rw [HQ.out] at HS
  clear hp hR hk hx h
  go_enter Try.func29, Try.ntmps29
  go_wp2_with fail
  refine HS.out.mono ?_
  rintro e w3 ⟨v3, rfl, hrow3, hb3⟩
  have HP3 := Lib.hid (HP.out.below HO.out hb3)
  obtain ⟨p3, c3, rfl, -⟩ := RowKeep.row_form hrow3
  have Z3 := HP3.out.hZ
  have HE := Lib.hid (one_end HO.out mt size none16 HV.out HP3.out.st (HP3.out.parts.asis HO.out.hi (by rw [HK.out]; decide) (by rw [HK.out]; decide)) Z3 (lst_nil _ _) (fun _ => .inr (RowKeep.row_mono hrow3 (Nat.le_trans (by omega) HP.out.sz))) zV16)
  clear hrow3 hb3 HQ HS
  go_wp2_with (refine store_whole rfl 42 5 rverd_size _ _ rfl w.heap.size _ _ Z3 rfl rfl (by simp [Value.oneCell']) rfl rfl ?_)
  refine bodyPost_ret (v := .tuple #[.agg zV16, .slice p3 (fld16 x G).length c3]) (end_pair rfl _ _ w.heap.size 42 _ _ rfl rfl (has_set Z3 _) (run_loadVar_row _ _ _ _ _ (0, 0) _ (has_set Z3 _).at_ Try.underlying42 rfl (by kernel_rfl))) rfl ?_
  exact HE.out
set_option maxHeartbeats 6400000 in
theorem one_8 {F : Nat → Prop} {g : Nat} {lv bv : Value} {bl : List Nat} {fs : List Filt} {bs : List B} {d seen : Int} {i : Nat} {now : Int} {vl : Value} {G : List HField} {w : World} (h : OAsk F g lv bv bl fs bs d seen i now vl G w) (mt : ByteArray) (size : Int) (x : Filt) (hx : x = fs[i]'h.hi) (hk : x.kind = 8) :
    Calls Try.prog 29 #[.pointer (some ⟨g, 0, none⟩), .int .i64 (i : Int), .int .i64 now, .string mt, vl, .int .i64 size] w (OneC F g lv bv bl fs bs d seen i x now mt size G w) := by
  obtain ⟨gf, ff, cf, pl, cl, rfl, rfl, c0, m0, m1, m2, m3, m4, m5, hp⟩ := h.pre x hx 8 hk
  have hki : (i : Int) < (fs.length : Int) := by have := h.hi; omega
  have hk0 : (0 : Int) ≤ (i : Int) := by omega
  have hfs : fs.length ≤ 16777216 := h.fsl
  have hR : filtB x = true := by rw [hx]; exact h.right _ (List.getElem_mem _)
  have HO := Lib.hid h
  have HP := Lib.hid hp
  have HK := Lib.hid hk
  have HV : Hid (one16 dv16 x (bs.getD i zB) d now (toL mt) G size = none16) := Lib.hid (by unfold one16; rw [hk, if_neg (by decide), if_neg (by decide), if_neg (by decide), if_neg (by decide), if_neg (by decide)])
  have HX : Hid (fld16 x G = G) := Lib.hid (by unfold fld16; rw [hk]; rfl)
  clear hp hR hk hx h
  go_enter Try.func29, Try.ntmps29
  have Z4 := HP.out.hZ
  have HE := Lib.hid (one_end HO.out mt size none16 HV.out HP.out.st (HP.out.parts.asis HO.out.hi (by rw [HK.out]; decide) (by rw [HK.out]; decide)) Z4 (lst_nil _ _) (p := pl) (n := G.length) (c := cl) (fun _ => .inl ⟨rfl, HX.out⟩) zV16)
  go_wp2_with (refine store_whole rfl 42 5 rverd_size _ _ rfl w.heap.size _ _ Z4 rfl rfl (by simp [Value.oneCell']) rfl rfl ?_)
  refine bodyPost_ret (v := .tuple #[.agg zV16, .slice pl G.length cl]) (end_pair rfl _ _ w.heap.size 42 _ _ rfl rfl (has_set Z4 _) (run_loadVar_row _ _ _ _ _ (0, 0) _ (has_set Z4 _).at_ Try.underlying42 rfl (by kernel_rfl))) rfl ?_
  exact HE.out
end Go.Proofs.Ytfdpoibmlggfbaa.R16One
