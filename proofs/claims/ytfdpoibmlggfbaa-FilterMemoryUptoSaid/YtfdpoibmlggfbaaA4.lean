/- Texts of this seat, one behind another: PFwd7, PFBack, PFDisp, PFBuild, PFNew, PFCopy, PFReq, PFSeq, PFResp, FiltObj. -/
import Derived.Deep.AppendLies
import Derived.Deep.RegionLaw
import Derived.Handy
import Derived.RangeFuncNested
import Derived.RangeFuncBound
import Derived.RangeFuncCalls
import Derived.RangeFuncLeaves
import Derived.RangeFuncBox
import Derived.Shelf.Abstract
import Derived.Shelf.RegionOpen
import Derived.WalkKit
import Derived.OwnWalkIn
import Derived.TacticsInMore
import Derived.LoopNIn
import Derived.LoopIn
import Derived.Test.YtfdpoibmlggfbaaA2
import Derived.Test.YtfdpoibmlggfbaaA3
import Derived.Test.YtfdpoibmlggfbaaA1
/- Layer 16 of the program: what FilterCors says. -/
namespace Go.Proofs.Ytfdpoibmlggfbaa.FiltObj
open Go.ChangeShapes Go.WideShapes Go.ChangeAt Go.RowKit Bytes ConfPure ConfMem FieldsPure Flds FilterPure FiltState FiltKeep BucketPure BucketObj Mem Step
set_option maxRecDepth 20000
set_option linter.unusedVariables false
set_option linter.unusedSimpArgs false
theorem get_origin (G : List HField) : getN G (toL ⟨#[79, 114, 105, 103, 105, 110]⟩) = getN G ORIGIN := FrNames.getN_same (by decide) G
theorem get_acrm (G : List HField) : getN G (toL ⟨#[65, 99, 99, 101, 115, 115, 45, 67, 111, 110, 116, 114, 111, 108, 45, 82, 101, 113, 117, 101, 115, 116, 45, 77, 101, 116, 104, 111, 100]⟩) = getN G ACRM := FrNames.getN_same (by decide) G
theorem getV_acrm (G : List HField) : getV G (toL ⟨#[65, 99, 99, 101, 115, 115, 45, 67, 111, 110, 116, 114, 111, 108, 45, 82, 101, 113, 117, 101, 115, 116, 45, 77, 101, 116, 104, 111, 100]⟩) = getV G ACRM := by unfold getV; rw [FrNames.hit_same (a := toL ⟨#[65, 99, 99, 101, 115, 115, 45, 67, 111, 110, 116, 114, 111, 108, 45, 82, 101, 113, 117, 101, 115, 116, 45, 77, 101, 116, 104, 111, 100]⟩) (b := ACRM) (by decide)]
theorem options_say (mt : ByteArray) : (mt.toList == [79, 80, 84, 73, 79, 78, 83]) = (toL mt == OPTIONS) := by rw [ByteArray.toList_eq]; rfl
set_option maxHeartbeats 3200000 in
theorem pcors_forth (f : Filt) (h1 : f.kind = 5) (base rb b dg : Nat) (now : Int) (method : ByteArray) (size : Int) (bk : B) (d : Int) (fv : Value) (G : List HField) (hG : FewM G) (hle : G.length ≤ 33554432) (W : World)
    (hR : Has W rb 84 (reqA now method fv size)) (hL : Lst W base fv G) (hb : base ≤ W.heap.size) :
    Calls Try.prog 91 #[.agg #[.int .i64 f.kind, .string (ofL f.name), .string (ofL f.value), .int .i64 f.n, .int .i64 f.m, .int .i64 f.k], .pointer (some ⟨rb, 0, none⟩)] W (FwdC base f rb b dg now method size bk d G W) := by
  have HX : Hid (fld16 f G = G) := Lib.hid (by unfold fld16; rw [h1]; rfl)
  have h3 : ¬ f.kind = 3 := by omega
  have h7 : ¬ f.kind = 7 := by omega
  have hF := fl_of hL (by omega)
  have hrb := hR.lt
  obtain ⟨pf, cpf, rfl, -⟩ := RowKeep.row_form hL
  have hb0 := ((Below.refl W.heap.size W).alloc (Nat.le_refl _) (.cells #[.int .i64 f.kind, .string (ofL f.name), .string (ofL f.value), .int .i64 f.n, .int .i64 f.m, .int .i64 f.k] 106))
  have hb1 := hb0.alloc hb0.size (.cells zV16 38)
  have hZ1 := Has.new (W.alloc (.cells #[.int .i64 f.kind, .string (ofL f.name), .string (ofL f.value), .int .i64 f.n, .int .i64 f.m, .int .i64 f.k] 106)) 38 zV16
  rw [World.size_alloc] at hZ1
  have HB1 := Lib.hid hb1
  have HR1 := Lib.hid (hR.below hb1 hR.lt)
  have HX1 := Lib.hid ((Has.new W 106 #[.int .i64 f.kind, .string (ofL f.name), .string (ofL f.value), .int .i64 f.n, .int .i64 f.m, .int .i64 f.k]).alloc (.cells zV16 38))
  have HZ1 := Lib.hid hZ1
  have HF1 := Lib.hid (hF.below hb1)
  have HL1 := Lib.hid (RowKeep.row_below hL hb1)
  have HSZ : Hid (((W.alloc (.cells #[.int .i64 f.kind, .string (ofL f.name), .string (ofL f.value), .int .i64 f.n, .int .i64 f.m, .int .i64 f.k] 106)).alloc (.cells zV16 38)).heap.size = W.heap.size + 2) := Lib.hid (by simp)
  have HY := Lib.hid (fun n w => preply f 200 ⟨#[]⟩ (some ⟨n, 0, none⟩) 2 2 w)
  unfold cf at HY
  have HG1 := Lib.hid (fun w h => PGetW.pget_any (.slice pf G.length cpf) G ⟨#[79, 114, 105, 103, 105, 110]⟩ (wide_of hG) w h)
  have HG2 := Lib.hid (fun w h => PGetW.pget_any (.slice pf G.length cpf) G ⟨#[65, 99, 99, 101, 115, 115, 45, 67, 111, 110, 116, 114, 111, 108, 45, 82, 101, 113, 117, 101, 115, 116, 45, 77, 101, 116, 104, 111, 100]⟩ (wide_of hG) w h)
  rw [get_origin] at HG1
  rw [get_acrm, getV_acrm] at HG2
  obtain ⟨n1, hn1⟩ : ∃ n, n = getN G ORIGIN := ⟨_, rfl⟩
  obtain ⟨v1, hv1⟩ : ∃ v, v = getV G (toL ⟨#[79, 114, 105, 103, 105, 110]⟩) := ⟨_, rfl⟩
  obtain ⟨n2, hn2⟩ : ∃ n, n = getN G ACRM := ⟨_, rfl⟩
  obtain ⟨v2, hv2⟩ : ∃ v, v = getV G ACRM := ⟨_, rfl⟩
  rw [← hn1, ← hv1] at HG1
  rw [← hn2, ← hv2] at HG2
  have HN1 := Lib.hid hn1
  have HN2 := Lib.hid hn2
  have HW := Lib.hid hv2
  clear hn1 hv1 hn2 hv2 hG
  have c0 : ((W.alloc (.cells #[.int .i64 f.kind, .string (ofL f.name), .string (ofL f.value), .int .i64 f.n, .int .i64 f.m, .int .i64 f.k] 106)).alloc (.cells zV16 38)).cell? ⟨rb, 2, none⟩ = some (.slice pf G.length cpf) := HR1.out.cell 2
  have H1 := Lib.hid h1
  clear hb0 hb1 hZ1 hF hL hR h1
  go_enter Try.func91, Try.ntmps91
  go_wp2_with fail
  generalize hW2 : (W.alloc _).alloc _ = W2 at *
  clear hW2
  refine (HG1.out _ HF1.out).mono ?_
  rintro e w3 ⟨rfl, hb3⟩
  have HR3 := Lib.hid (HR1.out.below hb3 HR1.out.lt)
  have HX3 := Lib.hid (HX1.out.below hb3 HX1.out.lt)
  have HZ3 := Lib.hid (HZ1.out.below hb3 HZ1.out.lt)
  have HB3 := Lib.hid (below_chain HB1.out hb3)
  have HF3 := Lib.hid (HF1.out.below hb3)
  have HL3 := Lib.hid (RowKeep.row_below HL1.out hb3)
  have hsz3 : W.heap.size + 2 ≤ w3.heap.size := by have := hb3.size; have h2 := HSZ.out; omega
  clear hb3 c0 HR1 HX1 HZ1 HB1 HF1 HL1 HG1 HSZ
  have c0 : w3.cell? ⟨rb, 2, none⟩ = some (.slice pf G.length cpf) := HR3.out.cell 2
  go_wp2_with fail
  refine (HG2.out _ HF3.out).mono ?_
  rintro e w4 ⟨rfl, hb4⟩
  have HR4 := Lib.hid (HR3.out.below hb4 HR3.out.lt)
  have HX4 := Lib.hid (HX3.out.below hb4 HX3.out.lt)
  have HZ4 := Lib.hid (HZ3.out.below hb4 HZ3.out.lt)
  have HB4 := Lib.hid (below_chain HB3.out hb4)
  have HL4 := Lib.hid (RowKeep.row_below HL3.out hb4)
  have hsz : W.heap.size + 2 ≤ w4.heap.size := by have := hb4.size; omega
  clear hb4 c0 HR3 HX3 HZ3 HB3 HF3 HL3 HG2 hsz3
  have c0 : w4.cell? ⟨rb, 1, none⟩ = some (.string method) := HR4.out.cell 1
  have HP : Hid (pre16 (toL method) G = ((method.toList == [79, 80, 84, 73, 79, 78, 83]) && (decide (0 < n1) && decide (0 < n2)))) := Lib.hid (by rw [options_say, HN1.out, HN2.out]; rfl)
  by_cases hp : pre16 (toL method) G = true
  · have hp2 := hp
    rw [HP.out, Bool.and_eq_true, Bool.and_eq_true, decide_eq_true_eq, decide_eq_true_eq] at hp2
    obtain ⟨t1, t2, t3⟩ := hp2
    have t4 : (method.toList != [79, 80, 84, 73, 79, 78, 83]) = false := by unfold bne; rw [t1]; rfl
    have t5 : ((n1 : Int) == 0) = false := by rw [beq_eq_false_iff_ne]; omega
    have t6 : ((n2 : Int) == 0) = false := by rw [beq_eq_false_iff_ne]; omega
    have hV : one16 dv16 f bk d now (toL method) G size = say16 200 [(ACAO, f.value), (ACAM, v2)] [] := by unfold one16; rw [H1.out, if_neg (by decide), if_neg (by decide), if_pos rfl, if_pos hp, HW.out]
    have HV := Lib.hid hV
    clear hp t2 t3 hV
    have k0 : w4.cell? ⟨W.heap.size, 0, none⟩ = some (.int .i64 f.kind) := HX4.out.cell 0
    have k1 : w4.cell? ⟨W.heap.size, 1, none⟩ = some (.string (ofL f.name)) := HX4.out.cell 1
    have k2 : w4.cell? ⟨W.heap.size, 2, none⟩ = some (.string (ofL f.value)) := HX4.out.cell 2
    have k3 : w4.cell? ⟨W.heap.size, 3, none⟩ = some (.int .i64 f.n) := HX4.out.cell 3
    have k4 : w4.cell? ⟨W.heap.size, 4, none⟩ = some (.int .i64 f.m) := HX4.out.cell 4
    have k5 : w4.cell? ⟨W.heap.size, 5, none⟩ = some (.int .i64 f.k) := HX4.out.cell 5
    go_wp2_with fail
    refine (HY.out _ _).mono ?_
    rintro e w5 ⟨rfl, hb5⟩
    have hb4 := (Below.refl w4.heap.size w4).alloc (Nat.le_refl _) (.cells #[.string ⟨#[65, 99, 99, 101, 115, 115, 45, 67, 111, 110, 116, 114, 111, 108, 45, 65, 108, 108, 111, 119, 45, 79, 114, 105, 103, 105, 110]⟩, .string (ofL f.value), .string ⟨#[65, 99, 99, 101, 115, 115, 45, 67, 111, 110, 116, 114, 111, 108, 45, 65, 108, 108, 111, 119, 45, 77, 101, 116, 104, 111, 100, 115]⟩, .string (ofL v2)] 54)
    have Z5 := (HZ4.out.below hb4 HZ4.out.lt).below hb5 (HZ4.out.below hb4 HZ4.out.lt).lt
    have HL6 : Lst (w4.alloc (.cells #[.string ⟨#[65, 99, 99, 101, 115, 115, 45, 67, 111, 110, 116, 114, 111, 108, 45, 65, 108, 108, 111, 119, 45, 79, 114, 105, 103, 105, 110]⟩, .string (ofL f.value), .string ⟨#[65, 99, 99, 101, 115, 115, 45, 67, 111, 110, 116, 114, 111, 108, 45, 65, 108, 108, 111, 119, 45, 77, 101, 116, 104, 111, 100, 115]⟩, .string (ofL v2)] 54)) base (.slice (some ⟨w4.heap.size, 0, none⟩) 2 2) [(ACAO, f.value), (ACAM, v2)] := lst_new [(ACAO, f.value), (ACAM, v2)] (by show 2 ≤ 1000; omega) _ rfl (by omega)
    have HL5 := RowKeep.row_below HL6 hb5
    have HE := Lib.hid (fwd_stop (b := b) (dg := dg) (rb := rb) (W := W) (W' := w5.setRow (W.heap.size + 1) #[.bool true, .int .i64 200, .slice (some ⟨w4.heap.size, 0, none⟩) 2 2, .string ⟨#[]⟩, .slice none 0 0]) HV.out ((step_set (F := fun k => k = W.heap.size + 1) _ rfl).row HL5 (fun q hq e => by injection hq with hq; have hq2 : w4.heap.size = q := hq; omega)) (step_new (Step.of_below (below_chain (below_chain HB4.out hb4) hb5) _) _ (by omega)) (fun e => absurd e h3) (fun e => absurd e h7))
    clear hb4 hb5 k0 k1 k2 k3 k4 k5 HV HX4 HR4 HZ4 HB4 HL4 HL5 HL6 HP t1 t4 t5 t6 c0
    go_wp2_with (refine store_whole rfl 38 5 pverd_size _ _ rfl (W.heap.size + 1) _ _ Z5 rfl rfl (by simp [Value.oneCell']) rfl rfl ?_)
    refine bodyPost_ret (v := .agg #[.bool true, .int .i64 200, .slice (some ⟨w4.heap.size, 0, none⟩) 2 2, .string ⟨#[]⟩, .slice none 0 0]) (results_cell_row rfl _ _ (W.heap.size + 1) 38 _ (0, 0) _ rfl (has_set Z5 _).at_ Try.underlying38 rfl (by kernel_rfl)) rfl ?_
    exact HE.out
  · have hV : one16 dv16 f bk d now (toL method) G size = none16 := by unfold one16; rw [H1.out, if_neg (by decide), if_neg (by decide), if_pos rfl, if_neg hp]
    have HV := Lib.hid hV
    have hx : (method.toList == [79, 80, 84, 73, 79, 78, 83]) = false ∨ ((method.toList == [79, 80, 84, 73, 79, 78, 83]) = true ∧ n1 = 0) ∨ ((method.toList == [79, 80, 84, 73, 79, 78, 83]) = true ∧ ((n1 : Int) == 0) = false ∧ n2 = 0) := by
      rw [HP.out] at hp
      cases h : (method.toList == [79, 80, 84, 73, 79, 78, 83])
      · exact .inl rfl
      · rw [h, Bool.true_and, Bool.and_eq_true, decide_eq_true_eq, decide_eq_true_eq] at hp
        by_cases h2 : n1 = 0
        · exact .inr (.inl ⟨rfl, h2⟩)
        · exact .inr (.inr ⟨rfl, by rw [beq_eq_false_iff_ne]; omega, by omega⟩)
    have Z4 := HZ4.out
    have HE := Lib.hid (fwd_none (b := b) (dg := dg) (W := W) HV.out (has_other HR4.out zV16 (show rb ≠ W.heap.size + 1 by omega)) (show Lst _ base (.slice pf G.length cpf) (fld16 f G) by rw [HX.out]; exact (step_set (F := fun k => k = W.heap.size + 1) zV16 rfl).row HL4.out (fun q hq e => row_ne HL4.out HZ4.out (by decide) (by rw [hq, e]))) (step_new (Step.of_below HB4.out _) _ (by omega)) (fun e => absurd e h3) (fun e => absurd e h7))
    clear hp hV HV HX4 HR4 HZ4 HB4 HL4 HP
    have HM1 := HN1
    have HM2 := HN2
    rcases hx with t1 | ⟨t1, t2⟩ | ⟨t1, t2, t3⟩
    · have t4 : (method.toList != [79, 80, 84, 73, 79, 78, 83]) = true := by unfold bne; rw [t1]; rfl
      go_wp2_with (refine store_whole rfl 38 5 pverd_size _ _ rfl (W.heap.size + 1) _ _ Z4 rfl rfl (by simp [Value.oneCell']) rfl rfl ?_)
      refine bodyPost_ret (v := .agg zV16) (results_cell_row rfl _ _ (W.heap.size + 1) 38 _ (0, 0) _ rfl (has_set Z4 _).at_ Try.underlying38 rfl (by kernel_rfl)) rfl ?_
      exact HE.out
    · have t4 : (method.toList != [79, 80, 84, 73, 79, 78, 83]) = false := by unfold bne; rw [t1]; rfl
      have t5 : ((n1 : Int) == 0) = true := by rw [t2]; rfl
      clear t2
      go_wp2_with (refine store_whole rfl 38 5 pverd_size _ _ rfl (W.heap.size + 1) _ _ Z4 rfl rfl (by simp [Value.oneCell']) rfl rfl ?_)
      refine bodyPost_ret (v := .agg zV16) (results_cell_row rfl _ _ (W.heap.size + 1) 38 _ (0, 0) _ rfl (has_set Z4 _).at_ Try.underlying38 rfl (by kernel_rfl)) rfl ?_
      exact HE.out
    · have t4 : (method.toList != [79, 80, 84, 73, 79, 78, 83]) = false := by unfold bne; rw [t1]; rfl
      have t5 : ((n2 : Int) == 0) = true := by rw [t3]; rfl
      clear t3
      go_wp2_with (refine store_whole rfl 38 5 pverd_size _ _ rfl (W.heap.size + 1) _ _ Z4 rfl rfl (by simp [Value.oneCell']) rfl rfl ?_)
      refine bodyPost_ret (v := .agg zV16) (results_cell_row rfl _ _ (W.heap.size + 1) 38 _ (0, 0) _ rfl (has_set Z4 _).at_ Try.underlying38 rfl (by kernel_rfl)) rfl ?_
      exact HE.out
end Go.Proofs.Ytfdpoibmlggfbaa.FiltObj

/- Layer 16 of the program: what the filters do on the way back. -/
namespace Go.Proofs.Ytfdpoibmlggfbaa.FiltObj
open Go.ChangeShapes Go.WideShapes Go.ChangeAt Go.RowKit Bytes FRow ConfPure ConfMem FieldsPure Flds FilterPure FiltState FiltKeep BucketPure BucketObj Mem Step
set_option maxRecDepth 20000
set_option linter.unusedVariables false
set_option linter.unusedSimpArgs false
/-- what a filter makes of a response's fields; base: lists lie from there on -/
def BackC (base : Nat) (f : Filt) (G : List HField) (W : World) (e : Ending) (W' : World) : Prop := ∃ v', e = .returned v' ∧ Lst W' base v' (back16 f G) ∧ Below W.heap.size W W'
theorem pcommon_back (x : Filt) (h5 : x.kind ≠ 5) (h8 : x.kind ≠ 8) (base : Nat) (v : Value) (G : List HField) (W : World) (hL : Lst W base v G) :
    Calls Try.prog 71 #[.agg (cf x), v] W (BackC base x G W) := by
  have HB1 := Lib.hid ((Below.refl W.heap.size W).alloc (Nat.le_refl _) (.cells (cf x) 96))
  have hX : back16 x G = G := by unfold back16; rw [if_neg h8, if_neg h5]
  have HL := Lib.hid (RowKeep.row_below hL HB1.out)
  obtain ⟨pf, cpf, rfl, -⟩ := RowKeep.row_form hL
  have HX := Lib.hid hX
  clear hL hX
  unfold cf at *
  go_enter Try.func71, Try.ntmps71
  go_wp2_with fail
  go_ret
  exact ⟨_, rfl, by rw [HX.out]; exact HL.out, HB1.out⟩
theorem panswer_back (x : Filt) (h8 : x.kind = 8) (base : Nat) (v : Value) (G : List HField) (hG : FewM G) (hle : G.length ≤ 33554432) (W : World) (hL : Lst W base v G) (hb : base ≤ W.heap.size) :
    Calls Try.prog 98 #[.agg (cf x), v] W (BackC base x G W) := by
  have HB1 := Lib.hid ((Below.refl W.heap.size W).alloc (Nat.le_refl _) (.cells (cf x) 110))
  have hX : back16 x G = setF G x.name x.value := by unfold back16; rw [if_pos h8]
  have HF := Lib.hid ((fl_of hL (by omega)).below HB1.out)
  obtain ⟨pf, cpf, rfl, -⟩ := RowKeep.row_form hL
  have HX := Lib.hid hX
  have hc := Has.new W 110 (cf x)
  unfold cf at *
  have c1 := hc.cell 1
  have c2 := hc.cell 2
  have HS := Lib.hid (fun w h => PSetW.pset_any (.slice pf G.length cpf) G (ofL x.name) (ofL x.value) (wide_of hG) (by omega) w h)
  rw [toL_ofL, toL_ofL] at HS
  clear hL hX h8 hc hG
  go_enter Try.func98, Try.ntmps98
  go_wp2_with fail
  refine (HS.out _ HF.out).mono ?_
  rintro e w3 ⟨v', rfl, hrow, hb3⟩
  have HE : Hid (BackC base x G W (.returned v') w3) := Lib.hid ⟨_, rfl, by rw [HX.out]; exact RowKeep.row_mono hrow (by simp; omega), below_chain HB1.out hb3⟩
  clear hrow hb3 HS HF HB1 c1 c2
  go_wp2_with fail
  go_ret
  exact HE.out
theorem pcors_back (x : Filt) (h5 : x.kind = 5) (base : Nat) (v : Value) (G : List HField) (hG : FewM G) (hle : G.length ≤ 33554432) (W : World) (hL : Lst W base v G) (hb : base ≤ W.heap.size) :
    Calls Try.prog 90 #[.agg (cf x), v] W (BackC base x G W) := by
  have HB1 := Lib.hid ((Below.refl W.heap.size W).alloc (Nat.le_refl _) (.cells (cf x) 106))
  have hX : back16 x G = setF G ACAO x.value := by unfold back16; rw [if_neg (by omega), if_pos h5]
  have HF := Lib.hid ((fl_of hL (by omega)).below HB1.out)
  obtain ⟨pf, cpf, rfl, -⟩ := RowKeep.row_form hL
  have HX := Lib.hid hX
  have hc := Has.new W 106 (cf x)
  unfold cf at *
  have c2 := hc.cell 2
  have HS := Lib.hid (fun w h => PSetW.pset_any (.slice pf G.length cpf) G ⟨#[65, 99, 99, 101, 115, 115, 45, 67, 111, 110, 116, 114, 111, 108, 45, 65, 108, 108, 111, 119, 45, 79, 114, 105, 103, 105, 110]⟩ (ofL x.value) (wide_of hG) (by omega) w h)
  rw [toL_ofL, show toL ⟨#[65, 99, 99, 101, 115, 115, 45, 67, 111, 110, 116, 114, 111, 108, 45, 65, 108, 108, 111, 119, 45, 79, 114, 105, 103, 105, 110]⟩ = ACAO from rfl] at HS
  clear hL hX h5 hc hG
  go_enter Try.func90, Try.ntmps90
  go_wp2_with fail
  refine (HS.out _ HF.out).mono ?_
  rintro e w3 ⟨v', rfl, hrow, hb3⟩
  have HE : Hid (BackC base x G W (.returned v') w3) := Lib.hid ⟨_, rfl, by rw [HX.out]; exact RowKeep.row_mono hrow (by simp; omega), below_chain HB1.out hb3⟩
  clear hrow hb3 HS HF HB1 c2
  go_wp2_with fail
  go_ret
  exact HE.out
end Go.Proofs.Ytfdpoibmlggfbaa.FiltObj

/- Layer 16 of the program: a filter's two methods, called through the interface. -/
namespace Go.Proofs.Ytfdpoibmlggfbaa.FiltObj
open Go.ChangeShapes Go.WideShapes Go.ChangeAt Go.RowKit Bytes FRow ConfPure ConfMem FieldsPure Flds FilterPure FiltState FiltKeep BucketPure BucketObj Mem Step
set_option maxRecDepth 20000
set_option linter.unusedVariables false
set_option linter.unusedSimpArgs false
theorem kinds {f : Filt} (h : filtB f = true) : f.kind = 1 ∨ f.kind = 2 ∨ f.kind = 3 ∨ f.kind = 4 ∨ f.kind = 5 ∨ f.kind = 6 ∨ f.kind = 7 ∨ f.kind = 8 := by
  unfold filtB at h
  by_cases h1 : f.kind = 1 ∨ f.kind = 8
  · omega
  rw [if_neg h1] at h
  by_cases h2 : f.kind = 2
  · omega
  rw [if_neg h2] at h
  by_cases h3 : f.kind = 3
  · omega
  rw [if_neg h3] at h
  by_cases h4 : f.kind = 4
  · omega
  rw [if_neg h4] at h
  by_cases h5 : f.kind = 5
  · omega
  rw [if_neg h5] at h
  by_cases h6 : f.kind = 6
  · omega
  rw [if_neg h6] at h
  by_cases h7 : f.kind = 7
  · omega
  rw [if_neg h7] at h
  cases h
/-- what a request meets at a filter -/
structure Ask (base : Nat) (f : Filt) (rb b dg : Nat) (now : Int) (method : ByteArray) (size : Int) (bk : B) (d : Int) (fv : Value) (G : List HField) (W : World) : Prop where
  few : FewM G
  len : G.length ≤ 33554432
  req : Has W rb 84 (reqA now method fv size)
  list : Lst W base fv G
  base : base ≤ W.heap.size
  bucket : f.kind = 3 → Bk W b 124 bk ∧ Ok bk ∧ bk.told ≤ now ∧ now ≤ 1099511627776
  dice : f.kind = 7 → ∃ dk, Has W dg 94 #[.int .u64 d, .int .i64 dk]
theorem answer_forth (f : Filt) (h1 : f.kind = 8) (base rb b dg : Nat) (now : Int) (method : ByteArray) (size : Int) (bk : B) (d : Int) (fv : Value) (G : List HField) (W : World)
    (hR : Has W rb 84 (reqA now method fv size)) (hL : Lst W base fv G) :
    Calls Try.prog 72 #[.agg (cf f), .pointer (some ⟨rb, 0, none⟩)] W (FwdC base f rb b dg now method size bk d G W) := by
  refine (pcommon_forth f _ W).mono ?_
  rintro e W' ⟨rfl, hb⟩
  exact fwd_none (by unfold one16; rw [h1]; rfl) (hR.below hb hR.lt) (by rw [show fld16 f G = G from by unfold fld16; rw [h1]; rfl]; exact RowKeep.row_below hL hb) (Step.of_below hb _) (fun e => absurd e (by omega)) (fun e => absurd e (by omega))
theorem forth_disp (f : Filt) (hf : filtB f = true) (b dg : Nat) : ∃ (T : TypeId) (V : Value) (fn : FuncId) (rc : Value), ifv f b dg = .iface T V ∧
    (∀ n w, (nilAhead (n + 1) T V "barbican/filter.forth").run Try.prog w = .ok (some false) w) ∧ (∀ n w, (method (n + 1) T V "barbican/filter.forth").run Try.prog w = .ok (fn, rc) w) ∧ (∀ (args : Array Value) (w : World), (callFunc fn args).run Try.prog w = .ok (.enter fn args) w) ∧
    ∀ base rb now mt size bk d fv G W, Ask base f rb b dg now mt size bk d fv G W → Calls Try.prog fn #[rc, .pointer (some ⟨rb, 0, none⟩)] W (FwdC base f rb b dg now mt size bk d G W) := by
  rcases kinds hf with h | h | h | h | h | h | h | h
  · refine ⟨98, .agg (cf f), 73, .agg (cf f), by unfold ifv kT kA; rw [h]; rfl, fun n w => by unfold cf; kernel_rfl, fun n w => by unfold cf; kernel_rfl, enters_of Try.func73 (by kernel_rfl) rfl, fun base rb now mt size bk d fv G W x => pset_forth f h base rb b dg now mt size bk d fv G x.few x.len W x.req x.list x.base⟩
  · refine ⟨99, .agg (cf f), 80, .agg (cf f), by unfold ifv kT kA; rw [h]; rfl, fun n w => by unfold cf; kernel_rfl, fun n w => by unfold cf; kernel_rfl, enters_of Try.func80 (by kernel_rfl) rfl, fun base rb now mt size bk d fv G W x => pdrop_forth f h base rb b dg now mt size bk d fv G x.few x.len W x.req x.list x.base⟩
  · refine ⟨104, .agg (cf1 f b), 82, .agg (cf1 f b), by unfold ifv kT kA; rw [h]; rfl, fun n w => by unfold cf1; kernel_rfl, fun n w => by unfold cf1; kernel_rfl, enters_of Try.func82 (by kernel_rfl) rfl, fun base rb now mt size bk d fv G W x => plimit_forth f h base rb b dg now mt size bk d fv G x.few x.len W x.req x.list x.base (x.bucket h).1 (x.bucket h).2.1 (x.bucket h).2.2.1 (x.bucket h).2.2.2⟩
  · refine ⟨105, .agg (cf f), 86, .agg (cf f), by unfold ifv kT kA; rw [h]; rfl, fun n w => by unfold cf; kernel_rfl, fun n w => by unfold cf; kernel_rfl, enters_of Try.func86 (by kernel_rfl) rfl, fun base rb now mt size bk d fv G W x => ptoken_forth f h base rb b dg now mt size bk d fv G x.few x.len W x.req x.list x.base⟩
  · refine ⟨106, .agg (cf f), 91, .agg (cf f), by unfold ifv kT kA; rw [h]; rfl, fun n w => by unfold cf; kernel_rfl, fun n w => by unfold cf; kernel_rfl, enters_of Try.func91 (by kernel_rfl) rfl, fun base rb now mt size bk d fv G W x => pcors_forth f h base rb b dg now mt size bk d fv G x.few x.len W x.req x.list x.base⟩
  · refine ⟨107, .agg (cf f), 92, .agg (cf f), by unfold ifv kT kA; rw [h]; rfl, fun n w => by unfold cf; kernel_rfl, fun n w => by unfold cf; kernel_rfl, enters_of Try.func92 (by kernel_rfl) rfl, fun base rb now mt size bk d fv G W x => pbody_forth f h base rb b dg now mt size bk d fv G x.few x.len W x.req x.list x.base⟩
  · refine ⟨109, .agg (cf1 f dg), 93, .agg (cf1 f dg), by unfold ifv kT kA; rw [h]; rfl, fun n w => by unfold cf1; kernel_rfl, fun n w => by unfold cf1; kernel_rfl, enters_of Try.func93 (by kernel_rfl) rfl, fun base rb now mt size bk d fv G W x => pfault_forth f h base rb b dg now mt size bk d fv G x.few x.len W x.req x.list x.base (x.dice h)⟩
  · refine ⟨110, .agg (cf f), 72, .agg (cf f), by unfold ifv kT kA; rw [h]; rfl, fun n w => by unfold cf; kernel_rfl, fun n w => by unfold cf; kernel_rfl, enters_of Try.func72 (by kernel_rfl) rfl, fun base rb now mt size bk d fv G W x => answer_forth f h base rb b dg now mt size bk d fv G W x.req x.list⟩
theorem back_disp (f : Filt) (hf : filtB f = true) (b dg : Nat) : ∃ (T : TypeId) (V : Value) (fn : FuncId) (rc : Value), ifv f b dg = .iface T V ∧
    (∀ n w, (nilAhead (n + 1) T V "barbican/filter.back").run Try.prog w = .ok (some false) w) ∧ (∀ n w, (method (n + 1) T V "barbican/filter.back").run Try.prog w = .ok (fn, rc) w) ∧ (∀ (args : Array Value) (w : World), (callFunc fn args).run Try.prog w = .ok (.enter fn args) w) ∧
    ∀ base v G W, FewM G → G.length ≤ 33554432 → Lst W base v G → base ≤ W.heap.size → Calls Try.prog fn #[rc, v] W (BackC base f G W) := by
  rcases kinds hf with h | h | h | h | h | h | h | h
  · refine ⟨98, .agg (cf f), 71, .agg (cf f), by unfold ifv kT kA; rw [h]; rfl, fun n w => by unfold cf; kernel_rfl, fun n w => by unfold cf; kernel_rfl, enters_of Try.func71 (by kernel_rfl) rfl, fun base v G W hG hle hL hb => pcommon_back f (by omega) (by omega) base v G W hL⟩
  · refine ⟨99, .agg (cf f), 71, .agg (cf f), by unfold ifv kT kA; rw [h]; rfl, fun n w => by unfold cf; kernel_rfl, fun n w => by unfold cf; kernel_rfl, enters_of Try.func71 (by kernel_rfl) rfl, fun base v G W hG hle hL hb => pcommon_back f (by omega) (by omega) base v G W hL⟩
  · refine ⟨104, .agg (cf1 f b), 71, .agg (cf f), by unfold ifv kT kA; rw [h]; rfl, fun n w => by unfold cf1; kernel_rfl, fun n w => by unfold cf1 cf; kernel_rfl, enters_of Try.func71 (by kernel_rfl) rfl, fun base v G W hG hle hL hb => pcommon_back f (by omega) (by omega) base v G W hL⟩
  · refine ⟨105, .agg (cf f), 71, .agg (cf f), by unfold ifv kT kA; rw [h]; rfl, fun n w => by unfold cf; kernel_rfl, fun n w => by unfold cf; kernel_rfl, enters_of Try.func71 (by kernel_rfl) rfl, fun base v G W hG hle hL hb => pcommon_back f (by omega) (by omega) base v G W hL⟩
  · refine ⟨106, .agg (cf f), 90, .agg (cf f), by unfold ifv kT kA; rw [h]; rfl, fun n w => by unfold cf; kernel_rfl, fun n w => by unfold cf; kernel_rfl, enters_of Try.func90 (by kernel_rfl) rfl, fun base v G W hG hle hL hb => pcors_back f h base v G hG hle W hL hb⟩
  · refine ⟨107, .agg (cf f), 71, .agg (cf f), by unfold ifv kT kA; rw [h]; rfl, fun n w => by unfold cf; kernel_rfl, fun n w => by unfold cf; kernel_rfl, enters_of Try.func71 (by kernel_rfl) rfl, fun base v G W hG hle hL hb => pcommon_back f (by omega) (by omega) base v G W hL⟩
  · refine ⟨109, .agg (cf1 f dg), 71, .agg (cf f), by unfold ifv kT kA; rw [h]; rfl, fun n w => by unfold cf1; kernel_rfl, fun n w => by unfold cf1 cf; kernel_rfl, enters_of Try.func71 (by kernel_rfl) rfl, fun base v G W hG hle hL hb => pcommon_back f (by omega) (by omega) base v G W hL⟩
  · refine ⟨110, .agg (cf f), 98, .agg (cf f), by unfold ifv kT kA; rw [h]; rfl, fun n w => by unfold cf; kernel_rfl, fun n w => by unfold cf; kernel_rfl, enters_of Try.func98 (by kernel_rfl) rfl, fun base v G W hG hle hL hb => panswer_back f h base v G hG hle W hL hb⟩
end Go.Proofs.Ytfdpoibmlggfbaa.FiltObj

/- Layer 16 of the program: build. -/
namespace Go.Proofs.Ytfdpoibmlggfbaa.FiltObj
open Go.ChangeShapes Go.WideShapes Go.ChangeAt Go.RowKit Bytes FRow ConfPure ConfMem FieldsPure Flds FilterPure FiltState FiltKeep BucketPure BucketObj Mem Step
set_option maxRecDepth 20000
set_option linter.unusedVariables false
set_option linter.unusedSimpArgs false
/-- a filter is built -/
def BuildC (f : Filt) (dg : Nat) (W : World) (e : Ending) (W' : World) : Prop :=
  ∃ T V b, e = .returned (.iface T V) ∧ ifv f b dg = .iface T V ∧ (f.kind = 3 → W.heap.size ≤ b ∧ Bk W' b 124 (bk16 f)) ∧ Below W.heap.size W W'
set_option maxHeartbeats 1600000 in
theorem pbuild_1 (f : Filt) (hf : filtB f = true) (h1 : f.kind = 1) (dg : Nat) (W : World) :
    Calls Try.prog 24 #[.agg #[.int .i64 f.kind, .string (ofL f.name), .string (ofL f.value), .int .i64 f.n, .int .i64 f.m, .int .i64 f.k], .pointer (some ⟨dg, 0, none⟩)] W (BuildC f dg W) := by
  have hb0 := (Below.refl W.heap.size W).alloc (Nat.le_refl _) (.cells #[.int .i64 f.kind, .string (ofL f.name), .string (ofL f.value), .int .i64 f.n, .int .i64 f.m, .int .i64 f.k] 29)
  have HB1 := Lib.hid (hb0.alloc hb0.size (.cells #[.int .i64 f.kind, .string (ofL f.name), .string (ofL f.value), .int .i64 f.n, .int .i64 f.m, .int .i64 f.k] 96))
  have HI : Hid (∀ b, ifv f b dg = .iface 98 (.agg #[.int .i64 f.kind, .string (ofL f.name), .string (ofL f.value), .int .i64 f.n, .int .i64 f.m, .int .i64 f.k])) := Lib.hid (fun b => by unfold ifv kT kA cf cf1; rw [h1]; rfl)
  rw [h1] at HB1 HI ⊢
  have H1 := Lib.hid h1
  clear h1 hb0 hf
  go_enter Try.func24, Try.ntmps24
  go_wp2_with fail
  go_ret
  exact ⟨_, _, 0, rfl, HI.out 0, fun e => absurd (H1.out.symm.trans e) (by decide), HB1.out⟩
set_option maxHeartbeats 1600000 in
theorem pbuild_2 (f : Filt) (hf : filtB f = true) (h1 : f.kind = 2) (dg : Nat) (W : World) :
    Calls Try.prog 24 #[.agg #[.int .i64 f.kind, .string (ofL f.name), .string (ofL f.value), .int .i64 f.n, .int .i64 f.m, .int .i64 f.k], .pointer (some ⟨dg, 0, none⟩)] W (BuildC f dg W) := by
  have hb0 := (Below.refl W.heap.size W).alloc (Nat.le_refl _) (.cells #[.int .i64 f.kind, .string (ofL f.name), .string (ofL f.value), .int .i64 f.n, .int .i64 f.m, .int .i64 f.k] 29)
  have HB1 := Lib.hid (hb0.alloc hb0.size (.cells #[.int .i64 f.kind, .string (ofL f.name), .string (ofL f.value), .int .i64 f.n, .int .i64 f.m, .int .i64 f.k] 96))
  have HI : Hid (∀ b, ifv f b dg = .iface 99 (.agg #[.int .i64 f.kind, .string (ofL f.name), .string (ofL f.value), .int .i64 f.n, .int .i64 f.m, .int .i64 f.k])) := Lib.hid (fun b => by unfold ifv kT kA cf cf1; rw [h1]; rfl)
  rw [h1] at HB1 HI ⊢
  have H1 := Lib.hid h1
  clear h1 hb0 hf
  go_enter Try.func24, Try.ntmps24
  go_wp2_with fail
  go_ret
  exact ⟨_, _, 0, rfl, HI.out 0, fun e => absurd (H1.out.symm.trans e) (by decide), HB1.out⟩
set_option maxHeartbeats 1600000 in
theorem pbuild_3 (f : Filt) (hf : filtB f = true) (h1 : f.kind = 3) (dg : Nat) (W : World) :
    Calls Try.prog 24 #[.agg #[.int .i64 f.kind, .string (ofL f.name), .string (ofL f.value), .int .i64 f.n, .int .i64 f.m, .int .i64 f.k], .pointer (some ⟨dg, 0, none⟩)] W (BuildC f dg W) := by
  have hb0 := (Below.refl W.heap.size W).alloc (Nat.le_refl _) (.cells #[.int .i64 f.kind, .string (ofL f.name), .string (ofL f.value), .int .i64 f.n, .int .i64 f.m, .int .i64 f.k] 29)
  have HB1 := Lib.hid (hb0.alloc hb0.size (.cells #[.int .i64 f.kind, .string (ofL f.name), .string (ofL f.value), .int .i64 f.n, .int .i64 f.m, .int .i64 f.k] 96))
  have HI : Hid (∀ b, ifv f b dg = .iface 104 (.agg #[.int .i64 f.kind, .string (ofL f.name), .string (ofL f.value), .int .i64 f.n, .int .i64 f.m, .int .i64 f.k, .pointer (some ⟨b, 0, none⟩)])) := Lib.hid (fun b => by unfold ifv kT kA cf cf1; rw [h1]; rfl)
  rw [h1] at HB1 HI ⊢
  have H1 := Lib.hid h1
  obtain ⟨t1, t2, t3⟩ := limit_fits hf h1
  have hE : BucketOps.newE f.n f.m f.k 0 = 0 := by unfold BucketOps.newE; rw [t1, t2, t3]; decide
  have HN := Lib.hid (fun w => BucketOps.new_ok f.n f.m f.k 0 hE w)
  have HK : Hid (bk16 f = full f.n f.m f.k 0) := Lib.hid (by unfold bk16; rw [if_pos h1])
  clear t1 t2 t3 hE
  clear h1 hb0 hf
  go_enter Try.func24, Try.ntmps24
  go_wp2_with fail
  refine (HN.out _).mono ?_
  rintro e w3 ⟨rfl, rfl⟩
  have hw := Has.new ((W.alloc (.cells #[.int .i64 3, .string (ofL f.name), .string (ofL f.value), .int .i64 f.n, .int .i64 f.m, .int .i64 f.k] 29)).alloc (.cells #[.int .i64 3, .string (ofL f.name), .string (ofL f.value), .int .i64 f.n, .int .i64 f.m, .int .i64 f.k] 96)) 124 #[.int .i64 f.n, .int .i64 f.m, .int .i64 f.k, .int .i64 f.n, .int .i64 0, .int .i64 0]
  rw [World.size_alloc, World.size_alloc] at hw
  have HW := Lib.hid hw
  have HB3 := Lib.hid (HB1.out.alloc HB1.out.size (.cells #[.int .i64 f.n, .int .i64 f.m, .int .i64 f.k, .int .i64 f.n, .int .i64 0, .int .i64 0] 124))
  clear hw HB1 HN
  go_wp2_with fail
  go_ret
  exact ⟨_, _, W.heap.size + 1 + 1, rfl, HI.out _, fun _ => ⟨by omega, by rw [HK.out]; exact HW.out⟩, HB3.out⟩
set_option maxHeartbeats 1600000 in
theorem pbuild_4 (f : Filt) (hf : filtB f = true) (h1 : f.kind = 4) (dg : Nat) (W : World) :
    Calls Try.prog 24 #[.agg #[.int .i64 f.kind, .string (ofL f.name), .string (ofL f.value), .int .i64 f.n, .int .i64 f.m, .int .i64 f.k], .pointer (some ⟨dg, 0, none⟩)] W (BuildC f dg W) := by
  have hb0 := (Below.refl W.heap.size W).alloc (Nat.le_refl _) (.cells #[.int .i64 f.kind, .string (ofL f.name), .string (ofL f.value), .int .i64 f.n, .int .i64 f.m, .int .i64 f.k] 29)
  have HB1 := Lib.hid (hb0.alloc hb0.size (.cells #[.int .i64 f.kind, .string (ofL f.name), .string (ofL f.value), .int .i64 f.n, .int .i64 f.m, .int .i64 f.k] 96))
  have HI : Hid (∀ b, ifv f b dg = .iface 105 (.agg #[.int .i64 f.kind, .string (ofL f.name), .string (ofL f.value), .int .i64 f.n, .int .i64 f.m, .int .i64 f.k])) := Lib.hid (fun b => by unfold ifv kT kA cf cf1; rw [h1]; rfl)
  rw [h1] at HB1 HI ⊢
  have H1 := Lib.hid h1
  clear h1 hb0 hf
  go_enter Try.func24, Try.ntmps24
  go_wp2_with fail
  go_ret
  exact ⟨_, _, 0, rfl, HI.out 0, fun e => absurd (H1.out.symm.trans e) (by decide), HB1.out⟩
set_option maxHeartbeats 1600000 in
theorem pbuild_5 (f : Filt) (hf : filtB f = true) (h1 : f.kind = 5) (dg : Nat) (W : World) :
    Calls Try.prog 24 #[.agg #[.int .i64 f.kind, .string (ofL f.name), .string (ofL f.value), .int .i64 f.n, .int .i64 f.m, .int .i64 f.k], .pointer (some ⟨dg, 0, none⟩)] W (BuildC f dg W) := by
  have hb0 := (Below.refl W.heap.size W).alloc (Nat.le_refl _) (.cells #[.int .i64 f.kind, .string (ofL f.name), .string (ofL f.value), .int .i64 f.n, .int .i64 f.m, .int .i64 f.k] 29)
  have HB1 := Lib.hid (hb0.alloc hb0.size (.cells #[.int .i64 f.kind, .string (ofL f.name), .string (ofL f.value), .int .i64 f.n, .int .i64 f.m, .int .i64 f.k] 96))
  have HI : Hid (∀ b, ifv f b dg = .iface 106 (.agg #[.int .i64 f.kind, .string (ofL f.name), .string (ofL f.value), .int .i64 f.n, .int .i64 f.m, .int .i64 f.k])) := Lib.hid (fun b => by unfold ifv kT kA cf cf1; rw [h1]; rfl)
  rw [h1] at HB1 HI ⊢
  have H1 := Lib.hid h1
  clear h1 hb0 hf
  go_enter Try.func24, Try.ntmps24
  go_wp2_with fail
  go_ret
  exact ⟨_, _, 0, rfl, HI.out 0, fun e => absurd (H1.out.symm.trans e) (by decide), HB1.out⟩
set_option maxHeartbeats 1600000 in
theorem pbuild_6 (f : Filt) (hf : filtB f = true) (h1 : f.kind = 6) (dg : Nat) (W : World) :
    Calls Try.prog 24 #[.agg #[.int .i64 f.kind, .string (ofL f.name), .string (ofL f.value), .int .i64 f.n, .int .i64 f.m, .int .i64 f.k], .pointer (some ⟨dg, 0, none⟩)] W (BuildC f dg W) := by
  have hb0 := (Below.refl W.heap.size W).alloc (Nat.le_refl _) (.cells #[.int .i64 f.kind, .string (ofL f.name), .string (ofL f.value), .int .i64 f.n, .int .i64 f.m, .int .i64 f.k] 29)
  have HB1 := Lib.hid (hb0.alloc hb0.size (.cells #[.int .i64 f.kind, .string (ofL f.name), .string (ofL f.value), .int .i64 f.n, .int .i64 f.m, .int .i64 f.k] 96))
  have HI : Hid (∀ b, ifv f b dg = .iface 107 (.agg #[.int .i64 f.kind, .string (ofL f.name), .string (ofL f.value), .int .i64 f.n, .int .i64 f.m, .int .i64 f.k])) := Lib.hid (fun b => by unfold ifv kT kA cf cf1; rw [h1]; rfl)
  rw [h1] at HB1 HI ⊢
  have H1 := Lib.hid h1
  clear h1 hb0 hf
  go_enter Try.func24, Try.ntmps24
  go_wp2_with fail
  go_ret
  exact ⟨_, _, 0, rfl, HI.out 0, fun e => absurd (H1.out.symm.trans e) (by decide), HB1.out⟩
set_option maxHeartbeats 1600000 in
theorem pbuild_7 (f : Filt) (hf : filtB f = true) (h1 : f.kind = 7) (dg : Nat) (W : World) :
    Calls Try.prog 24 #[.agg #[.int .i64 f.kind, .string (ofL f.name), .string (ofL f.value), .int .i64 f.n, .int .i64 f.m, .int .i64 f.k], .pointer (some ⟨dg, 0, none⟩)] W (BuildC f dg W) := by
  have hb0 := (Below.refl W.heap.size W).alloc (Nat.le_refl _) (.cells #[.int .i64 f.kind, .string (ofL f.name), .string (ofL f.value), .int .i64 f.n, .int .i64 f.m, .int .i64 f.k] 29)
  have HB1 := Lib.hid (hb0.alloc hb0.size (.cells #[.int .i64 f.kind, .string (ofL f.name), .string (ofL f.value), .int .i64 f.n, .int .i64 f.m, .int .i64 f.k] 96))
  have HI : Hid (∀ b, ifv f b dg = .iface 109 (.agg #[.int .i64 f.kind, .string (ofL f.name), .string (ofL f.value), .int .i64 f.n, .int .i64 f.m, .int .i64 f.k, .pointer (some ⟨dg, 0, none⟩)])) := Lib.hid (fun b => by unfold ifv kT kA cf cf1; rw [h1]; rfl)
  rw [h1] at HB1 HI ⊢
  have H1 := Lib.hid h1
  clear h1 hb0 hf
  go_enter Try.func24, Try.ntmps24
  go_wp2_with fail
  go_ret
  exact ⟨_, _, 0, rfl, HI.out 0, fun e => absurd (H1.out.symm.trans e) (by decide), HB1.out⟩
set_option maxHeartbeats 1600000 in
theorem pbuild_8 (f : Filt) (hf : filtB f = true) (h1 : f.kind = 8) (dg : Nat) (W : World) :
    Calls Try.prog 24 #[.agg #[.int .i64 f.kind, .string (ofL f.name), .string (ofL f.value), .int .i64 f.n, .int .i64 f.m, .int .i64 f.k], .pointer (some ⟨dg, 0, none⟩)] W (BuildC f dg W) := by
  have hb0 := (Below.refl W.heap.size W).alloc (Nat.le_refl _) (.cells #[.int .i64 f.kind, .string (ofL f.name), .string (ofL f.value), .int .i64 f.n, .int .i64 f.m, .int .i64 f.k] 29)
  have HB1 := Lib.hid (hb0.alloc hb0.size (.cells #[.int .i64 f.kind, .string (ofL f.name), .string (ofL f.value), .int .i64 f.n, .int .i64 f.m, .int .i64 f.k] 96))
  have HI : Hid (∀ b, ifv f b dg = .iface 110 (.agg #[.int .i64 f.kind, .string (ofL f.name), .string (ofL f.value), .int .i64 f.n, .int .i64 f.m, .int .i64 f.k])) := Lib.hid (fun b => by unfold ifv kT kA cf cf1; rw [h1]; rfl)
  rw [h1] at HB1 HI ⊢
  have H1 := Lib.hid h1
  clear h1 hb0 hf
  go_enter Try.func24, Try.ntmps24
  go_wp2_with fail
  go_ret
  exact ⟨_, _, 0, rfl, HI.out 0, fun e => absurd (H1.out.symm.trans e) (by decide), HB1.out⟩
theorem pbuild (f : Filt) (hf : filtB f = true) (dg : Nat) (W : World) :
    Calls Try.prog 24 #[.agg #[.int .i64 f.kind, .string (ofL f.name), .string (ofL f.value), .int .i64 f.n, .int .i64 f.m, .int .i64 f.k], .pointer (some ⟨dg, 0, none⟩)] W (BuildC f dg W) := by
  rcases kinds hf with h | h | h | h | h | h | h | h
  · exact pbuild_1 f hf h dg W
  · exact pbuild_2 f hf h dg W
  · exact pbuild_3 f hf h dg W
  · exact pbuild_4 f hf h dg W
  · exact pbuild_5 f hf h dg W
  · exact pbuild_6 f hf h dg W
  · exact pbuild_7 f hf h dg W
  · exact pbuild_8 f hf h dg W
end Go.Proofs.Ytfdpoibmlggfbaa.FiltObj

/- Layer 16 of the program: New. -/
namespace Go.Proofs.Ytfdpoibmlggfbaa.FiltObj
open Go.ChangeShapes Go.WideShapes Go.ChangeAt Go.RowKit Bytes FRow ConfPure ConfMem FieldsPure Flds FilterPure FiltState FiltKeep BucketPure BucketObj Mem Step
set_option maxRecDepth 100000
set_option linter.unusedVariables false
set_option linter.unusedSimpArgs false
theorem infoIf : (Try.prog.info? 66).map (fun i => (i.zero, i.size, i.bytes)) = some (some .nilIface, 1, 16) := by kernel_rfl
/-- a chain that is made: k filters so far -/
structure Mk (w : World) (g : Nat) (rv : Value) (bl : List Nat) (dg : Nat) (fs : List Filt) (sd : Int) (k : Nat) (wr : World) : Prop where
  parts : Parts wr g rv bl dg (fs.take k) ((fs.take k).map bk16) sd 0
  row : wr.ownsRow w.heap.size 66 1 rv k (vals (fs.take k) bl dg)
  bk : ∀ i (hi : i < (fs.take k).length), (fs.take k)[i].kind = 3 → w.heap.size ≤ bl.getD i 0
  below : Below w.heap.size w wr
  lo : w.heap.size ≤ g ∧ w.heap.size ≤ dg
theorem map_at {fs : List Filt} {i : Nat} (h : i < fs.length) : (fs.map bk16).getD i zB = bk16 fs[i] := by simp [List.getD, List.getElem?_eq_getElem h]
theorem Mk.step {w wr W' : World} {g : Nat} {rv : Value} {bl : List Nat} {dg : Nat} {fs : List Filt} {sd : Int} {k : Nat} (h : Mk w g rv bl dg fs sd k wr) (hb : Below wr.heap.size wr W') : Mk w g rv bl dg fs sd k W' := by
  have hs : Step wr W' (fun _ => False) (fun _ => False) := Step.of_below hb _
  exact ⟨h.parts.step (F := fun q => q < wr.heap.size) ⟨h.parts.hd.lt, fun b hb => row_lt h.parts.row hb, by obtain ⟨dk, hd⟩ := h.parts.di; exact hd.lt, fun i hi h3 => (h.parts.bk i hi h3).lt⟩ hs (fun _ _ h => h), RowKeep.row_below h.row hb, h.bk, below_chain h.below hb |> fun q => ⟨q.os, q.tape, q.output, q.size, q.block⟩, h.lo⟩
theorem take_snoc {fs : List Filt} {k : Nat} (hk : k < fs.length) : fs.take (k + 1) = fs.take k ++ [fs[k]] := List.take_succ_eq_append_getElem hk
theorem getD_app {bl : List Nat} {b i : Nat} : (bl ++ [b]).getD i 0 = if i = bl.length then b else bl.getD i 0 := by
  by_cases h : i = bl.length
  · subst h; simp [List.getD]
  · rw [if_neg h]
    rcases Nat.lt_or_ge i bl.length with q | q
    · simp [List.getD, List.getElem?_append_left q]
    · have : bl.length + 1 ≤ i := by omega
      simp [List.getD, List.getElem?_append_right q]
      rw [List.getElem?_eq_none (by simp; omega), List.getElem?_eq_none q]
theorem Mk.push {w W3 W4 : World} {g : Nat} {rv : Value} {bl : List Nat} {dg : Nat} {fs : List Filt} {sd : Int} {k b : Nat} {T : TypeId} {V : Value} {g4 cap4 : Nat} (h : Mk w g rv bl dg fs sd k W3) (hk : k < fs.length) (hv : ifv fs[k] b dg = .iface T V) (hb : fs[k].kind = 3 → w.heap.size ≤ b ∧ Bk W3 b 124 (bk16 fs[k]))
    (hne : fs[k].kind = 3 → ∀ i (hi : i < (fs.take k).length), (fs.take k)[i].kind = 3 → bl.getD i 0 ≠ b)
    (hown : W4.ownsRow w.heap.size 66 1 (.slice (some ⟨g4, 0, none⟩) (k + 1) cap4) (k + 1) (vals (fs.take k) bl dg ++ [.iface T V])) (hg : W3.grownBy W4 rv.ownBlock) :
    Mk w g (.slice (some ⟨g4, 0, none⟩) (k + 1) cap4) (bl ++ [b]) dg fs sd (k + 1) (W4.setCell ⟨g, 0, none⟩ (.slice (some ⟨g4, 0, none⟩) (k + 1) cap4)) := by
  have hkl : (fs.take k).length = k := by rw [List.length_take]; omega
  have hbl : bl.length = k := by rw [h.parts.lb, hkl]
  obtain ⟨dk, hd⟩ := h.parts.di
  have keep : ∀ {q : Nat} {t : TypeId} {cs : Array Value}, Has W3 q t cs → 66 ≠ t → Has W4 q t cs := fun hq ht => hq.grown hg (fun e => row_ne h.row hq ht e.symm)
  have hrow : W4.ownsRow w.heap.size 66 1 (.slice (some ⟨g4, 0, none⟩) (k + 1) cap4) (k + 1) (vals (fs.take (k + 1)) (bl ++ [b]) dg) := by
    rw [take_snoc hk, vals_snoc _ _ _ _ _ (by rw [hbl, hkl]), hv]
    exact hown
  have hs : Step W4 (W4.setCell ⟨g, 0, none⟩ (.slice (some ⟨g4, 0, none⟩) (k + 1) cap4)) (fun q => q = g) (fun q => q = g) := Step.set_ (F := fun q => q = g) W4 rfl 0 _
  have hd4 := keep h.parts.hd (by decide)
  have hrow5 := hs.row hrow (fun q hq e => row_ne hrow hd4 (by decide) (by rw [hq, e]))
  have hk1 : (fs.take (k + 1)).length = k + 1 := by rw [List.length_take]; omega
  have hbk : ∀ i (hi : i < (fs.take (k + 1)).length), (fs.take (k + 1))[i].kind = 3 → Bk W4 ((bl ++ [b]).getD i 0) 124 (((fs.take (k + 1)).map bk16).getD i zB) ∧ w.heap.size ≤ (bl ++ [b]).getD i 0 := by
    intro i hi h3
    rw [map_at hi, getD_app]
    rw [List.getElem_take] at h3 ⊢
    by_cases e : i = k
    · subst e
      rw [if_pos hbl.symm]
      exact ⟨keep (hb h3).2 (by decide), (hb h3).1⟩
    · rw [if_neg (by omega)]
      have hi2 : i < (fs.take k).length := by omega
      have h4 := h.parts.bk i hi2 (by rw [List.getElem_take]; exact h3)
      rw [map_at hi2, List.getElem_take] at h4
      exact ⟨keep h4 (by decide), h.bk i hi2 (by rw [List.getElem_take]; exact h3)⟩
  refine ⟨⟨hd4.set_ 0 _, by rw [hk1]; exact RowKeep.row_mono hrow5 (Nat.zero_le _), by rw [List.length_append, hk1, hbl]; rfl, by rw [List.length_map], ⟨dk, hs.has (keep hd (by decide)) (Has.ne_ (keep hd (by decide)) hd4 (by decide))⟩, fun i hi h3 => hs.has (hbk i hi h3).1 (Has.ne_ (hbk i hi h3).1 hd4 (by decide)), fun i j hj hij h3 h3' => ?_⟩,
    hrow5, fun i hi h3 => (hbk i hi h3).2, ?_, h.lo⟩
  · rw [List.getElem_take] at h3 h3'
    rw [getD_app, getD_app, if_neg (by omega)]
    by_cases e : j = k
    · subst e
      rw [if_pos hbl.symm]
      exact hne h3' i (by omega) (by rw [List.getElem_take]; exact h3)
    · rw [if_neg (by omega)]
      exact h.parts.ap i j (by omega) hij (by rw [List.getElem_take]; exact h3) (by rw [List.getElem_take]; exact h3')
  · exact (h.below.grown hg h.below.size (fun j e => (h.row.lt j e).1)).setCell (p := ⟨g, 0, none⟩) h.lo.1 _
theorem Mk.ch {w W : World} {g : Nat} {rv : Value} {bl : List Nat} {dg : Nat} {fs : List Filt} {sd : Int} (h : Mk w g rv bl dg fs sd fs.length W) (hr : ∀ f ∈ fs, filtB f = true) : NewC w W (.returned (.pointer (some ⟨g, 0, none⟩))) (start16 fs sd) := by
  have e : fs.take fs.length = fs := List.take_length
  have hp := h.parts
  have hb := h.bk
  have hrw := h.row
  rw [e] at hp hrw
  obtain ⟨dk, hd⟩ := hp.di
  refine ⟨g, fun q => w.heap.size ≤ q ∧ q < W.heap.size, rfl, ⟨⟨h.lo.1, hp.hd.lt⟩, fun k hk => hk.2, good_start hr sd, rv, bl, dg, hp, ⟨⟨h.lo.1, hp.hd.lt⟩, fun b hb => ⟨(hrw.lt b hb).1, row_lt hrw hb⟩, ⟨h.lo.2, hd.lt⟩, fun i hi h3 => ⟨hb i (by rw [e]; exact hi) (by rw [List.getElem_take]; exact h3), (hp.bk i hi h3).lt⟩⟩⟩, fun k hk => hk.1⟩
set_option maxHeartbeats 6400000 in
theorem pnew16 (fs : List Filt) (hr : ∀ f ∈ fs, filtB f = true) (hl : fs.length ≤ 4194304) (seed : Int) (hs : inI seed) (vl : Value) (w : World) (h : Filts w vl fs) :
    Calls Try.prog 11 #[vl, .int .i64 seed] w fun e w' => NewC w w' e (start16 fs (seed16 seed)) ∧ Below w.heap.size w w' := by
  obtain ⟨i0, hi, hz0, hz1, hz2⟩ := info_parts infoIf
  obtain ⟨pl, cl, rfl, -, hcl⟩ := h.parts
  have hb0 := (Below.refl w.heap.size w).alloc (Nat.le_refl _) (.cells #[.slice none 0 0, .int .i64 0] 62)
  have hd0 := (Has.new w 62 #[.slice none 0 0, .int .i64 0]).alloc (.cells #[.int .u64 (seed16 seed), .int .i64 0] 94)
  have hi0 := Has.new (w.alloc (.cells #[.slice none 0 0, .int .i64 0] 62)) 94 #[.int .u64 (seed16 seed), .int .i64 0]
  rw [World.size_alloc] at hi0
  have HM0 : Hid (Mk w w.heap.size (.slice none 0 0) [] (w.heap.size + 1) fs (seed16 seed) 0 ((w.alloc (.cells #[.slice none 0 0, .int .i64 0] 62)).alloc (.cells #[.int .u64 (seed16 seed), .int .i64 0] 94))) := Lib.hid
    ⟨⟨hd0, World.ownsRow_nil _ _ _ _, rfl, rfl, ⟨0, hi0⟩, fun i hi => by simp at hi, fun i j hj => by simp at hj⟩, World.ownsRow_nil _ _ _ _, fun i hi => by simp at hi, hb0.alloc hb0.size _, Nat.le_refl _, by omega⟩
  have HCL := Lib.hid hcl
  have HR := Lib.hid hr
  unfold seed16 at *
  clear h hcl hb0 hd0 hi0 hr
  go_enter Try.func11, Try.ntmps11
  go_wp2_with (go_at_call 23; refine (DiceObj.new_any seed _).mono ?_; rintro e w' ⟨rfl, rfl⟩)
  go_loopw [15] (fun i wr => ∃ k : Nat, k ≤ fs.length ∧ i = .int .i64 k ∧ Hid (∃ rv bl, Mk w w.heap.size rv bl (w.heap.size + 1) fs (IntKind.u64.wrap seed) k wr)) (fun i _ => fs.length - (intOf i).toNat)
  case atStart => exact ⟨0, Nat.zero_le _, rfl, Lib.hid ⟨_, _, HM0.out⟩⟩
  case round =>
    obtain ⟨k, hk, rfl, HM⟩ := hrel
    clear HM0
    obtain ⟨rv, bl, hM⟩ := HM.out
    clear HM
    by_cases hlt : k < fs.length
    · have hki : (k : Int) < (fs.length : Int) := by omega
      obtain ⟨g0, o0, rfl, hg0, hcell⟩ := HCL.out (by omega)
      obtain ⟨d0, d1, d2, d3, d4, d5⟩ := hcell k hlt
      clear hcell
      replace d0 := (hM.below.cell (p := ⟨g0, o0 + k * 6, none⟩) hg0).trans d0
      replace d1 := (hM.below.cell (p := ⟨g0, o0 + k * 6 + 1, none⟩) hg0).trans d1
      replace d2 := (hM.below.cell (p := ⟨g0, o0 + k * 6 + 2, none⟩) hg0).trans d2
      replace d3 := (hM.below.cell (p := ⟨g0, o0 + k * 6 + 3, none⟩) hg0).trans d3
      replace d4 := (hM.below.cell (p := ⟨g0, o0 + k * 6 + 4, none⟩) hg0).trans d4
      replace d5 := (hM.below.cell (p := ⟨g0, o0 + k * 6 + 5, none⟩) hg0).trans d5
      obtain ⟨pr, cr, rfl, -⟩ := RowKeep.row_form hM.row
      have hMa := hM.step ((Below.refl wr.heap.size wr).alloc (Nat.le_refl _) (.cells #[.int .i64 fs[k].kind, .string (ofL fs[k].name), .string (ofL fs[k].value), .int .i64 fs[k].n, .int .i64 fs[k].m, .int .i64 fs[k].k] 29)).drew
      have hXa := (Has.new wr 29 #[.int .i64 fs[k].kind, .string (ofL fs[k].name), .string (ofL fs[k].value), .int .i64 fs[k].n, .int .i64 fs[k].m, .int .i64 fs[k].k]).drew
      have HBd := Lib.hid (pbuild fs[k] (HR.out _ (List.getElem_mem hlt)) (w.heap.size + 1) (wr.alloc (.cells #[.int .i64 fs[k].kind, .string (ofL fs[k].name), .string (ofL fs[k].value), .int .i64 fs[k].n, .int .i64 fs[k].m, .int .i64 fs[k].k] 29)).drew)
      have HM := Lib.hid hMa
      have x0 : (wr.alloc (.cells #[.int .i64 fs[k].kind, .string (ofL fs[k].name), .string (ofL fs[k].value), .int .i64 fs[k].n, .int .i64 fs[k].m, .int .i64 fs[k].k] 29)).drew.cell? ⟨wr.heap.size, 0, none⟩ = some (.int .i64 fs[k].kind) := hXa.cell 0
      have x1 : (wr.alloc (.cells #[.int .i64 fs[k].kind, .string (ofL fs[k].name), .string (ofL fs[k].value), .int .i64 fs[k].n, .int .i64 fs[k].m, .int .i64 fs[k].k] 29)).drew.cell? ⟨wr.heap.size, 1, none⟩ = some (.string (ofL fs[k].name)) := hXa.cell 1
      have x2 : (wr.alloc (.cells #[.int .i64 fs[k].kind, .string (ofL fs[k].name), .string (ofL fs[k].value), .int .i64 fs[k].n, .int .i64 fs[k].m, .int .i64 fs[k].k] 29)).drew.cell? ⟨wr.heap.size, 2, none⟩ = some (.string (ofL fs[k].value)) := hXa.cell 2
      have x3 : (wr.alloc (.cells #[.int .i64 fs[k].kind, .string (ofL fs[k].name), .string (ofL fs[k].value), .int .i64 fs[k].n, .int .i64 fs[k].m, .int .i64 fs[k].k] 29)).drew.cell? ⟨wr.heap.size, 3, none⟩ = some (.int .i64 fs[k].n) := hXa.cell 3
      have x4 : (wr.alloc (.cells #[.int .i64 fs[k].kind, .string (ofL fs[k].name), .string (ofL fs[k].value), .int .i64 fs[k].n, .int .i64 fs[k].m, .int .i64 fs[k].k] 29)).drew.cell? ⟨wr.heap.size, 4, none⟩ = some (.int .i64 fs[k].m) := hXa.cell 4
      have x5 : (wr.alloc (.cells #[.int .i64 fs[k].kind, .string (ofL fs[k].name), .string (ofL fs[k].value), .int .i64 fs[k].n, .int .i64 fs[k].m, .int .i64 fs[k].k] 29)).drew.cell? ⟨wr.heap.size, 5, none⟩ = some (.int .i64 fs[k].k) := hXa.cell 5
      have y0 : (wr.alloc (.cells #[.int .i64 fs[k].kind, .string (ofL fs[k].name), .string (ofL fs[k].value), .int .i64 fs[k].n, .int .i64 fs[k].m, .int .i64 fs[k].k] 29)).drew.cell? ⟨w.heap.size, 0, none⟩ = some (.slice pr k cr) := HM.out.parts.hd.cell 0
      have H0 := Lib.hid hM
      clear hM hMa hXa
      go_wp2_with fail
      clear d0 d1 d2 d3 d4 d5
      go_region_law (first
        | (refine step_append_lies _ (by rfl) (.tmp 23) (.tmp 27) 60 (by rfl) w.heap.size 66 i0 .nilIface 1 16 Try.underlying60 hi hz0 hz1 hz2 (by rfl) (by decide) (.slice pr k cr) k (vals (fs.take k) bl (w.heap.size + 1)) (by rfl) HR3 ⟨w2.heap.size, 0, none⟩ 1 1 [.iface T V] (by rfl) (by rfl) HN (by simp [Value.oneCell']) (by omega) (by unfold maxLen; omega) (by omega) hsz3 (w2.heap.size + 1) (by simp) ?_; intro g4 cap4 w4 hown4 hg4 hat4 hlt4; have hd4 := HM3.out.parts.hd.grown hg4 (fun e => row_ne HM3.out.row HM3.out.parts.hd (by decide) e.symm); have c4 : w4.cell? ⟨w.heap.size, 0, none⟩ = some (.slice pr k cr) := hd4.cell 0; have z4 := hd4.free 0)
        | (go_simp; go_at_call 24; refine HBd.out.mono ?_; rintro e w2 ⟨T, V, b, rfl, hv, hb3, hb2⟩; have HM2 := Lib.hid (HM.out.step hb2); have k2 : w2.cell? ⟨w.heap.size, 0, none⟩ = some (.slice pr k cr) := HM2.out.parts.hd.cell 0; have hb4 := (Below.refl w2.heap.size w2).alloc (Nat.le_refl _) (.cells #[.iface T V] 66); have HM3 := Lib.hid (HM2.out.step hb4); have k3 : (w2.alloc (.cells #[.iface T V] 66)).cell? ⟨w.heap.size, 0, none⟩ = some (.slice pr k cr) := HM3.out.parts.hd.cell 0; have HR3 := HM3.out.row; have HN := World.news_of_block (heap_alloc_new w2 (.cells #[.iface T V] 66)); have hsz3 := HM3.out.below.size))
      all_goals
        have HP := Lib.hid (HM3.out.push (b := b) hlt hv (fun e => ⟨Nat.le_trans HM.out.below.size (hb3 e).1, (hb3 e).2.alloc _⟩) (fun e i hi h3 q => by have h4 := (HM.out.parts.bk i hi h3).lt; have h5 := (hb3 e).1; omega) hown4 hg4)
        clear hd4 c4 z4 hown4 hg4 hat4 hlt4 HM3 HM2 HR3 HN hsz3 k2 k3 hb4 hb3 hb2 hv HM HBd H0 x0 x1 x2 x3 x4 x5 y0
        generalize (w4.setCell _ _) = w5 at *
        go_wp2_with fail
        go_roundw
        case rel => exact ⟨k + 1, by omega, by go_num, Lib.hid ⟨_, _, HP.out⟩⟩
        case measure => simp [intOf]; omega
    · obtain rfl : k = fs.length := by omega
      have HE := Lib.hid (And.intro (hM.ch HR.out) hM.below)
      clear hM
      go_wp2_with fail
      go_ret
      exact HE.out
end Go.Proofs.Ytfdpoibmlggfbaa.FiltObj

/- Layer 16 of the program: copied. -/
namespace Go.Proofs.Ytfdpoibmlggfbaa.FiltObj
open Go.ChangeShapes Go.WideShapes Go.ChangeAt Go.RowKit Bytes FRow ConfPure ConfMem FieldsPure Flds FilterPure FiltState FiltKeep Mem Step
set_option maxRecDepth 20000
set_option linter.unusedVariables false
theorem run_append_empty {w : World} (ty base : Nat) (v : Value) (n : Nat) (xs : List Value) (hown : w.ownsRow base 54 2 v n xs) (p : Option Addr) (cap : Nat) :
    (Builtin.append_ #[32, 32] ty #[v, .slice p 0 cap]).run Try.prog w = .ok v w := by
  obtain ⟨i0, hi, hz0, hz1, hz2⟩ := info_parts infoF
  have ht := Try.underlying32
  cases p with
  | none =>
    rcases hown.2 with ⟨rfl, rfl⟩ | ⟨g, cap, cur, rfl, _, _, hnc, _⟩
    · simp [Builtin.append_, run_underlying ht, sizeOf, typeInfo, hi, Builtin.lenOf, Builtin.firstCells]
    · simp [Builtin.append_, run_underlying ht, sizeOf, typeInfo, hi, Builtin.lenOf, Builtin.firstCells, hnc, storeCells]
  | some a =>
    rcases hown.2 with ⟨rfl, rfl⟩ | ⟨g, cap, cur, rfl, _, _, hnc, _⟩
    · simp [Builtin.append_, run_underlying ht, sizeOf, typeInfo, hi, Builtin.lenOf, Builtin.firstCells, loadCells, loadCellsFrom]
    · simp [Builtin.append_, run_underlying ht, sizeOf, typeInfo, hi, Builtin.lenOf, Builtin.firstCells, hnc, storeCells, loadCells, loadCellsFrom]
theorem wpList_append_any {w : World} {ops : Array Oper} {rest : List Oper} {o : Oper} {a : Act} {Q : Exit → Act → World → Prop} (hgd : o.guard = none) (s x : Operand)
    (ho : o.op = .call { callee := .builtin .append, args := #[s, x], argTypes := #[32, 32] }) (base : Nat) (v : Value) (n : Nat) (xs : List Value) (hs : a.eval s = v) (hown : w.ownsRow base 54 2 v n xs)
    (y : Value) (G : List HField) (hx : a.eval x = y) (hF : FL w y G) (h63 : n + G.length ≤ 4398046511104) (hbase : base ≤ w.heap.size)
    (h : ∀ v' w', w'.ownsRow base 54 2 v' (n + G.length) (xs ++ encFs G) → w.grownBy w' v.ownBlock → wpList Try.prog ops Q rest (a.put o.dst v') w') :
    wpList Try.prog ops Q (o :: rest) a w := by
  by_cases h0 : 0 < G.length
  · refine FRow.wpList_append_list hgd s x ho base v n xs hs hown y G hx hF ?_ h63 hbase h
    obtain ⟨p, cap, rfl, _, hc⟩ := hF
    obtain ⟨g, o', rfl, _⟩ := hc h0
    exact .inr ⟨_, cap, rfl⟩
  · have hG : G = [] := List.eq_nil_of_length_eq_zero (by omega)
    subst hG
    obtain ⟨p, cap, rfl, _, _⟩ := hF
    refine wpList_plain hgd fun K hK => ?_
    have hrun := run_append_empty (w := w) o.type base v n xs hown p cap
    unfold Oper.wp execOp
    simp only [List.length_nil] at hx
    simp only [ho, resolve, invoke, builtin, Sem.run_bind, Sem.run_pure, Result.andThen_ok, List.map_toArray, List.map_cons, List.map_nil, hs, hx, hrun]
    exact hK _ _ (h v w (by simpa [encFs] using hown) (World.grownBy.refl w _))
theorem pcopied (v : Value) (G : List HField) (hle : G.length ≤ 4398046511104) (w : World) (hF : FL w v G) :
    Calls Try.prog 26 #[v] w fun e w' => ∃ v', e = .returned v' ∧ Lst w' w.heap.size v' G ∧ Below w.heap.size w w' := by
  have hown : w.ownsRow w.heap.size 54 2 (.slice none 0 0) 0 [] := World.ownsRow_nil _ _ _ _
  go_enter Try.func26, Try.ntmps26
  go_wp2_with (at_builtin; refine wpList_append_any rfl _ _ rfl w.heap.size _ 0 [] rfl hown _ G rfl hF (by omega) (Nat.le_refl _) ?_; intro v4 w4 hown4 hg4; rw [Nat.zero_add, List.nil_append] at hown4)
  go_ret
  exact ⟨_, rfl, hown4, (Below.refl _ w).grown hg4 (Nat.le_refl _) (fun j e => by cases e)⟩
end Go.Proofs.Ytfdpoibmlggfbaa.FiltObj

/- Layer 16 of the program: Request. -/
namespace Go.Proofs.Ytfdpoibmlggfbaa.FiltObj
open Go.ChangeShapes Go.WideShapes Go.ChangeAt Go.RowKit Bytes FRow ConfPure ConfMem FieldsPure Flds FilterPure FiltState FiltKeep BucketPure BucketObj Mem Step
set_option maxRecDepth 100000
set_option linter.unusedVariables false
set_option linter.unusedSimpArgs false
/-- a part of a run: what is still to come, and the buckets that were passed -/
def Run16 (now : Int) (method : L) (size : Int) (fs : List Filt) (bs : List B) (d : Int) (G : List HField) (k : Nat) (bs' : List B) (d' : Int) (G' : List HField) : Prop :=
  bs'.length = fs.length ∧ run16 dv16 dn16 now method size fs bs d G = ((run16 dv16 dn16 now method size (fs.drop k) (bs'.drop k) d' G').1, bs'.take k ++ (run16 dv16 dn16 now method size (fs.drop k) (bs'.drop k) d' G').2.1, (run16 dv16 dn16 now method size (fs.drop k) (bs'.drop k) d' G').2.2)
theorem Run16.start (now : Int) (method : L) (size : Int) (fs : List Filt) (bs : List B) (d : Int) (G : List HField) (h : bs.length = fs.length) : Run16 now method size fs bs d G 0 bs d G := ⟨h, rfl⟩
theorem drop_cons {α : Type} {l : List α} {k : Nat} (hk : k < l.length) : l.drop k = l[k] :: l.drop (k + 1) := (List.drop_eq_getElem_cons hk)
theorem set_take {α : Type} {l : List α} {k : Nat} (hk : k < l.length) (x : α) : (l.set k x).take k = l.take k ∧ (l.set k x).drop (k + 1) = l.drop (k + 1) ∧ (l.set k x).take (k + 1) = l.take k ++ [x] := by
  refine ⟨?_, ?_, ?_⟩
  · rw [List.take_set_of_le (Nat.le_refl _)]
  · rw [List.drop_set_of_lt (Nat.lt_succ_self _)]
  · rw [List.take_succ_eq_append_getElem (by simpa using hk), List.take_set_of_le (Nat.le_refl _), List.getElem_set_self]
section
variable {now : Int} {method : L} {size : Int} {fs : List Filt} {bs bs' : List B} {d d' : Int} {G G' : List HField} {k : Nat}
theorem Run16.go (h : Run16 now method size fs bs d G k bs' d' G') (hk : k < fs.length) (hs : (one16 dv16 fs[k] (bs'.getD k zB) d' now method G' size).stop = false) :
    Run16 now method size fs bs d G (k + 1) (bs'.set k (bkt16 fs[k] (bs'.getD k zB) now)) (dce16 dn16 fs[k] d') (fld16 fs[k] G') := by
  have hk2 : k < bs'.length := by rw [h.1]; exact hk
  have e : bs'.getD k zB = bs'[k] := by simp [List.getD, List.getElem?_eq_getElem hk2]
  obtain ⟨s1, s2, s3⟩ := set_take hk2 (bkt16 fs[k] (bs'.getD k zB) now)
  refine ⟨by rw [List.length_set]; exact h.1, ?_⟩
  rw [h.2, drop_cons hk, drop_cons hk2, run_go (by rw [← e]; exact hs), s2, s3, e, List.append_assoc]
  rfl
theorem Run16.stop (h : Run16 now method size fs bs d G k bs' d' G') (hk : k < fs.length) (hs : (one16 dv16 fs[k] (bs'.getD k zB) d' now method G' size).stop = true) :
    run16 dv16 dn16 now method size fs bs d G = (one16 dv16 fs[k] (bs'.getD k zB) d' now method G' size, bs'.set k (bkt16 fs[k] (bs'.getD k zB) now), dce16 dn16 fs[k] d') := by
  have hk2 : k < bs'.length := by rw [h.1]; exact hk
  have e : bs'.getD k zB = bs'[k] := by simp [List.getD, List.getElem?_eq_getElem hk2]
  rw [h.2, drop_cons hk, drop_cons hk2, run_stop (by rw [← e]; exact hs), e]
  have : bs'.set k (bkt16 fs[k] bs'[k] now) = bs'.take k ++ bkt16 fs[k] bs'[k] now :: bs'.drop (k + 1) := by rw [List.set_eq_take_append_cons_drop, if_pos hk2]
  rw [this]
theorem Run16.last (h : Run16 now method size fs bs d G fs.length bs' d' G') : run16 dv16 dn16 now method size fs bs d G = (⟨false, 0, [], [], G'⟩, bs', d') := by
  have h1 := h.1
  rw [h.2, List.drop_length, ← h1, List.drop_length, List.take_length]
  show (_, bs' ++ [], d') = _
  rw [List.append_nil]
  rfl
end
/-- amid a request: k filters passed -/
structure Mid (w : World) (F : Nat → Prop) (g : Nat) (rv : Value) (bl : List Nat) (dg rb vb : Nat) (fs : List Filt) (bs : List B) (d now : Int) (mt : ByteArray) (size : Int) (G : List HField) (k : Nat) (bs' : List B) (d' : Int) (G' : List HField) (fv : Value) (wr : World) : Prop where
  run : Run16 now (toL mt) size fs bs d G k bs' d' G'
  parts : Parts wr g rv bl dg fs bs' d' now
  req : Has wr rb 84 (reqA now mt fv size)
  list : Lst wr w.heap.size fv G'
  few : FewM G'
  len : G'.length ≤ G.length + k
  oks : ∀ b ∈ bs', Ok b ∧ b.told ≤ now
  step : Step w wr F F
  vb : Has wr vb 38 zV16
theorem Parts.told {w : World} {g : Nat} {rv : Value} {bl : List Nat} {dg : Nat} {fs : List Filt} {bs : List B} {d seen : Int} (h : Parts w g rv bl dg fs bs d seen) (now : Int) : Parts (w.setCell ⟨g, 1, none⟩ (.int .i64 now)) g rv bl dg fs bs d now := by
  have hs : Step w (w.setCell ⟨g, 1, none⟩ (.int .i64 now)) (fun k => k = g) (fun k => k = g) := Step.set_ (F := fun k => k = g) w rfl 1 _
  obtain ⟨dk, hd⟩ := h.di
  exact ⟨h.hd.set_ 1 _, hs.row h.row (fun b hb e => row_ne h.row h.hd (by decide) (by rw [hb, e])), h.lb, h.ls, ⟨dk, hs.has hd (Has.ne_ hd h.hd (by decide))⟩, fun i hi hk => hs.has (h.bk i hi hk) (Has.ne_ (h.bk i hi hk) h.hd (by decide)), h.ap⟩
theorem fl_set {w : World} {v : Value} {G : List HField} {g : Nat} {t : TypeId} {p : Option Addr} {n c : Nat} {x y : Int} (h : FL w v G) (hg : Has w g t #[.slice p n c, .int .i64 x]) : FL (w.setCell ⟨g, 1, none⟩ (.int .i64 y)) v G := by
  obtain ⟨p2, cap, hv, hn, hc⟩ := h
  refine ⟨p2, cap, hv, hn, fun h0 => ?_⟩
  obtain ⟨b, o, hp, hlt, hcell⟩ := hc h0
  have hne : b ≠ g := by
    rintro rfl
    have h1 := (hcell 0 h0).1
    rw [hg.cell] at h1
    rcases Nat.lt_or_ge (o + 0 * 2) 2 with q | q
    · have : o + 0 * 2 = 0 ∨ o + 0 * 2 = 1 := by omega
      rcases this with e | e
      · rw [e] at h1; cases h1
      · rw [e] at h1; cases h1
    · rw [Array.getElem?_eq_none (by simpa using q)] at h1; cases h1
  refine ⟨b, o, hp, by simpa [World.setCell] using hlt, fun j hj => ?_⟩
  have hb : ∀ i, (w.setCell ⟨g, 1, none⟩ (.int .i64 y)).cell? ⟨b, i, none⟩ = w.cell? ⟨b, i, none⟩ := fun i => World.cell?_of_block (w := w) (Below.heap_setCell w _ _ b hne)
  rw [hb, hb]
  exact hcell j hj
theorem getD_set {l : List B} {k i : Nat} (x : B) (hk : k < l.length) : (l.set k x).getD i zB = if i = k then x else l.getD i zB := by
  by_cases h : i = k
  · subst h
    rw [if_pos rfl]
    simp [List.getD, List.getElem?_set_self hk]
  · rw [if_neg h]
    simp [List.getD, List.getElem?_set_ne (Ne.symm h)]
/-- the parts behind a filter -/
theorem Parts.fwd {w w' : World} {g : Nat} {rv : Value} {bl : List Nat} {dg : Nat} {fs : List Filt} {bs : List B} {d seen : Int} {rb : Nat} {cs : Array Value} {k : Nat} {x : B} {d2 : Int} (h : Parts w g rv bl dg fs bs d seen) (hk : k < fs.length) (hr : Has w rb 84 cs)
    (hs : Step w w' (Tn fs[k] rb (bl.getD k 0) dg) (Tn fs[k] rb (bl.getD k 0) dg)) (h3 : fs[k].kind = 3 → Bk w' (bl.getD k 0) 124 x) (h7 : fs[k].kind = 7 → ∃ dk, Has w' dg 94 #[.int .u64 d2, .int .i64 dk]) (hd2 : fs[k].kind ≠ 7 → d2 = d) :
    Parts w' g rv bl dg fs (bs.set k x) d2 seen := by
  obtain ⟨dk, hd⟩ := h.di
  refine ⟨hs.has h.hd ?_, hs.row h.row (fun b hb => ?_), h.lb, by rw [List.length_set]; exact h.ls, ?_, fun i hi hk3 => ?_, h.ap⟩
  · rintro (e | ⟨e3, e⟩ | ⟨_, e⟩)
    · exact Has.ne_ h.hd hr (by decide) e
    · exact Has.ne_ h.hd (h.bk k hk e3) (by decide) e
    · exact Has.ne_ h.hd hd (by decide) e
  · rintro (e | ⟨e3, e⟩ | ⟨_, e⟩)
    · exact row_ne h.row hr (by decide) (by rw [hb, e])
    · exact row_ne h.row (h.bk k hk e3) (by decide) (by rw [hb, e])
    · exact row_ne h.row hd (by decide) (by rw [hb, e])
  · by_cases e7 : fs[k].kind = 7
    · exact h7 e7
    · rw [hd2 e7]
      refine ⟨dk, hs.has hd ?_⟩
      rintro (e | ⟨e3, e⟩ | ⟨e7', e⟩)
      · exact Has.ne_ hd hr (by decide) e
      · exact Has.ne_ hd (h.bk k hk e3) (by decide) e
      · exact e7 e7'
  · rw [getD_set x (by rw [h.ls]; exact hk)]
    by_cases e : i = k
    · subst e
      rw [if_pos rfl]
      exact h3 hk3
    · rw [if_neg e]
      refine hs.has (h.bk i hi hk3) ?_
      rintro (q | ⟨e3, q⟩ | ⟨_, q⟩)
      · exact Has.ne_ (h.bk i hi hk3) hr (by decide) q
      · rcases Nat.lt_or_gt_of_ne e with o | o
        · exact h.ap i k hk o hk3 e3 q
        · exact h.ap k i hi o e3 hk3 q.symm
      · exact Has.ne_ (h.bk i hi hk3) hd (by decide) q
theorem mem_set {l : List B} {k : Nat} {x : B} {P : B → Prop} (h : ∀ b ∈ l, P b) (hx : P x) : ∀ b ∈ l.set k x, P b := fun b hb => by
  rcases List.mem_or_eq_of_mem_set hb with q | q
  · exact h b q
  · rw [q]; exact hx
theorem bkt_ok {f : Filt} {b : B} {now : Int} (h : Ok b ∧ b.told ≤ now) (h2 : now ≤ 1099511627776) : Ok (bkt16 f b now) ∧ (bkt16 f b now).told ≤ now := by
  unfold bkt16
  split
  · refine ⟨less_ok (pass_ok h.1 h.2 h2) 1, ?_⟩
    unfold less
    split <;> exact Int.le_refl _
  · exact h
theorem fld_few {f : Filt} (hf : filtB f = true) {G : List HField} (h : FewM G) : FewM (fld16 f G) := by
  unfold fld16
  split
  · exact few_set h (right_len hf).1 (right_len hf).2
  · split
    · exact few_remove h _
    · exact h
theorem fld_len (f : Filt) (G : List HField) : (fld16 f G).length ≤ G.length + 1 := by
  unfold fld16
  split
  · exact len_set _ _ _
  · split
    · have := len_remove G f.name; omega
    · omega
theorem getD_mem {l : List B} {k : Nat} (h : k < l.length) : l.getD k zB ∈ l := by
  have e : l.getD k zB = l[k] := by simp [List.getD, List.getElem?_eq_getElem h]
  rw [e]
  exact List.getElem_mem h
section
variable {w wr w4 : World} {F : Nat → Prop} {g : Nat} {rv : Value} {bl : List Nat} {dg rb : Nat} {fs : List Filt} {bs : List B} {d now : Int} {mt : ByteArray} {size : Int} {G : List HField} {k : Nat} {bs' : List B} {d' : Int} {G' : List HField} {fv fv2 : Value}
theorem Mid.turn (h : Mid w F g rv bl dg rb w.heap.size fs bs d now mt size G k bs' d' G' fv wr) (hi : InF F g rv bl dg fs) (hk : k < fs.length)
    (hst : Step wr w4 (Tn fs[k] rb (bl.getD k 0) dg) (Tn fs[k] rb (bl.getD k 0) dg)) (h3 : fs[k].kind = 3 → Bk w4 (bl.getD k 0) 124 (bkt16 fs[k] (bs'.getD k zB) now)) (h7 : fs[k].kind = 7 → ∃ dk, Has w4 dg 94 #[.int .u64 (dce16 dn16 fs[k] d'), .int .i64 dk]) (hrb : w.heap.size ≤ rb) :
    Parts w4 g rv bl dg fs (bs'.set k (bkt16 fs[k] (bs'.getD k zB) now)) (dce16 dn16 fs[k] d') now ∧ Step w w4 F F ∧ Has w4 w.heap.size 38 zV16 := by
  obtain ⟨dk, hd⟩ := h.parts.di
  refine ⟨h.parts.fwd hk h.req hst h3 h7 (fun e => by unfold dce16; rw [if_neg e]), ?_, hst.has h.vb ?_⟩
  · refine ⟨hst.os.trans h.step.os, hst.tape.trans h.step.tape, hst.output.trans h.step.output, Nat.le_trans h.step.size hst.size, fun q hq hn => ?_, fun _ h => .inl h⟩
    refine (hst.block q (Nat.lt_of_lt_of_le hq h.step.size) ?_).trans (h.step.block q hq hn)
    rintro (e | ⟨e3, e⟩ | ⟨_, e⟩)
    · omega
    · exact hn (by rw [e]; exact hi.bk k hk e3)
    · exact hn (by rw [e]; exact hi.di)
  · rintro (e | ⟨e3, e⟩ | ⟨_, e⟩)
    · exact Has.ne_ h.vb h.req (by decide) e
    · exact Has.ne_ h.vb (h.parts.bk k hk e3) (by decide) e
    · exact Has.ne_ h.vb hd (by decide) e
theorem Mid.next (h : Mid w F g rv bl dg rb w.heap.size fs bs d now mt size G k bs' d' G' fv wr) (hi : InF F g rv bl dg fs) (hk : k < fs.length) (hf : filtB fs[k] = true) (h2 : now ≤ 1099511627776) (hs : (one16 dv16 fs[k] (bs'.getD k zB) d' now (toL mt) G' size).stop = false)
    (hst : Step wr w4 (Tn fs[k] rb (bl.getD k 0) dg) (Tn fs[k] rb (bl.getD k 0) dg)) (h3 : fs[k].kind = 3 → Bk w4 (bl.getD k 0) 124 (bkt16 fs[k] (bs'.getD k zB) now)) (h7 : fs[k].kind = 7 → ∃ dk, Has w4 dg 94 #[.int .u64 (dce16 dn16 fs[k] d'), .int .i64 dk]) (hrb : w.heap.size ≤ rb)
    (hR : Has w4 rb 84 (reqA now mt fv2 size)) (hL : Lst w4 w.heap.size fv2 (fld16 fs[k] G')) (o : Obj) :
    Mid w F g rv bl dg rb w.heap.size fs bs d now mt size G (k + 1) (bs'.set k (bkt16 fs[k] (bs'.getD k zB) now)) (dce16 dn16 fs[k] d') (fld16 fs[k] G') fv2 (w4.alloc o) := by
  obtain ⟨p1, p2, p3⟩ := h.turn hi hk hst h3 h7 hrb
  have hb := (Below.refl w4.heap.size w4).alloc (Nat.le_refl _) o
  exact ⟨h.run.go hk hs, p1.step hi (Step.of_below hb (fun _ => False)) (fun _ _ h => h), hR.alloc o, RowKeep.row_below hL hb, fld_few hf h.few, by have := fld_len fs[k] G'; have := h.len; omega, mem_set h.oks (bkt_ok (h.oks _ (getD_mem (by rw [h.parts.ls]; exact hk))) h2), p2.trans (Step.alloc w4 o F), p3.alloc o⟩
end
theorem req_end {w W : World} {F : Nat → Prop} {g : Nat} {s : Cn} {now : Int} {mt : ByteArray} {size : Int} {G : List HField} {rv : Value} {bl : List Nat} {dg : Nat} {V : Verd} {bs' : List B} {d' : Int} {fl pl : Value} {old : Array Value} (h : Ch w F g s) (hr : ¬ refused s now) (hrun : run16 dv16 dn16 now (toL mt) size s.fs s.bs s.d G = (V, bs', d'))
    (hp : Parts W g rv bl dg s.fs bs' d' now) (hi : InF F g rv bl dg s.fs) (hs : Step w W F F) (hv : Has W w.heap.size 38 old) (hfl : Lst W w.heap.size fl V.fields) (hpl : Lst W w.heap.size pl V.pass) (hap : Apart16 fl pl) (cs : Array Value) :
    ReqC w (W.setRow w.heap.size cs) (.returned (.tuple #[.agg (vrdA V fl pl), .int .i64 0])) F g ((run16 dv16 dn16 now (toL mt) size s.fs s.bs s.d G).1, 0) ⟨s.fs, (run16 dv16 dn16 now (toL mt) size s.fs s.bs s.d G).2.1, (run16 dv16 dn16 now (toL mt) size s.fs s.bs s.d G).2.2, now⟩ := by
  have hg := good_next (dv := dv16) (dn := dn16) h.good now (toL mt) size G
  unfold nxt16 at hg
  rw [if_neg hr] at hg
  rw [hrun] at hg ⊢
  have h1 : Step W (W.setRow w.heap.size cs) (fun k => k = w.heap.size) (fun k => k = w.heap.size) := step_set cs rfl
  have hrow : ∀ {v : Value} {X : List HField}, Lst W w.heap.size v X → Lst (W.setRow w.heap.size cs) w.heap.size v X := fun hv2 => h1.row hv2 (fun b hb e => row_ne hv2 hv (by decide) (by rw [hb, e]))
  refine ⟨fl, pl, F, rfl, hrow hfl, hrow hpl, hap, fun b hb hF => ?_, ⟨h.mine, fun k hk => ?_, hg, rv, bl, dg, hp.step hi h1 (fun k hk e => ?_), hi⟩, hs.beyond h1 (fun j e => by omega)⟩
  · have := h.lt b hF
    rcases hb with hb | hb
    · have := (hfl.lt b hb).1; omega
    · have := (hpl.lt b hb).1; omega
  · exact Nat.lt_of_lt_of_le (h.lt k hk) (Nat.le_trans hs.size (by simp))
  · have := h.lt k hk; omega
theorem end_pair {fn : Func} {p u : Tmp} {ty : TypeId} (h : fn.results = #[.cell p ty, .tmp u]) (tmps : Array Value) (w : World) (g : Nat) (t : TypeId) (cs : Array Value) (x : Value)
    (hp : tmps.getD p undef = .pointer (some ⟨g, 0, none⟩)) (hx : tmps.getD u undef = x) (hg : Has w g t cs)
    (hl : (loadVar ty ⟨g, 0, none⟩).run Try.prog w = .ok (.agg cs) w) :
    (results fn tmps).run Try.prog w = .ok (.tuple #[.agg cs, x]) w := by
  rw [results_cell_tmp h, hp, hx]
  simp [asAddr, Result.andThen, hl]
set_option maxHeartbeats 6400000 in
theorem preq_go (F : Nat → Prop) (g : Nat) (s : Cn) (now : Int) (h1 : s.seen ≤ now) (h2 : now ≤ 1099511627776) (mt : ByteArray) (size : Int) (vl : Value) (G : List HField) (hG : FewM G) (hl : G.length + s.fs.length ≤ 16777216) (w : World) (h : Ch w F g s) (hF : FL w vl G) :
    Calls Try.prog 16 #[.pointer (some ⟨g, 0, none⟩), .int .i64 now, .string mt, vl, .int .i64 size] w fun e w' =>
      ReqC w w' e F g ((run16 dv16 dn16 now (toL mt) size s.fs s.bs s.d G).1, 0) ⟨s.fs, (run16 dv16 dn16 now (toL mt) size s.fs s.bs s.d G).2.1, (run16 dv16 dn16 now (toL mt) size s.fs s.bs s.d G).2.2, now⟩ := by
  have q1 : ¬ now < s.seen := by omega
  have q2 : ¬ 1099511627776 < now := by omega
  obtain ⟨rv, bl, dg, hp, hi⟩ := h.parts
  have hb0 := (Below.refl w.heap.size w).alloc (Nat.le_refl _) (.cells zV16 38)
  have hZ := Has.new w 38 zV16
  have hP1 := hp.step hi (Step.alloc w (.cells zV16 38) (fun _ => False)) (fun _ _ h => h)
  have hF1 := hF.below hb0
  have c1 : (w.alloc (.cells zV16 38)).cell? ⟨g, 1, none⟩ = some (.int .i64 s.seen) := hP1.hd.cell 1
  have f1 := hP1.hd.free 1
  obtain ⟨pr, cr, hrv, -⟩ := RowKeep.row_form hp.row
  subst hrv
  have HP1 := Lib.hid (hP1.told now)
  have HF1 := Lib.hid (fl_set (y := now) hF1 hP1.hd)
  have HZ1 := Lib.hid (hZ.far (p := ⟨g, 1, none⟩) (fun e => Has.ne_ hZ hP1.hd (by decide) e) (.int .i64 now))
  have HS1 : Hid (Step w ((w.alloc (.cells zV16 38)).setCell ⟨g, 1, none⟩ (.int .i64 now)) F F) := Lib.hid ((Step.alloc w _ F).trans (Step.set_ _ hi.mine 1 _))
  have HC := Lib.hid (pcopied vl G (by omega))
  have HCh := Lib.hid h
  have HI := Lib.hid hi
  have HG := Lib.hid hG
  obtain ⟨pl, cl, rfl, -⟩ := id hF
  clear hb0 hP1 hF1 hF hp hi h hG hZ
  go_enter Try.func16, Try.ntmps16
  go_wp2_with fail
  generalize hW2 : (w.alloc _).setCell _ _ = W2 at *
  clear hW2 c1 f1 q1
  refine (HC.out _ HF1.out).mono ?_
  rintro e w3 ⟨fv, rfl, hL3, hb3⟩
  obtain ⟨pf, cf', rfl, -⟩ := RowKeep.row_form hL3
  have hb4 := hb3.alloc hb3.size (.cells (reqA now mt (.slice pf G.length cf') size) 84)
  have HM0 : Hid (Mid w F g (.slice pr s.fs.length cr) bl dg w3.heap.size w.heap.size s.fs s.bs s.d now mt size G 0 s.bs s.d G (.slice pf G.length cf') (w3.alloc (.cells (reqA now mt (.slice pf G.length cf') size) 84))) := Lib.hid
    ⟨Run16.start now (toL mt) size s.fs s.bs s.d G HCh.out.good.len, HP1.out.step HI.out (Step.of_below hb4 (fun _ => False)) (fun _ _ h => h), Has.new w3 _ _,
      RowKeep.row_mono (RowKeep.row_below hL3 ((Below.refl _ w3).alloc (Nat.le_refl _) _)) HS1.out.size, HG.out, Nat.le_refl _, fun b hb => ⟨(HCh.out.good.bk b hb).1, Int.le_trans (HCh.out.good.bk b hb).2 h1⟩, HS1.out.trans (Step.of_below hb4 F), HZ1.out.below hb4 HZ1.out.lt⟩
  have c0 : (w3.alloc (.cells (reqA now mt (.slice pf G.length cf') size) 84)).cell? ⟨g, 0, none⟩ = some (.slice pr s.fs.length cr) := HM0.out.parts.hd.cell 0
  have hn63 : s.fs.length ≤ 16777216 := by omega
  have HSZ : Hid (w.heap.size ≤ w3.heap.size) := Lib.hid (Nat.le_trans HS1.out.size hb3.size)
  clear hL3 hb3 hb4 HP1 HF1 HZ1 HS1 HC HG
  obtain ⟨rb, hrb⟩ : ∃ rb, Hid (rb = w3.heap.size) := ⟨_, Lib.hid rfl⟩
  unfold reqA at *
  go_wp2_with fail
  rw [← hrb.out] at HM0 ⊢
  go_loopw [42] (fun i wr => ∃ k : Nat, k ≤ s.fs.length ∧ i = .int .i64 k ∧ Hid (∃ bs' d' G' fv, Mid w F g (.slice pr s.fs.length cr) bl dg rb w.heap.size s.fs s.bs s.d now mt size G k bs' d' G' fv wr)) (fun i _ => s.fs.length - (intOf i).toNat)
  case atStart => exact ⟨0, Nat.zero_le _, rfl, Lib.hid ⟨_, _, _, _, HM0.out⟩⟩
  case round =>
    obtain ⟨k, hk, rfl, HM⟩ := hrel
    clear HM0 c0
    obtain ⟨bs', d', G', fv, hM⟩ := HM.out
    clear HM
    by_cases hlt : k < s.fs.length
    · have hki : (k : Int) < (s.fs.length : Int) := by omega
      obtain ⟨T, V, fn, rc, e1, e2, e3, e5, e4⟩ := forth_disp s.fs[k] (HCh.out.good.right _ (List.getElem_mem hlt)) (bl.getD k 0) dg
      obtain ⟨r0, cr', ev, _, _, _, hrc⟩ := RowKeep.row_at hM.parts.row (by omega)
      injection ev with ev1 _ ev3
      subst ev1 ev3
      have c1 : wr.cell? ⟨r0, k, none⟩ = some (.iface T V) := by rw [hrc k (by omega), vals_at _ _ _ k hlt, e1]
      have HM := Lib.hid hM
      have E1 := Lib.hid e1
      have E4 := Lib.hid e4
      have HAsk : Hid (Ask w.heap.size s.fs[k] rb (bl.getD k 0) dg now mt size (bs'.getD k zB) d' fv G' wr) := Lib.hid
        ⟨hM.few, by have := hM.len; omega, hM.req, hM.list, hM.step.size, fun e => ⟨hM.parts.bk k hlt e, (hM.oks _ (getD_mem (by rw [hM.parts.ls]; exact hlt))).1, (hM.oks _ (getD_mem (by rw [hM.parts.ls]; exact hlt))).2, h2⟩, fun _ => hM.parts.di⟩
      clear hrc hM e1 e4
      go_wp2_with fail
      refine (E4.out _ _ _ _ _ _ _ _ _ _ HAsk.out).mono ?_
      rintro e w4 hfw
      have HFW := Lib.hid hfw
      clear hfw E4 HAsk c1 e2 e3 e5
      obtain ⟨fl, fv2, rfl, hfl, hgo, hst, h3, h7⟩ := HFW.out
      obtain ⟨pv, cv, rfl, -⟩ := RowKeep.row_form hfl
      cases hs : (one16 dv16 s.fs[k] (bs'.getD k zB) d' now (toL mt) G' size).stop
      · have HN := Lib.hid (HM.out.next HI.out hlt (HCh.out.good.right _ (List.getElem_mem hlt)) h2 hs hst h3 h7 (by have := hrb.out; have := HSZ.out; omega) (hgo hs).1 (hgo hs).2)
        unfold vrdA
        rw [hs]
        clear HFW HM hfl hgo hst h3 h7 hs
        go_wp2_with fail
        go_roundw
        case rel => exact ⟨k + 1, by omega, by go_num, Lib.hid ⟨_, _, _, _, HN.out _⟩⟩
        case measure => simp [intOf]; omega
      · have HN := Lib.hid (HM.out.turn HI.out hlt hst h3 h7 (by have := hrb.out; have := HSZ.out; omega))
        have HP := Lib.hid (HM.out.run.stop hlt hs)
        have hpass := (one_stop (HCh.out.good.right _ (List.getElem_mem hlt)) hs).1
        obtain ⟨X, hX⟩ : ∃ X, Hid (X = one16 dv16 s.fs[k] (bs'.getD k zB) d' now (toL mt) G' size) := ⟨_, Lib.hid rfl⟩
        rw [← hX.out] at HP hpass hfl hs ⊢
        have hb5 := (Below.refl w4.heap.size w4).alloc (Nat.le_refl _) (.cells (vrdA X (.slice pv X.fields.length cv) (.slice none 0 0)) 38)
        have HZ5 := Lib.hid (HN.out.2.2.alloc (.cells (vrdA X (.slice pv X.fields.length cv) (.slice none 0 0)) 38))
        have HE := Lib.hid (req_end HCh.out (show ¬ refused s now by unfold refused; omega) HP.out (HN.out.1.step HI.out (Step.of_below hb5 (fun _ => False)) (fun _ _ h => h)) HI.out (HN.out.2.1.trans (Step.of_below hb5 F)) HZ5.out (RowKeep.row_below hfl hb5) (by rw [hpass]; exact lst_nil _ _) (fun q _ e => by cases e) (vrdA X (.slice pv X.fields.length cv) (.slice none 0 0)))
        unfold vrdA at *
        rw [hs] at HE HZ5 ⊢
        clear HFW HM hfl hgo hst h3 h7 hs HN HP hpass hX hb5
        have Z5 := HZ5.out
        go_wp2_with (refine store_whole rfl 38 5 pverd_size _ _ rfl w.heap.size _ _ Z5 rfl rfl (by simp [Value.oneCell']) rfl rfl ?_)
        refine bodyPost_ret (v := .tuple #[.agg #[.bool true, .int .i64 X.status, .slice pv X.fields.length cv, .string (ofL X.body), .slice none 0 0], .int .i64 0]) (end_pair rfl _ _ w.heap.size 38 _ _ rfl rfl (has_set Z5 _) (run_loadVar_row _ _ _ _ _ (0, 0) _ (has_set Z5 _).at_ Try.underlying38 rfl (by kernel_rfl))) rfl ?_
        exact HE.out
    · obtain rfl : k = s.fs.length := by omega
      obtain ⟨pv, cv, rfl, -⟩ := RowKeep.row_form hM.list
      have Z5 := hM.vb
      have c0 : wr.cell? ⟨rb, 2, none⟩ = some (.slice pv G'.length cv) := hM.req.cell 2
      have HE := Lib.hid (req_end (mt := mt) (size := size) (G := G) HCh.out (show ¬ refused s now by unfold refused; omega) hM.run.last hM.parts HI.out hM.step Z5 (lst_nil _ _) hM.list (fun q e => by cases e) (vrdA ⟨false, 0, [], [], G'⟩ (.slice none 0 0) (.slice pv G'.length cv)))
      clear hM
      go_wp2_with (refine store_whole rfl 38 5 pverd_size _ _ rfl w.heap.size _ _ Z5 rfl rfl (by simp [Value.oneCell']) rfl rfl ?_)
      refine bodyPost_ret (v := .tuple #[.agg #[.bool false, .int .i64 0, .slice none 0 0, .string ⟨#[]⟩, .slice pv G'.length cv], .int .i64 0]) (end_pair rfl _ _ w.heap.size 38 _ _ rfl rfl (has_set Z5 _) (run_loadVar_row _ _ _ _ _ (0, 0) _ (has_set Z5 _).at_ Try.underlying38 rfl (by kernel_rfl))) rfl ?_
      exact HE.out
set_option maxHeartbeats 1600000 in
theorem preq16 (F : Nat → Prop) (g : Nat) (s : Cn) (now : Int) (hn : inI now) (method : ByteArray) (hm : method.size ≤ 4194304) (size : Int) (hz : inI size) (vl : Value) (G : List HField) (hG : FewM G) (hl : G.length + s.fs.length ≤ 16777216) (w : World) (h : Ch w F g s) (hF : FL w vl G) :
    Calls Try.prog 16 #[.pointer (some ⟨g, 0, none⟩), .int .i64 now, .string method, vl, .int .i64 size] w fun e w' => ReqC w w' e F g (req16 dv16 dn16 s now (toL method) size G) (nxt16 dv16 dn16 s now (toL method) size G) := by
  by_cases hr : refused s now
  · have e1 : req16 dv16 dn16 s now (toL method) size G = (none16, 20) := by unfold req16; rw [if_pos hr]
    have e2 : nxt16 dv16 dn16 s now (toL method) size G = s := by unfold nxt16; rw [if_pos hr]
    rw [e1, e2]
    obtain ⟨rv, bl, dg, hp, hi⟩ := h.parts
    have hZ := Has.new w 38 zV16
    have c1 : (w.alloc (.cells zV16 38)).cell? ⟨g, 1, none⟩ = some (.int .i64 s.seen) := (hp.hd.alloc _).cell 1
    have hs : Step w ((w.alloc (.cells zV16 38)).setRow w.heap.size zV16) F F := (Step.alloc w _ F).beyond (step_set (F := fun k => k = w.heap.size) zV16 rfl) (fun j e => by omega)
    have h5 : Step w ((w.alloc (.cells zV16 38)).setRow w.heap.size zV16) (fun _ => False) (fun _ => False) := (Step.alloc w _ _).beyond (step_set (F := fun k => k = w.heap.size) zV16 rfl) (fun j e => by omega)
    have HE : Hid (ReqC w ((w.alloc (.cells zV16 38)).setRow w.heap.size zV16) (.returned (.tuple #[.agg zV16, .int .i64 20])) F g (none16, 20) s) := Lib.hid
      ⟨.slice none 0 0, .slice none 0 0, F, rfl, lst_nil _ _, lst_nil _ _, fun q e => by (cases e), fun b hb => by (rcases hb with e | e <;> cases e), h.step h5 (fun _ _ h => h), hs⟩
    have hx : now < s.seen ∨ (¬ now < s.seen ∧ 1099511627776 < now) := by unfold refused at hr; omega
    clear e1 e2 h hp hi hs h5 hr
    have Z5 := hZ
    rcases hx with hx | ⟨hx, hy⟩
    all_goals
      go_enter Try.func16, Try.ntmps16
      go_wp2_with (refine store_whole rfl 38 5 pverd_size _ _ rfl w.heap.size _ _ Z5 rfl rfl (by simp [Value.oneCell']) rfl rfl ?_)
      refine bodyPost_ret (v := .tuple #[.agg zV16, .int .i64 20]) (end_pair rfl _ _ w.heap.size 38 _ _ rfl rfl (has_set Z5 _) (run_loadVar_row _ _ _ _ _ (0, 0) _ (has_set Z5 _).at_ Try.underlying38 rfl (by kernel_rfl))) rfl ?_
      exact HE.out
  · have h1 : s.seen ≤ now ∧ now ≤ 1099511627776 := by unfold refused at hr; omega
    have e1 : req16 dv16 dn16 s now (toL method) size G = ((run16 dv16 dn16 now (toL method) size s.fs s.bs s.d G).1, 0) := by unfold req16; rw [if_neg hr]
    have e2 : nxt16 dv16 dn16 s now (toL method) size G = ⟨s.fs, (run16 dv16 dn16 now (toL method) size s.fs s.bs s.d G).2.1, (run16 dv16 dn16 now (toL method) size s.fs s.bs s.d G).2.2, now⟩ := by unfold nxt16; rw [if_neg hr]
    rw [e1, e2]
    exact preq_go F g s now h1.1 h1.2 method size vl G hG hl w h hF
end Go.Proofs.Ytfdpoibmlggfbaa.FiltObj

/- Layer 16 of the program: slices.Backward over a chain's filters. -/
namespace Go.Proofs.Ytfdpoibmlggfbaa.FiltObj
open Go.ChangeShapes Go.WideShapes Go.ChangeAt Go.RowKit Bytes FRow ConfPure ConfMem FieldsPure Flds FilterPure FiltState FiltKeep BucketPure BucketObj Mem Step Go.Shelf
set_option maxRecDepth 20000
set_option linter.unusedVariables false
set_option linter.unusedSimpArgs false
attribute [local go_sem] Oper.semAt_some
/-- n - 1, .., 0 -/
def down (n : Nat) : List (Fin n) := (List.finRange n).reverse
theorem down_len (n : Nat) : (down n).length = n := by simp [down]
theorem down_at {n k : Nat} (h : k < n) : (down n).take (k + 1) = (down n).take k ++ [⟨n - 1 - k, by omega⟩] := by
  have hk : k < (down n).length := by rw [down_len]; exact h
  rw [List.take_succ_eq_append_getElem hk]
  congr 1
  simp [down]
def encB (xs : List Value) (j : Fin xs.length) : Array Value := #[.int .i64 (j.1 : Int), xs.getD j.1 undef]
/-- what a round keeps: what lay below n₀, and the box of the list -/
def KpB (n₀ Bs : Nat) (v : Value) (A B : World) : Prop := Below n₀ A B ∧ (A.cell? ⟨Bs, 0, none⟩ = some v → B.cell? ⟨Bs, 0, none⟩ = some v)
theorem kpB_t {n₀ Bs : Nat} {v : Value} {A B C : World} (h : KpB n₀ Bs v A B) (k : KpB n₀ Bs v B C) : KpB n₀ Bs v A C := ⟨h.1.trans k.1, fun x => k.2 (h.2 x)⟩
theorem kpB_b {n₀ Bs : Nat} {v : Value} {w : World} (hn : n₀ ≤ w.heap.size) (hb : Bs < w.heap.size) (W : World) (l : Nat) (o o' : Obj) (hl : w.heap.size ≤ l) (h : W.heap[l]? = some o) (h1 : o.isCells = false) (h2 : o.isWalk = false) : KpB n₀ Bs v W (W.putObj l o') :=
  ⟨belowK_b hn W l o o' hl h h1 h2, fun x => by
    have hne : l ≠ Bs := by omega
    have hb := World.block_lt_of_cell? _ _ x
    have := (Below.refl (Bs + 1) W).grown (grownBy_putObj' W l o') (by exact hb) (fun k e => by cases e; omega)
    exact (this.cell (p := ⟨Bs, 0, none⟩) (Nat.lt_succ_self _)).trans x⟩
abbrev fBW : FuncId := 27
abbrev fBW1 : FuncId := 36
theorem backward_any (p : Option Addr) (len cap : Nat) (w : World) :
    Calls Try.prog 27 #[.slice p len cap] w fun e w' => e = .returned (.func (.func fBW1) #[] #[.pointer (some ⟨w.heap.size, 0, none⟩)]) ∧ w' = w.alloc (.cells #[.slice p len cap] 60) := by
  go_enter Try.func27, Try.ntmps27
  go_wp2_with fail
  go_ret
  exact ⟨rfl, rfl⟩
set_option maxHeartbeats 3200000 in
theorem bw_in (n l Bs n₀ : Nat) (xs : List Value) (hlen : xs.length ≤ 16777216) (r0 cap : Nat) (hr0 : r0 < n₀) (J Jx : List (Fin xs.length) → World → Prop) (W : World)
    (hY : ∀ pre x W1, J pre W1 → pre.length < xs.length → YieldAt Fence.wide (n - 1) Try.prog l (encB xs x) W1 fun e W' =>
      (e = .returned (.bool true) ∧ J (pre ++ [x]) W' ∧ KpB n₀ Bs (.slice (some ⟨r0, 0, none⟩) xs.length cap) W1 W') ∨ (e = .returned (.bool false) ∧ Jx (pre ++ [x]) W'))
    (hBs : W.cell? ⟨Bs, 0, none⟩ = some (.slice (some ⟨r0, 0, none⟩) xs.length cap)) (hc : ∀ j, j < xs.length → W.cell? ⟨r0, j, none⟩ = some (xs.getD j undef)) (h0 : J [] W) :
    CallsIn Fence.wide n Try.prog fBW1 #[.func (.yield l) #[] #[], .pointer (some ⟨Bs, 0, none⟩)] W fun e W' => (∃ v, e = .returned v) ∧
      ((∃ ys, ys = down xs.length ∧ J ys W') ∨ (∃ pre, pre <+: down xs.length ∧ Jx pre W')) := by
  refine callsIn_of_wp Try.func36 rfl trivial ?_ rfl
  simp only [Try.ntmps36, List.size_toArray, List.length_cons, List.length_nil, Nat.reduceAdd, Nat.reduceSub, Array.replicate_succ, Array.replicate_zero, List.push_toArray, List.append_toArray, List.nil_append, List.cons_append]
  replace hc := Lib.hid hc
  replace hY := Lib.hid hY
  have H0 := Lib.hid h0
  have HC0 := Lib.hid hBs
  have HB0 : Hid (Below n₀ W W) := Lib.hid (Below.refl _ _)
  clear h0
  gi_wp2
  clear hBs
  gi_loopw [3] (fun i wr => ∃ k : Nat, k ≤ xs.length ∧ i = .int .i64 ((xs.length : Int) - 1 - k) ∧ Hid (J ((down xs.length).take k) wr) ∧ Hid (Below n₀ W wr) ∧ Hid (wr.cell? ⟨Bs, 0, none⟩ = some (.slice (some ⟨r0, 0, none⟩) xs.length cap)))
    (fun i _ => (intOf i + 1).toNat)
  case atStart => exact ⟨0, Nat.zero_le _, by simp, H0, HB0, HC0⟩
  case round =>
    obtain ⟨k, hk, rfl, HJ, HB, HN⟩ := hrel
    clear H0 HB0 HC0
    by_cases hlt : k < xs.length
    · obtain ⟨j, hj⟩ : ∃ j : Nat, j + k + 1 = xs.length := ⟨xs.length - 1 - k, by omega⟩
      have e1 : (xs.length : Int) - 1 - k = j := by omega
      rw [e1]
      have hj2 : j < xs.length := by omega
      have hjl : (j : Int) < (xs.length : Int) := by omega
      have c0 := HN.out
      have c1 : wr.cell? ⟨r0, j, none⟩ = some (xs.getD j undef) := (HB.out.cell (p := ⟨r0, j, none⟩) hr0).trans (hc.out j (by omega))
      have hpl : ((down xs.length).take k).length < xs.length := by rw [List.length_take, down_len]; omega
      obtain ⟨fn, tmps, assign, body, hy, hR⟩ := hY.out ((down xs.length).take k) ⟨j, hj2⟩ wr HJ.out hpl
      unfold encB at hy
      dsimp only at hy
      obtain ⟨xv, hxv⟩ : ∃ xv, xv = xs.getD j undef := ⟨_, rfl⟩
      rw [← hxv] at hy c1
      have HT : Hid ((down xs.length).take (k + 1) = (down xs.length).take k ++ [⟨j, hj2⟩]) := Lib.hid (by rw [down_at hlt]; congr 2; apply Fin.ext; show xs.length - 1 - k = j; omega)
      have HR := Lib.hid hR
      have e2 : Hid ((xs.length : Int) - 1 - ((k + 1 : Nat) : Int) = j - 1) := Lib.hid (by omega)
      clear hR hpl hc hY e1 hxv hj
      gi_wp2
      refine ⟨fun h => (by cases h), ?_⟩
      refine HR.out.mono ?_
      rintro e W3 (⟨rfl, hJ3, hk3⟩ | ⟨rfl, hJx3⟩)
      · have HJ3 : Hid (J ((down xs.length).take (k + 1)) W3) := Lib.hid (by rw [HT.out]; exact hJ3)
        have HB3 : Hid (Below n₀ W W3) := Lib.hid (HB.out.trans hk3.1)
        have HN3 := Lib.hid (hk3.2 HN.out)
        clear hJ3 hk3 HR HB HN HT
        gi_wp2
        go_roundw
        case rel => exact ⟨k + 1, by omega, by rw [e2.out], HJ3, HB3, HN3⟩
        case measure => first | (simp [intOf]; done) | (simp [intOf]; omega)
      · have HX : Hid (∃ pre, pre <+: down xs.length ∧ Jx pre W3) := Lib.hid ⟨_, ⟨(down xs.length).drop (k + 1), by rw [← HT.out, List.take_append_drop]⟩, hJx3⟩
        clear hJx3 HR HB HN HT
        gi_wp2
        refine bodyPost_ret (results_none rfl _ _ _) rfl ?_
        exact ⟨⟨_, rfl⟩, .inr HX.out⟩
    · obtain rfl : k = xs.length := by omega
      have HJE := HJ.out
      rw [List.take_of_length_le (by rw [down_len]; omega)] at HJE
      have HJH := Lib.hid HJE
      have e1 : (xs.length : Int) - 1 - xs.length = -1 := by omega
      rw [e1]
      clear HJE HJ hY e1
      gi_wp2
      go_end0
      exact ⟨⟨_, rfl⟩, .inl ⟨_, rfl, HJH.out⟩⟩
set_option maxHeartbeats 1600000 in
theorem bw_none (n l Bs : Nat) (cap : Nat) (J : List (Fin 0) → World → Prop) (W : World) (p : Option Addr) (hBs : W.cell? ⟨Bs, 0, none⟩ = some (.slice p 0 cap)) (h0 : J [] W) :
    CallsIn Fence.wide n Try.prog fBW1 #[.func (.yield l) #[] #[], .pointer (some ⟨Bs, 0, none⟩)] W fun e W' => (∃ v, e = .returned v) ∧ J [] W' := by
  refine callsIn_of_wp Try.func36 rfl trivial ?_ rfl
  simp only [Try.ntmps36, List.size_toArray, List.length_cons, List.length_nil, Nat.reduceAdd, Nat.reduceSub, Array.replicate_succ, Array.replicate_zero, List.push_toArray, List.append_toArray, List.nil_append, List.cons_append]
  have H0 := Lib.hid h0
  clear h0
  gi_wp2
  gi_loopw [3] (fun i wr => i = .int .i64 (-1) ∧ Hid (J [] wr)) (fun _ _ => 0)
  case atStart => exact ⟨rfl, H0⟩
  case round =>
    obtain ⟨rfl, HJ⟩ := hrel
    clear H0 hBs
    gi_wp2
    go_end0
    exact ⟨⟨_, rfl⟩, HJ.out⟩
theorem bw_stops (n Bs n₀ : Nat) (xs : List Value) (hlen : xs.length ≤ 16777216) (v : Value) (w : World) (hBs : Bs < w.heap.size) (hn : n₀ ≤ w.heap.size) (hc : w.cell? ⟨Bs, 0, none⟩ = some v)
    (hv : (xs.length = 0 ∧ ∃ p cap, v = .slice p 0 cap) ∨ ∃ r0 cap, v = .slice (some ⟨r0, 0, none⟩) xs.length cap ∧ r0 < n₀ ∧ ∀ j, j < xs.length → w.cell? ⟨r0, j, none⟩ = some (xs.getD j undef)) :
    SeqStopsK Fence.wide n Try.prog fBW1 #[.pointer (some ⟨Bs, 0, none⟩)] (encB xs) (KpB n₀ Bs v) (fun ys => ys = down xs.length) (fun pre => pre <+: down xs.length) xs.length w :=
  fun l J Jx W hW hJ _ hY h0 => by
    have hc' := (hW.cell (p := ⟨Bs, 0, none⟩) hBs).trans hc
    rcases hv with ⟨h, p, cap, rfl⟩ | ⟨r0, cap, rfl, hr, hcs⟩
    · obtain rfl : xs = [] := List.eq_nil_of_length_eq_zero h
      exact (bw_none n l Bs cap J W p hc' h0).mono fun e W' ⟨he, hj⟩ => ⟨he, .inl ⟨_, rfl, hj⟩⟩
    · exact bw_in n l Bs n₀ xs hlen r0 cap hr J Jx W hY hc' (fun j hj => (hW.cell (p := ⟨r0, j, none⟩) (Nat.lt_of_lt_of_le hr hn)).trans (hcs j hj)) h0
end Go.Proofs.Ytfdpoibmlggfbaa.FiltObj

/- Layer 16 of the program: Response. -/
namespace Go.Proofs.Ytfdpoibmlggfbaa.FiltObj
open Go.ChangeShapes Go.WideShapes Go.ChangeAt Go.RowKit Bytes FRow ConfPure ConfMem FieldsPure Flds FilterPure FiltState FiltKeep BucketPure BucketObj Mem Step Go.Shelf
set_option maxRecDepth 100000
set_option linter.unusedVariables false
set_option linter.unusedSimpArgs false
attribute [local go_sem] Oper.semAt_some
/-- behind some filters on the way back -/
def gone {n : Nat} (fs : List Filt) (G : List HField) (pre : List (Fin n)) : List HField := pre.foldl (fun G j => back16 (fs.getD j.1 zFilt) G) G
theorem back_few {f : Filt} (hf : filtB f = true) {G : List HField} (h : FewM G) : FewM (back16 f G) := by
  unfold back16
  split
  · exact few_set h (right_len hf).1 (right_len hf).2
  · split
    · exact few_set h (by decide) (right_len hf).2
    · exact h
theorem back_len (f : Filt) (G : List HField) : (back16 f G).length ≤ G.length + 1 := by
  unfold back16
  split
  · exact len_set _ _ _
  · split
    · exact len_set _ _ _
    · omega
theorem gone_snoc {n : Nat} (fs : List Filt) (G : List HField) (pre : List (Fin n)) (j : Fin n) : gone fs G (pre ++ [j]) = back16 (fs.getD j.1 zFilt) (gone fs G pre) := by unfold gone; rw [List.foldl_append]; rfl
theorem gone_keep (fs : List Filt) (hr : ∀ f ∈ fs, filtB f = true) {n : Nat} (hn : n = fs.length) : ∀ (pre : List (Fin n)) (G : List HField), FewM G → FewM (gone fs G pre) ∧ (gone fs G pre).length ≤ G.length + pre.length
  | [], G, h => ⟨h, Nat.le_refl _⟩
  | j :: pre, G, h => by
    have hj : j.1 < fs.length := by have := j.2; omega
    have e : fs.getD j.1 zFilt = fs[j.1] := by simp [List.getD, List.getElem?_eq_getElem hj]
    have hf : filtB (fs.getD j.1 zFilt) = true := by rw [e]; exact hr _ (List.getElem_mem hj)
    obtain ⟨h1, h2⟩ := gone_keep fs hr hn pre (back16 (fs.getD j.1 zFilt) G) (back_few hf h)
    have h3 := back_len (fs.getD j.1 zFilt) G
    refine ⟨h1, ?_⟩
    show (gone fs (back16 (fs.getD j.1 zFilt) G) pre).length ≤ _
    rw [List.length_cons]
    omega
theorem resp_foldr : ∀ (fs : List Filt) (G : List HField), resp16 fs G = fs.foldr back16 G
  | [], G => rfl
  | f :: fs, G => by unfold resp16; rw [resp_foldr fs G]; rfl
theorem gone_all (fs : List Filt) {n : Nat} (hn : n = fs.length) (G : List HField) : gone fs G (down n) = resp16 fs G := by
  subst hn
  unfold gone down
  rw [List.foldl_reverse, resp_foldr]
  have e : (List.finRange fs.length).map (fun j => fs.getD j.1 zFilt) = fs := by
    apply List.ext_getElem
    · simp
    · intro i h1 h2
      simp [h2]
  conv => rhs; rw [← e, List.foldr_map]
theorem below_box {w W : World} (h : Below w.heap.size w W) (v : Value) : Below w.heap.size w (W.setCell ⟨w.heap.size, 0, none⟩ v) := h.setCell (p := ⟨w.heap.size, 0, none⟩) (Nat.le_refl _) v
set_option maxHeartbeats 6400000 in
theorem presp16 (F : Nat → Prop) (g : Nat) (s : Cn) (vl : Value) (G : List HField) (hG : FewM G) (hl : G.length + s.fs.length ≤ 16777216) (w : World) (h : Ch w F g s) (hF : FL w vl G) :
    Calls Try.prog 14 #[.pointer (some ⟨g, 0, none⟩), vl] w fun e w' => RespC w w' e F g (resp16 s.fs G) s := by
  obtain ⟨rv, bl, dg, hp, hi⟩ := h.parts
  obtain ⟨xs, hxs⟩ : ∃ xs, Hid (xs = vals s.fs bl dg) := ⟨_, Lib.hid rfl⟩
  have hxl : xs.length = s.fs.length := by rw [hxs.out, vals_len]
  have HVA : Hid (∀ i (hi : i < s.fs.length), xs.getD i undef = ifv s.fs[i] (bl.getD i 0) dg) := Lib.hid (fun i hi => by rw [hxs.out]; simp [List.getD, vals_at s.fs bl dg i hi])
  obtain ⟨pl, cl, rfl, -⟩ := id hF
  obtain ⟨pr, cr, hrv, -⟩ := RowKeep.row_form hp.row
  subst hrv
  have hb1 := (Below.refl w.heap.size w).alloc (Nat.le_refl _) (.cells #[.slice pl G.length cl] 32)
  have HF1 := Lib.hid (hF.below hb1)
  have HB1 := Lib.hid hb1
  have HC := Lib.hid (pcopied (.slice pl G.length cl) G (by omega))
  have HCh := Lib.hid h
  have HP := Lib.hid hp
  have HI := Lib.hid hi
  have HG := Lib.hid hG
  have HX0 := Lib.hid (Boxed.new w 32 (.slice pl G.length cl))
  have hgl := h.lt g h.mine
  clear hF hb1 h hp hi hG
  refine (callsIn_wide (n := 3)).1 ?_
  refine callsIn_of_wp_marks Try.func14 rfl trivial ?_ rfl
  simp only [Try.ntmps14, List.size_toArray, List.length_cons, List.length_nil, Nat.reduceAdd, Nat.reduceSub, Array.replicate_succ, Array.replicate_zero, List.push_toArray, List.append_toArray, List.nil_append, List.cons_append]
  gi_wp2_with fail
  refine ⟨trivial, ?_⟩
  refine (callsIn_wide.2 (HC.out _ HF1.out)).mono ?_
  rintro e w2 ⟨v2, rfl, hL2, hb2⟩
  obtain ⟨p2, c2, rfl, -⟩ := RowKeep.row_form hL2
  have hbx2 : Boxed w2 w.heap.size 32 (.slice pl G.length cl) := (hb2.block _ HX0.out.lt).trans HX0.out
  have x0 := hbx2.cell
  have x1 := hbx2.frozen
  have hb02 := below_chain HB1.out hb2
  have hrow2 := RowKeep.row_mono hL2 (show w.heap.size ≤ _ from HB1.out.size)
  have HX3 := Lib.hid (hbx2.set (.slice p2 G.length c2))
  have HB3 := Lib.hid (below_box hb02 (.slice p2 G.length c2))
  have HR3 : Hid (Lst (w2.setCell ⟨w.heap.size, 0, none⟩ (.slice p2 G.length c2)) w.heap.size (.slice p2 G.length c2) G) := Lib.hid
    ((Step.set_ (F := fun k => k = w.heap.size) w2 rfl 0 _).row hrow2 (fun q hq e => row_ne hrow2 (show Has w2 w.heap.size _ _ from ⟨hbx2⟩) (by decide) (by rw [hq, e])))
  have c3 : (w2.setCell ⟨w.heap.size, 0, none⟩ (.slice p2 G.length c2)).cell? ⟨g, 0, none⟩ = some (.slice pr s.fs.length cr) := (HB3.out.cell (p := ⟨g, 0, none⟩) hgl).trans (HP.out.hd.cell 0)
  clear hL2 hb2 hbx2 hb02 hrow2 HF1 HB1 HC HX0
  gi_wp2
  refine ⟨trivial, ?_⟩
  refine (callsIn_wide.2 (backward_any _ _ _ _)).mono ?_
  rintro e w' ⟨rfl, rfl⟩
  have hb4 := HB3.out.alloc HB3.out.size (.cells #[.slice pr s.fs.length cr] 60)
  have b0 := HX3.out.alloc (.cells #[.slice pr s.fs.length cr] 60)
  have b1 := Boxed.new (w2.setCell ⟨w.heap.size, 0, none⟩ (.slice p2 G.length c2)) 60 (.slice pr s.fs.length cr)
  have hrow := RowKeep.row_below HR3.out ((Below.refl _ _).alloc (Nat.le_refl _) (.cells #[.slice pr s.fs.length cr] 60))
  have hne : w.heap.size ≠ (w2.setCell ⟨w.heap.size, 0, none⟩ (.slice p2 G.length c2)).heap.size := by have := HX3.out.lt; omega
  generalize (w2.setCell ⟨w.heap.size, 0, none⟩ (.slice p2 G.length c2)).heap.size = Bs at *
  generalize (w2.setCell ⟨w.heap.size, 0, none⟩ (.slice p2 G.length c2)).alloc (.cells #[.slice pr s.fs.length cr] 60) = W0 at *
  have HNe := Lib.hid hne
  clear HX3 HB3 HR3 c3 x0 x1
  have hst : SeqStopsK Fence.wide (3 - 1) Try.prog fBW1 #[.pointer (some ⟨Bs, 0, none⟩)] (encB xs) (KpB w.heap.size Bs (.slice pr s.fs.length cr)) (fun ys => ys = down xs.length) (fun pre => pre <+: down xs.length) xs.length W0 := by
    refine bw_stops _ Bs w.heap.size xs (by omega) _ W0 b1.lt hb4.size b1.cell ?_
    by_cases h0 : s.fs.length = 0
    · exact .inl ⟨by omega, pr, cr, by rw [h0]⟩
    · obtain ⟨r0, cr', ev, _, hr0, _, hrc⟩ := RowKeep.row_at HP.out.row (by omega)
      injection ev with ev1 _ ev3
      subst ev1 ev3
      refine .inr ⟨r0, cr, by rw [hxl], hr0, fun j hj => ?_⟩
      rw [(hb4.cell (p := ⟨r0, j, none⟩) hr0), hrc j (by omega), vals_at _ _ _ j (by omega)]
      have e : xs.getD j undef = (vals s.fs bl dg).getD j undef := by rw [hxs.out]
      rw [e]
      simp [List.getD, vals_at s.fs bl dg j (by omega)]
  gi_wp2
  refine wpIn_rangeFunc_ownG rfl (by omega) (gf := fBW1) (lb := #[.pointer (some ⟨Bs, 0, none⟩)]) rfl trivial (enters_of Try.func36 (by kernel_rfl) rfl)
    hst kpB_t (kpB_b hb4.size b1.lt) (Below.refl _ _) (fun _ => rfl)
    (fun pre W => (∃ v, Boxed W w.heap.size 32 v ∧ W.ownsRow w.heap.size 54 2 v (gone s.fs G pre).length (encFs (gone s.fs G pre)) ∧ True) ∧ Below w.heap.size w W)
    (fun _ _ _ => False)
    (OwnFrom.and (Own.from (holdsRow_own w.heap.size w.heap.size 32 54 2 (fun pre => (gone s.fs G pre).length) (fun pre => encFs (gone s.fs G pre)) (fun _ _ => True)) _) (ownFrom_below (Nat.le_refl _) hb4.size))
    (fun _ _ _ _ _ hs _ _ => hs)
    ⟨⟨_, b0, hrow, trivial⟩, hb4⟩
    (fun x => { tmps := #[.pointer (some ⟨g, 0, none⟩), .slice pl G.length cl, undef, .pointer (some ⟨w.heap.size, 0, none⟩), .slice none 0 0, undef, xs.getD x.1 undef, .slice pl G.length cl, .slice p2 G.length c2, .pointer (some ⟨g, 0, none⟩), .pointer (some ⟨g, 0, none⟩), .pointer (some ⟨g, 0, none⟩), .slice pr s.fs.length cr, .func (.func fBW1) #[] #[.pointer (some ⟨Bs, 0, none⟩)], .int .i64 (x.1 : Int), xs.getD x.1 undef, undef, undef, undef, undef], defers := [] }) ?assign ?body ?done ?stop
  case assign =>
    intro l x W K hK
    dsimp only [encB]
    gi_wp2
    exact hK
  case body =>
    rintro l pre x W ⟨⟨v, h0, hrow5, _⟩, hB⟩ hlt
    have hx : x.1 < s.fs.length := by have := x.2; omega
    have efs : s.fs.getD x.1 zFilt = s.fs[x.1] := by simp [List.getD, List.getElem?_eq_getElem hx]
    obtain ⟨T, V, fn, rc, e1, e2, e3, e5, e4⟩ := back_disp s.fs[x.1] (HCh.out.good.right _ (List.getElem_mem hx)) (bl.getD x.1 0) dg
    have ev : xs.getD x.1 undef = .iface T V := (HVA.out x.1 hx).trans e1
    rw [ev]
    obtain ⟨p5, c5, rfl, -⟩ := RowKeep.row_form hrow5
    have k1 := h0.cell
    have k2 := h0.frozen
    obtain ⟨g1, g2⟩ := gone_keep s.fs HCh.out.good.right hxl pre G HG.out
    have HK := Lib.hid (e4 w.heap.size (.slice p5 (gone s.fs G pre).length c5) (gone s.fs G pre) W g1 (by omega) hrow5 hB.size)
    have HS : Hid (gone s.fs G (pre ++ [x]) = back16 s.fs[x.1] (gone s.fs G pre)) := Lib.hid (by rw [gone_snoc, efs])
    have H0 := Lib.hid h0
    have HB := Lib.hid hB
    clear b0 b1 hst hrow hne hrow5 g1 g2 e1 e4 ev efs h0 hB hb4
    gi_wp2
    refine ⟨trivial, ?_⟩
    refine (CallsIn.inRound l (callsIn_wide.2 HK.out)).mono ?_
    rintro e W5 ⟨v5, rfl, hL5, hb5⟩
    obtain ⟨p6, c6, rfl, -⟩ := RowKeep.row_form hL5
    have h5 : Boxed W5 w.heap.size 32 (.slice p5 (gone s.fs G pre).length c5) := (hb5.block _ H0.out.lt).trans H0.out
    have k3 := h5.cell
    have k4 := h5.frozen
    have HE1 : Hid (KeepsFrom W0.heap.size W (W5.setCell ⟨w.heap.size, 0, none⟩ (.slice p6 (back16 s.fs[x.1] (gone s.fs G pre)).length c6))) := Lib.hid (((KeepsOthers.of_grownBy (row := none) ⟨hb5.os, hb5.tape, hb5.output, hb5.size, fun q hq _ => hb5.block q hq⟩ (fun _ _ e => by cases e)).trans (KeepsOthers.setCell _ _ _)).from _)
    have HE2 : Hid (Below w.heap.size W (W5.setCell ⟨w.heap.size, 0, none⟩ (.slice p6 (back16 s.fs[x.1] (gone s.fs G pre)).length c6))) := Lib.hid ((hb5.mono HB.out.size).setCell (p := ⟨w.heap.size, 0, none⟩) (Nat.le_refl _) _)
    have HE3 : Hid (Lst (W5.setCell ⟨w.heap.size, 0, none⟩ (.slice p6 (back16 s.fs[x.1] (gone s.fs G pre)).length c6)) w.heap.size (.slice p6 (back16 s.fs[x.1] (gone s.fs G pre)).length c6) (back16 s.fs[x.1] (gone s.fs G pre))) := Lib.hid ((Step.set_ (F := fun k => k = w.heap.size) W5 rfl 0 _).row hL5 (fun q hq e => row_ne hL5 (show Has W5 w.heap.size _ _ from ⟨h5⟩) (by decide) (by rw [hq, e])))
    have HE4 := Lib.hid (h5.set (.slice p6 (back16 s.fs[x.1] (gone s.fs G pre)).length c6))
    have HE5 : Hid (W.cell? ⟨Bs, 0, none⟩ = some (.slice pr s.fs.length cr) → (W5.setCell ⟨w.heap.size, 0, none⟩ (.slice p6 (back16 s.fs[x.1] (gone s.fs G pre)).length c6)).cell? ⟨Bs, 0, none⟩ = some (.slice pr s.fs.length cr)) := Lib.hid (fun hh => by
      have hlt2 := World.block_lt_of_cell? _ _ hh
      rw [World.cell?_of_block (w := W5) (Below.heap_setCell W5 _ _ Bs (fun e => HNe.out e.symm)), hb5.cell (p := ⟨Bs, 0, none⟩) hlt2]
      exact hh)
    clear hL5 hb5 h5 k1 k2 e2 e3 e5 HK
    gi_wp2
    exact ⟨HE1.out, ⟨HE2.out, HE5.out⟩, ⟨_, HE4.out, by rw [HS.out]; exact HE3.out, trivial⟩, HB.out.trans HE2.out⟩
  case done =>
    rintro D ys W hD rfl ⟨⟨v, h0, hrow5, _⟩, hB⟩ hK
    obtain ⟨p5, c5, rfl, -⟩ := RowKeep.row_form hrow5
    have k1 := h0.cell
    have hBE := hB.trans (belowK_b (w := w) (Nat.le_refl _) W D _ (.deferred none) (Nat.le_trans hb4.size hD) hK rfl rfl)
    have HE : Hid (RespC w (W.putObj D (.deferred none)) (.returned (.slice p5 (gone s.fs G (down xs.length)).length c5)) F g (resp16 s.fs G) s) := Lib.hid
      ⟨_, F, rfl, by rw [← gone_all s.fs hxl G]; exact ownsRow_putObj hrow5 _ hK rfl, fun q hq hF => by have := (hrow5.lt q hq).1; have := HCh.out.lt q hF; omega, HCh.out.step (Step.of_below hBE (fun _ => False)) (fun _ _ h => h), Step.of_below hBE F⟩
    clear b0 b1 hst hrow hne hrow5 h0 hB hBE
    gi_wp2
    refine ⟨by simp, .inl ⟨_, _, rfl, run_takeDeferred hK, ?_⟩⟩
    refine ⟨_, results_tmp rfl _ _ _, ?_⟩
    exact HE.out
  case stop =>
    rintro D c pre W _ _ h _
    exact h.elim
end Go.Proofs.Ytfdpoibmlggfbaa.FiltObj

/- CONTRACTS of the program's package filter: New, Request, Response (pnew16, preq16, presp16). -/
