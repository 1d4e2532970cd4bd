/- Texts of this seat, one behind another: PFwd1, PFwd2, PFwd3, PFwd4, PFwd5, PGetW, PFwd6, FrNames. -/
import Derived.BigQuiet
import Derived.Deep.QuietTactic
import Derived.Deep.RegionHeld3
import Derived.RangeFuncBox
import Derived.Maps.AppendAt
import Derived.Test.YtfdpoibmlggfbaaA2
import Derived.Test.YtfdpoibmlggfbaaA1
/- Layer 16 of the program: what FilterSet says. -/
namespace Go.Proofs.Ytfdpoibmlggfbaa.FiltObj
open Go.ChangeShapes Go.WideShapes Go.ChangeAt Go.RowKit Bytes ConfPure ConfMem FieldsPure Flds FilterPure FiltState FiltKeep BucketPure BucketObj Mem Step
set_option maxRecDepth 20000
set_option linter.unusedVariables false
set_option linter.unusedSimpArgs false
set_option maxHeartbeats 1600000 in
theorem pset_forth (f : Filt) (h1 : f.kind = 1) (base rb b dg : Nat) (now : Int) (method : ByteArray) (size : Int) (bk : B) (d : Int) (fv : Value) (G : List HField) (hG : FewM G) (hle : G.length ≤ 33554432) (W : World)
    (hR : Has W rb 84 (reqA now method fv size)) (hL : Lst W base fv G) (hb : base ≤ W.heap.size) :
    Calls Try.prog 73 #[.agg (cf f), .pointer (some ⟨rb, 0, none⟩)] W (FwdC base f rb b dg now method size bk d G W) := by
  have hV : one16 dv16 f bk d now (toL method) G size = none16 := by unfold one16; rw [h1]; rfl
  have hX : fld16 f G = setF G f.name f.value := by unfold fld16; rw [h1]; rfl
  have h3 : ¬ f.kind = 3 := by omega
  have h7 : ¬ f.kind = 7 := by omega
  have HV := Lib.hid hV
  have HX := Lib.hid hX
  have hF := fl_of hL (by omega)
  have hrb := hR.lt
  obtain ⟨pf, cpf, rfl, -⟩ := RowKeep.row_form hL
  have hb0 := ((Below.refl W.heap.size W).alloc (Nat.le_refl _) (.cells (cf f) 98))
  have hb1 := hb0.alloc hb0.size (.cells zV16 38)
  have hR1 := hR.below hb1 hR.lt
  have hX1 := (Has.new W 98 (cf f)).alloc (.cells zV16 38)
  have hZ1 := Has.new (W.alloc (.cells (cf f) 98)) 38 zV16
  rw [World.size_alloc] at hZ1
  have hF1 := hF.below hb1
  unfold cf at *
  have HB1 := Lib.hid hb1
  have HR1 := Lib.hid hR1
  have HX1 := Lib.hid hX1
  have HZ1 := Lib.hid hZ1
  have HS := Lib.hid (fun w h => PSetW.pset_any (.slice pf G.length cpf) G (ofL f.name) (ofL f.value) (wide_of hG) (by omega) w h)
  rw [toL_ofL, toL_ofL] at HS
  clear hV hX h1 hb0 hb1 hR1 hX1 hZ1 hF hL hG hR
  have HF1 := Lib.hid hF1
  clear hF1
  go_enter Try.func73, Try.ntmps73
  go_wp2_with fail
  have HSZ : Hid (W.heap.size + 2 ≤ ((W.alloc (.cells #[.int .i64 f.kind, .string (ofL f.name), .string (ofL f.value), .int .i64 f.n, .int .i64 f.m, .int .i64 f.k] 98)).alloc (.cells zV16 38)).drew.heap.size) := Lib.hid (by simp)
  generalize hW2 : (W.alloc _).alloc _ = W2 at *
  clear hW2
  have c0 : W2.cell? ⟨rb, 2, none⟩ = some (.slice pf G.length cpf) := HR1.out.cell 2
  have c1 : W2.cell? ⟨W.heap.size, 1, none⟩ = some (.string (ofL f.name)) := HX1.out.cell 1
  have c2 : W2.cell? ⟨W.heap.size, 2, none⟩ = some (.string (ofL f.value)) := HX1.out.cell 2
  go_region_with
    (first
      | (go_at_call 74; refine (HS.out _ (fl_drew HF1.out)).mono ?_; rintro e w3 ⟨v', rfl, hrow, hb3⟩
         obtain ⟨p3, c3, rfl, -⟩ := RowKeep.row_form hrow
         have R3 := HR1.out.drew.below hb3 HR1.out.drew.lt
         have Z3 := HZ1.out.drew.below hb3 HZ1.out.drew.lt
         have B3 := below_chain (HB1.out.drew) hb3
         have y0 := R3.cell 2
         have y1 := R3.free 2))
  all_goals
    clear c0 c1 c2 y0 y1 HX1
    have HE := Lib.hid (fwd_set_end (b := b) (dg := dg) HV.out (show Lst w3 _ _ (fld16 f G) by rw [HX.out]; exact hrow) HSZ.out hb hrb R3 B3 h3 h7)
    have Z4 := Z3.far (p := ⟨rb, 2, none⟩) (by intro e; have e2 : W.heap.size + 1 = rb := e; omega) (.slice p3 (setF G f.name f.value).length c3)
    generalize (w3.setCell _ _) = w4 at *
    clear hrow hb3 R3 Z3 B3 HF1 HR1 HZ1 HB1 HS HX HV
    go_wp2_with (refine store_whole rfl 38 5 pverd_size _ _ rfl (W.heap.size + 1) _ _ Z4 rfl rfl (by simp [Value.oneCell']) rfl rfl ?_)
    refine bodyPost_ret (v := .agg zV16) (results_cell_row rfl _ _ (W.heap.size + 1) 38 _ (0, 0) _ rfl (has_set Z4 zV16).at_ Try.underlying38 rfl (by kernel_rfl)) rfl ?_
    exact HE.out
end Go.Proofs.Ytfdpoibmlggfbaa.FiltObj

/- Layer 16 of the program: what FilterDrop says. -/
namespace Go.Proofs.Ytfdpoibmlggfbaa.FiltObj
open Go.ChangeShapes Go.WideShapes Go.ChangeAt Go.RowKit Bytes ConfPure ConfMem FieldsPure Flds FilterPure FiltState FiltKeep BucketPure BucketObj Mem Step
set_option maxRecDepth 20000
set_option linter.unusedVariables false
set_option linter.unusedSimpArgs false
set_option maxHeartbeats 1600000 in
theorem pdrop_forth (f : Filt) (h1 : f.kind = 2) (base rb b dg : Nat) (now : Int) (method : ByteArray) (size : Int) (bk : B) (d : Int) (fv : Value) (G : List HField) (hG : FewM G) (hle : G.length ≤ 33554432) (W : World)
    (hR : Has W rb 84 (reqA now method fv size)) (hL : Lst W base fv G) (hb : base ≤ W.heap.size) :
    Calls Try.prog 80 #[.agg (cf f), .pointer (some ⟨rb, 0, none⟩)] W (FwdC base f rb b dg now method size bk d G W) := by
  have hV : one16 dv16 f bk d now (toL method) G size = none16 := by unfold one16; rw [h1]; rfl
  have hX : fld16 f G = remove G f.name := by unfold fld16; rw [h1]; rfl
  have h3 : ¬ f.kind = 3 := by omega
  have h7 : ¬ f.kind = 7 := by omega
  have HV := Lib.hid hV
  have HX := Lib.hid hX
  have hF := fl_of hL (by omega)
  have hrb := hR.lt
  obtain ⟨pf, cpf, rfl, -⟩ := RowKeep.row_form hL
  have hb0 := ((Below.refl W.heap.size W).alloc (Nat.le_refl _) (.cells (cf f) 99))
  have hb1 := hb0.alloc hb0.size (.cells zV16 38)
  have hR1 := hR.below hb1 hR.lt
  have hX1 := (Has.new W 99 (cf f)).alloc (.cells zV16 38)
  have hZ1 := Has.new (W.alloc (.cells (cf f) 99)) 38 zV16
  rw [World.size_alloc] at hZ1
  have hF1 := hF.below hb1
  unfold cf at *
  have HB1 := Lib.hid hb1
  have HR1 := Lib.hid hR1
  have HX1 := Lib.hid hX1
  have HZ1 := Lib.hid hZ1
  have HS := Lib.hid (fun w h => PRemoveW.premove_any (.slice pf G.length cpf) G (ofL f.name) (wide_of hG) (by omega) w h)
  rw [toL_ofL] at HS
  clear hV hX h1 hb0 hb1 hR1 hX1 hZ1 hF hL hG hR
  have HF1 := Lib.hid hF1
  clear hF1
  go_enter Try.func80, Try.ntmps80
  go_wp2_with fail
  have HSZ : Hid (W.heap.size + 2 ≤ ((W.alloc (.cells #[.int .i64 f.kind, .string (ofL f.name), .string (ofL f.value), .int .i64 f.n, .int .i64 f.m, .int .i64 f.k] 99)).alloc (.cells zV16 38)).drew.heap.size) := Lib.hid (by simp)
  generalize hW2 : (W.alloc _).alloc _ = W2 at *
  clear hW2
  have c0 : W2.cell? ⟨rb, 2, none⟩ = some (.slice pf G.length cpf) := HR1.out.cell 2
  have c1 : W2.cell? ⟨W.heap.size, 1, none⟩ = some (.string (ofL f.name)) := HX1.out.cell 1
  go_region_with
    (first
      | (go_at_call 75; refine (HS.out _ (fl_drew HF1.out)).mono ?_; rintro e w3 ⟨v', rfl, hrow, hb3⟩
         obtain ⟨p3, c3, rfl, -⟩ := RowKeep.row_form hrow
         have R3 := HR1.out.drew.below hb3 HR1.out.drew.lt
         have Z3 := HZ1.out.drew.below hb3 HZ1.out.drew.lt
         have B3 := below_chain (HB1.out.drew) hb3
         have y0 := R3.cell 2
         have y1 := R3.free 2))
  all_goals
    clear c0 c1 y0 y1 HX1
    have HE := Lib.hid (fwd_set_end (b := b) (dg := dg) HV.out (show Lst w3 _ _ (fld16 f G) by rw [HX.out]; exact hrow) HSZ.out hb hrb R3 B3 h3 h7)
    have Z4 := Z3.far (p := ⟨rb, 2, none⟩) (by intro e; have e2 : W.heap.size + 1 = rb := e; omega) (.slice p3 (remove G f.name).length c3)
    generalize (w3.setCell _ _) = w4 at *
    clear hrow hb3 R3 Z3 B3 HF1 HR1 HZ1 HB1 HS HX HV
    go_wp2_with (refine store_whole rfl 38 5 pverd_size _ _ rfl (W.heap.size + 1) _ _ Z4 rfl rfl (by simp [Value.oneCell']) rfl rfl ?_)
    refine bodyPost_ret (v := .agg zV16) (results_cell_row rfl _ _ (W.heap.size + 1) 38 _ (0, 0) _ rfl (has_set Z4 zV16).at_ Try.underlying38 rfl (by kernel_rfl)) rfl ?_
    exact HE.out
end Go.Proofs.Ytfdpoibmlggfbaa.FiltObj

/- Layer 16 of the program: what FilterBody says. -/
namespace Go.Proofs.Ytfdpoibmlggfbaa.FiltObj
open Go.ChangeShapes Go.WideShapes Go.ChangeAt Go.RowKit Bytes ConfPure ConfMem FieldsPure Flds FilterPure FiltState FiltKeep BucketPure BucketObj Mem Step
set_option maxRecDepth 20000
set_option linter.unusedVariables false
set_option linter.unusedSimpArgs false
set_option maxHeartbeats 3200000 in
theorem pbody_forth (f : Filt) (h1 : f.kind = 6) (base rb b dg : Nat) (now : Int) (method : ByteArray) (size : Int) (bk : B) (d : Int) (fv : Value) (G : List HField) (hG : FewM G) (hle : G.length ≤ 33554432) (W : World)
    (hR : Has W rb 84 (reqA now method fv size)) (hL : Lst W base fv G) (hb : base ≤ W.heap.size) :
    Calls Try.prog 92 #[.agg #[.int .i64 f.kind, .string (ofL f.name), .string (ofL f.value), .int .i64 f.n, .int .i64 f.m, .int .i64 f.k], .pointer (some ⟨rb, 0, none⟩)] W (FwdC base f rb b dg now method size bk d G W) := by
  have HX : Hid (fld16 f G = G) := Lib.hid (by unfold fld16; rw [h1]; rfl)
  have h3 : ¬ f.kind = 3 := by omega
  have h7 : ¬ f.kind = 7 := by omega
  have hF := fl_of hL (by omega)
  have hrb := hR.lt
  obtain ⟨pf, cpf, rfl, -⟩ := RowKeep.row_form hL
  have hb0 := ((Below.refl W.heap.size W).alloc (Nat.le_refl _) (.cells #[.int .i64 f.kind, .string (ofL f.name), .string (ofL f.value), .int .i64 f.n, .int .i64 f.m, .int .i64 f.k] 107))
  have hb1 := hb0.alloc hb0.size (.cells zV16 38)
  have hZ1 := Has.new (W.alloc (.cells #[.int .i64 f.kind, .string (ofL f.name), .string (ofL f.value), .int .i64 f.n, .int .i64 f.m, .int .i64 f.k] 107)) 38 zV16
  rw [World.size_alloc] at hZ1
  have HB1 := Lib.hid hb1
  have HR1 := Lib.hid (hR.below hb1 hR.lt)
  have HX1 := Lib.hid ((Has.new W 107 #[.int .i64 f.kind, .string (ofL f.name), .string (ofL f.value), .int .i64 f.n, .int .i64 f.m, .int .i64 f.k]).alloc (.cells zV16 38))
  have HZ1 := Lib.hid hZ1
  have HF1 := Lib.hid (hF.below hb1)
  have HL1 := Lib.hid (RowKeep.row_below hL hb1)
  have HSZ : Hid (((W.alloc (.cells #[.int .i64 f.kind, .string (ofL f.name), .string (ofL f.value), .int .i64 f.n, .int .i64 f.m, .int .i64 f.k] 107)).alloc (.cells zV16 38)).heap.size = W.heap.size + 2) := Lib.hid (by simp)
  have HY := Lib.hid (fun w => preply f 413 ⟨#[116, 111, 111, 32, 109, 117, 99, 104]⟩ none 0 0 w)
  unfold cf at HY
  have H1 := Lib.hid h1
  clear hb0 hb1 hZ1 hF hL hR h1
  go_enter Try.func92, Try.ntmps92
  go_wp2_with fail
  generalize hW2 : (W.alloc _).alloc _ = W2 at *
  clear hW2
  have c0 : W2.cell? ⟨rb, 3, none⟩ = some (.int .i64 size) := HR1.out.cell 3
  have c1 : W2.cell? ⟨W.heap.size, 3, none⟩ = some (.int .i64 f.n) := HX1.out.cell 3
  go_quiet (fail)
  have HR2 := Lib.hid (HR1.out.drewN nq)
  have HX2 := Lib.hid (HX1.out.drewN nq)
  have HZ2 := Lib.hid (HZ1.out.drewN nq)
  have HB2 : Hid (Below W.heap.size W (W2.drewN nq)) := Lib.hid ⟨HB1.out.os, HB1.out.tape, HB1.out.output, HB1.out.size, HB1.out.block⟩
  have HL2 : Hid (Lst (W2.drewN nq) base (.slice pf G.length cpf) G) := HL1
  have HSZ2 : Hid ((W2.drewN nq).heap.size = W.heap.size + 2) := HSZ
  clear c0 c1 HR1 HX1 HZ1 HB1 HL1 HF1 HSZ
  generalize W2.drewN nq = W3 at *
  by_cases hc : f.n < size
  · have hV : one16 dv16 f bk d now (toL method) G size = say16 413 [] TOOMUCH := by unfold one16; rw [H1.out, if_neg (by decide), if_neg (by decide), if_neg (by decide), if_pos rfl, if_pos hc]
    have HV := Lib.hid hV
    clear hV
    have k0 : W3.cell? ⟨W.heap.size, 0, none⟩ = some (.int .i64 f.kind) := HX2.out.cell 0
    have k1 : W3.cell? ⟨W.heap.size, 1, none⟩ = some (.string (ofL f.name)) := HX2.out.cell 1
    have k2 : W3.cell? ⟨W.heap.size, 2, none⟩ = some (.string (ofL f.value)) := HX2.out.cell 2
    have k3 : W3.cell? ⟨W.heap.size, 3, none⟩ = some (.int .i64 f.n) := HX2.out.cell 3
    have k4 : W3.cell? ⟨W.heap.size, 4, none⟩ = some (.int .i64 f.m) := HX2.out.cell 4
    have k5 : W3.cell? ⟨W.heap.size, 5, none⟩ = some (.int .i64 f.k) := HX2.out.cell 5
    go_wp2_with fail
    refine (HY.out _).mono ?_
    rintro e w4 ⟨rfl, hb4⟩
    have Z4 := HZ2.out.below hb4 HZ2.out.lt
    have HE := Lib.hid (fwd_stop (b := b) (dg := dg) (rb := rb) (W := W) HV.out (lst_nil _ base) (step_new (Step.of_below (below_chain HB2.out hb4) _) (r := W.heap.size + 1) #[.bool true, .int .i64 413, .slice none 0 0, .string ⟨#[116, 111, 111, 32, 109, 117, 99, 104]⟩, .slice none 0 0] (by omega)) (fun e => absurd e h3) (fun e => absurd e h7))
    clear hb4 k0 k1 k2 k3 k4 k5 HV HX2 HR2 HZ2 HB2 HL2
    go_wp2_with (refine store_whole rfl 38 5 pverd_size _ _ rfl (W.heap.size + 1) _ _ Z4 rfl rfl (by simp [Value.oneCell']) rfl rfl ?_)
    refine bodyPost_ret (v := .agg #[.bool true, .int .i64 413, .slice none 0 0, .string ⟨#[116, 111, 111, 32, 109, 117, 99, 104]⟩, .slice none 0 0]) (results_cell_row rfl _ _ (W.heap.size + 1) 38 _ (0, 0) _ rfl (has_set Z4 _).at_ Try.underlying38 rfl (by kernel_rfl)) rfl ?_
    exact HE.out
  · have hV : one16 dv16 f bk d now (toL method) G size = none16 := by unfold one16; rw [H1.out, if_neg (by decide), if_neg (by decide), if_neg (by decide), if_pos rfl, if_neg hc]
    have HV := Lib.hid hV
    clear hV
    have Z4 := HZ2.out
    have HE := Lib.hid (fwd_none (b := b) (dg := dg) (W := W) HV.out (has_other HR2.out zV16 (show rb ≠ W.heap.size + 1 by omega)) (show Lst _ base (.slice pf G.length cpf) (fld16 f G) by rw [HX.out]; exact (step_set (F := fun k => k = W.heap.size + 1) zV16 rfl).row HL2.out (fun q hq e => row_ne HL2.out HZ2.out (by decide) (by rw [hq, e]))) (step_new (Step.of_below HB2.out _) _ (by omega)) (fun e => absurd e h3) (fun e => absurd e h7))
    clear HV HX2 HR2 HZ2 HB2 HL2
    go_wp2_with (refine store_whole rfl 38 5 pverd_size _ _ rfl (W.heap.size + 1) _ _ Z4 rfl rfl (by simp [Value.oneCell']) rfl rfl ?_)
    refine bodyPost_ret (v := .agg zV16) (results_cell_row rfl _ _ (W.heap.size + 1) 38 _ (0, 0) _ rfl (has_set Z4 _).at_ Try.underlying38 rfl (by kernel_rfl)) rfl ?_
    exact HE.out
end Go.Proofs.Ytfdpoibmlggfbaa.FiltObj

/- Layer 16 of the program: what FilterLimit says. -/
namespace Go.Proofs.Ytfdpoibmlggfbaa.FiltObj
open Go.ChangeShapes Go.WideShapes Go.ChangeAt Go.RowKit Bytes ConfPure ConfMem FieldsPure Flds FilterPure FiltState FiltKeep BucketPure BucketObj Mem Step
set_option maxRecDepth 20000
set_option linter.unusedVariables false
set_option linter.unusedSimpArgs false
set_option maxHeartbeats 3200000 in
theorem plimit_forth (f : Filt) (h1 : f.kind = 3) (base rb b dg : Nat) (now : Int) (method : ByteArray) (size : Int) (bk : B) (d : Int) (fv : Value) (G : List HField) (hG : FewM G) (hle : G.length ≤ 33554432) (W : World)
    (hR : Has W rb 84 (reqA now method fv size)) (hL : Lst W base fv G) (hb : base ≤ W.heap.size) (hB : Bk W b 124 bk) (okb : Ok bk) (hn1 : bk.told ≤ now) (hn2 : now ≤ 1099511627776) :
    Calls Try.prog 82 #[.agg #[.int .i64 f.kind, .string (ofL f.name), .string (ofL f.value), .int .i64 f.n, .int .i64 f.m, .int .i64 f.k, .pointer (some ⟨b, 0, none⟩)], .pointer (some ⟨rb, 0, none⟩)] W (FwdC base f rb b dg now method size bk d G W) := by
  have HX : Hid (fld16 f G = G) := Lib.hid (by unfold fld16; rw [h1]; rfl)
  have h7 : ¬ f.kind = 7 := by omega
  have hF := fl_of hL (by omega)
  have hrb := hR.lt
  obtain ⟨pf, cpf, rfl, -⟩ := RowKeep.row_form hL
  have hb0 := ((Below.refl W.heap.size W).alloc (Nat.le_refl _) (.cells #[.int .i64 f.kind, .string (ofL f.name), .string (ofL f.value), .int .i64 f.n, .int .i64 f.m, .int .i64 f.k, .pointer (some ⟨b, 0, none⟩)] 104))
  have hb1 := hb0.alloc hb0.size (.cells zV16 38)
  have hZ1 := Has.new (W.alloc (.cells #[.int .i64 f.kind, .string (ofL f.name), .string (ofL f.value), .int .i64 f.n, .int .i64 f.m, .int .i64 f.k, .pointer (some ⟨b, 0, none⟩)] 104)) 38 zV16
  rw [World.size_alloc] at hZ1
  have HB1 := Lib.hid hb1
  have HR1 := Lib.hid (hR.below hb1 hR.lt)
  have HX1 := Lib.hid ((Has.new W 104 #[.int .i64 f.kind, .string (ofL f.name), .string (ofL f.value), .int .i64 f.n, .int .i64 f.m, .int .i64 f.k, .pointer (some ⟨b, 0, none⟩)]).alloc (.cells zV16 38))
  have HZ1 := Lib.hid hZ1
  have HF1 := Lib.hid (hF.below hb1)
  have HL1 := Lib.hid (RowKeep.row_below hL hb1)
  have HK1 := Lib.hid (show Bk _ b 124 bk from Has.below hB hb1 hB.lt)
  have hne : b ≠ rb := Has.ne_ hB hR (by decide)
  have hbl : b < W.heap.size := hB.lt
  have HSZ : Hid (((W.alloc (.cells #[.int .i64 f.kind, .string (ofL f.name), .string (ofL f.value), .int .i64 f.n, .int .i64 f.m, .int .i64 f.k, .pointer (some ⟨b, 0, none⟩)] 104)).alloc (.cells zV16 38)).heap.size = W.heap.size + 2) := Lib.hid (by simp)
  have HY := Lib.hid (fun w => preply f 429 ⟨#[115, 108, 111, 119, 32, 100, 111, 119, 110]⟩ none 0 0 w)
  unfold cf at HY
  have hlt : ¬ late bk now := by unfold late; omega
  have hT1 : BucketOps.takeR bk now 1 = can (BucketPure.pass bk now) 1 := by unfold BucketOps.takeR; rw [if_neg hlt]
  have hT2 : BucketOps.takeB bk now 1 = bkt16 f bk now := by unfold BucketOps.takeB bkt16; rw [if_neg hlt, if_pos h1]
  have HT := Lib.hid (fun w h => BucketOps.take_any b bk now 1 okb w h)
  rw [hT1, hT2] at HT
  clear hT1 hT2 hlt okb hn1 hn2 hB
  have H1 := Lib.hid h1
  clear hb0 hb1 hZ1 hF hL hR h1
  go_enter Try.func82, Try.ntmps82
  go_wp2_with fail
  generalize hW2 : (W.alloc _).alloc _ = W2 at *
  clear hW2
  have c0 : W2.cell? ⟨W.heap.size, 6, none⟩ = some (.pointer (some ⟨b, 0, none⟩)) := HX1.out.cell 6
  have c1 : W2.cell? ⟨rb, 0, none⟩ = some (.int .i64 now) := HR1.out.cell 0
  go_wp2_with fail
  go_region_held3 (fun w' => w'.cell? ⟨W.heap.size, 6, none⟩ = some (.pointer (some ⟨b, 0, none⟩)) ∧ w'.cell? ⟨rb, 0, none⟩ = some (.int .i64 now)) (first | exact s1 | go_keep)
    (first
      | (go_at_call 83; refine (HT.out _ HK1.out.drew).mono ?_; rintro e w3 ⟨rfl, K3, hg⟩
         have R3 := HR1.out.drew.grown hg (by intro e; injection e with e; omega)
         have X3 := HX1.out.drew.grown hg (by intro e; injection e with e; omega)
         have Z3 := HZ1.out.drew.grown hg (by intro e; injection e with e; omega)
         have s1 : w3.cell? ⟨W.heap.size, 6, none⟩ = some (.pointer (some ⟨b, 0, none⟩)) ∧ w3.cell? ⟨rb, 0, none⟩ = some (.int .i64 now) := ⟨X3.cell 6, R3.cell 0⟩))
  have S3 : Step W w3 (Tn f rb b dg) (Tn f rb b dg) := ((Step.of_below HB1.out _).trans (Step.drew _ _)).trans (Step.of_grown hg (fun k e => by injection e with e; exact .inr (.inl ⟨H1.out, e.symm⟩)))
  have L3 : Lst w3 base (.slice pf G.length cpf) G := (Step.of_grown (F := fun k => k = b) hg (fun k e => by injection e with e; exact e.symm)).row HL1.out (fun q hq e => row_ne HL1.out HK1.out (by decide) (by rw [hq, e]))
  have hsz : W.heap.size + 2 ≤ w3.heap.size := by have := hg.size; have h2 : W2.drew.heap.size = W.heap.size + 2 := HSZ.out; omega
  have HR3 := Lib.hid R3
  have HX3 := Lib.hid X3
  have HZ3 := Lib.hid Z3
  have HS3 := Lib.hid S3
  have HL3 := Lib.hid L3
  have HK3 := Lib.hid K3
  obtain ⟨B2, hB2⟩ : ∃ B2, Hid (B2 = bkt16 f bk now) := ⟨_, Lib.hid rfl⟩
  rw [← hB2.out] at HK3
  obtain ⟨c, hc⟩ : ∃ c, Hid (c = can (BucketPure.pass bk now) 1) := ⟨_, Lib.hid rfl⟩
  rw [← hc.out]
  clear s1 R3 X3 Z3 S3 L3 K3 hg c0 c1 HR1 HX1 HZ1 HB1 HF1 HK1 HT HL1
  cases c
  · have hV : one16 dv16 f bk d now (toL method) G size = say16 429 [] SLOW := by unfold one16; rw [H1.out, if_pos rfl, if_neg (by rw [← hc.out]; decide)]
    have HV := Lib.hid hV
    clear hV
    have k0 : w3.cell? ⟨W.heap.size, 0, none⟩ = some (.int .i64 f.kind) := HX3.out.cell 0
    have k1 : w3.cell? ⟨W.heap.size, 1, none⟩ = some (.string (ofL f.name)) := HX3.out.cell 1
    have k2 : w3.cell? ⟨W.heap.size, 2, none⟩ = some (.string (ofL f.value)) := HX3.out.cell 2
    have k3 : w3.cell? ⟨W.heap.size, 3, none⟩ = some (.int .i64 f.n) := HX3.out.cell 3
    have k4 : w3.cell? ⟨W.heap.size, 4, none⟩ = some (.int .i64 f.m) := HX3.out.cell 4
    have k5 : w3.cell? ⟨W.heap.size, 5, none⟩ = some (.int .i64 f.k) := HX3.out.cell 5
    go_wp2_with fail
    refine (HY.out _).mono ?_
    rintro e w4 ⟨rfl, hb4⟩
    have Z4 := HZ3.out.below hb4 HZ3.out.lt
    have HE := Lib.hid (fwd_stop (b := b) (dg := dg) (rb := rb) (W := W) HV.out (lst_nil _ base) (step_new (HS3.out.trans (Step.of_below hb4 _)) (r := W.heap.size + 1) #[.bool true, .int .i64 429, .slice none 0 0, .string ⟨#[115, 108, 111, 119, 32, 100, 111, 119, 110]⟩, .slice none 0 0] (by omega)) (fun _ => by rw [← hB2.out]; exact has_other (HK3.out.below hb4 HK3.out.lt) _ (by omega)) (fun e => absurd e h7))
    clear hb4 k0 k1 k2 k3 k4 k5 HV HX3 HR3 HZ3 HS3 HL3 HK3
    go_wp2_with (refine store_whole rfl 38 5 pverd_size _ _ rfl (W.heap.size + 1) _ _ Z4 rfl rfl (by simp [Value.oneCell']) rfl rfl ?_)
    refine bodyPost_ret (v := .agg #[.bool true, .int .i64 429, .slice none 0 0, .string ⟨#[115, 108, 111, 119, 32, 100, 111, 119, 110]⟩, .slice none 0 0]) (results_cell_row rfl _ _ (W.heap.size + 1) 38 _ (0, 0) _ rfl (has_set Z4 _).at_ Try.underlying38 rfl (by kernel_rfl)) rfl ?_
    exact HE.out
  · have hV : one16 dv16 f bk d now (toL method) G size = none16 := by unfold one16; rw [H1.out, if_pos rfl, if_pos hc.out.symm]
    have HV := Lib.hid hV
    clear hV
    have Z4 := HZ3.out
    have HE := Lib.hid (fwd_none (b := b) (dg := dg) (W := W) HV.out (has_other HR3.out zV16 (show rb ≠ W.heap.size + 1 by omega)) (show Lst _ base (.slice pf G.length cpf) (fld16 f G) by rw [HX.out]; exact (step_set (F := fun k => k = W.heap.size + 1) zV16 rfl).row HL3.out (fun q hq e => row_ne HL3.out HZ3.out (by decide) (by rw [hq, e]))) (step_new HS3.out _ (by omega)) (fun _ => by rw [← hB2.out]; exact has_other HK3.out _ (by omega)) (fun e => absurd e h7))
    clear HV HX3 HR3 HZ3 HS3 HL3 HK3
    go_wp2_with (refine store_whole rfl 38 5 pverd_size _ _ rfl (W.heap.size + 1) _ _ Z4 rfl rfl (by simp [Value.oneCell']) rfl rfl ?_)
    refine bodyPost_ret (v := .agg zV16) (results_cell_row rfl _ _ (W.heap.size + 1) 38 _ (0, 0) _ rfl (has_set Z4 _).at_ Try.underlying38 rfl (by kernel_rfl)) rfl ?_
    exact HE.out
end Go.Proofs.Ytfdpoibmlggfbaa.FiltObj

/- Layer 16 of the program: what FilterFault says. -/
namespace Go.Proofs.Ytfdpoibmlggfbaa.FiltObj
open Go.ChangeShapes Go.WideShapes Go.ChangeAt Go.RowKit Bytes ConfPure ConfMem FieldsPure Flds FilterPure FiltState FiltKeep BucketPure BucketObj Mem Step
set_option maxRecDepth 20000
set_option linter.unusedVariables false
set_option linter.unusedSimpArgs false
set_option maxHeartbeats 3200000 in
theorem pfault_forth (f : Filt) (h1 : f.kind = 7) (base rb b dg : Nat) (now : Int) (method : ByteArray) (size : Int) (bk : B) (d : Int) (fv : Value) (G : List HField) (hG : FewM G) (hle : G.length ≤ 33554432) (W : World)
    (hR : Has W rb 84 (reqA now method fv size)) (hL : Lst W base fv G) (hb : base ≤ W.heap.size) (hD : ∃ dk, Has W dg 94 #[.int .u64 d, .int .i64 dk]) :
    Calls Try.prog 93 #[.agg #[.int .i64 f.kind, .string (ofL f.name), .string (ofL f.value), .int .i64 f.n, .int .i64 f.m, .int .i64 f.k, .pointer (some ⟨dg, 0, none⟩)], .pointer (some ⟨rb, 0, none⟩)] W (FwdC base f rb b dg now method size bk d G W) := by
  have HX : Hid (fld16 f G = G) := Lib.hid (by unfold fld16; rw [h1]; rfl)
  have h3 : ¬ f.kind = 3 := by omega
  have hF := fl_of hL (by omega)
  have hrb := hR.lt
  obtain ⟨pf, cpf, rfl, -⟩ := RowKeep.row_form hL
  have hb0 := ((Below.refl W.heap.size W).alloc (Nat.le_refl _) (.cells #[.int .i64 f.kind, .string (ofL f.name), .string (ofL f.value), .int .i64 f.n, .int .i64 f.m, .int .i64 f.k, .pointer (some ⟨dg, 0, none⟩)] 109))
  have hb1 := hb0.alloc hb0.size (.cells zV16 38)
  have hZ1 := Has.new (W.alloc (.cells #[.int .i64 f.kind, .string (ofL f.name), .string (ofL f.value), .int .i64 f.n, .int .i64 f.m, .int .i64 f.k, .pointer (some ⟨dg, 0, none⟩)] 109)) 38 zV16
  rw [World.size_alloc] at hZ1
  have HB1 := Lib.hid hb1
  have HR1 := Lib.hid (hR.below hb1 hR.lt)
  have HX1 := Lib.hid ((Has.new W 109 #[.int .i64 f.kind, .string (ofL f.name), .string (ofL f.value), .int .i64 f.n, .int .i64 f.m, .int .i64 f.k, .pointer (some ⟨dg, 0, none⟩)]).alloc (.cells zV16 38))
  have HZ1 := Lib.hid hZ1
  have HF1 := Lib.hid (hF.below hb1)
  have HL1 := Lib.hid (RowKeep.row_below hL hb1)
  obtain ⟨dk, hD⟩ := hD
  have HK1 := Lib.hid (hD.below hb1 hD.lt)
  have hne : dg ≠ rb := Has.ne_ hD hR (by decide)
  have hbl : dg < W.heap.size := hD.lt
  have HSZ : Hid (((W.alloc (.cells #[.int .i64 f.kind, .string (ofL f.name), .string (ofL f.value), .int .i64 f.n, .int .i64 f.m, .int .i64 f.k, .pointer (some ⟨dg, 0, none⟩)] 109)).alloc (.cells zV16 38)).heap.size = W.heap.size + 2) := Lib.hid (by simp)
  have HY := Lib.hid (fun w => preply f f.m ⟨#[102, 97, 117, 108, 116]⟩ none 0 0 w)
  unfold cf at HY
  have HT := Lib.hid (fun w h => DiceObj.below_any dg d dk 100 (by decide) w h)
  clear hD
  have H1 := Lib.hid h1
  clear hb0 hb1 hZ1 hF hL hR h1
  go_enter Try.func93, Try.ntmps93
  go_wp2_with fail
  generalize hW2 : (W.alloc _).alloc _ = W2 at *
  clear hW2
  have c0 : W2.cell? ⟨W.heap.size, 6, none⟩ = some (.pointer (some ⟨dg, 0, none⟩)) := HX1.out.cell 6
  have c1 : W2.cell? ⟨W.heap.size, 3, none⟩ = some (.int .i64 f.n) := HX1.out.cell 3
  obtain ⟨dv, hdv⟩ : ∃ dv, Hid (dv = DiceObj.belowI d 100) := ⟨_, Lib.hid rfl⟩
  rw [← hdv.out] at HT
  by_cases hc : dv < f.n
  all_goals
    go_region_held3 (fun w' => w'.cell? ⟨W.heap.size, 6, none⟩ = some (.pointer (some ⟨dg, 0, none⟩)) ∧ w'.cell? ⟨W.heap.size, 3, none⟩ = some (.int .i64 f.n)) (first | exact s1 | go_keep)
      (first
        | (go_at_call 94; refine (HT.out _ HK1.out.drew).mono ?_; rintro e w3 ⟨rfl, K3, hg⟩
           have R3 := HR1.out.drew.grown hg (by intro e; injection e with e; omega)
           have X3 := HX1.out.drew.grown hg (by intro e; injection e with e; omega)
           have Z3 := HZ1.out.drew.grown hg (by intro e; injection e with e; omega)
           have s1 : w3.cell? ⟨W.heap.size, 6, none⟩ = some (.pointer (some ⟨dg, 0, none⟩)) ∧ w3.cell? ⟨W.heap.size, 3, none⟩ = some (.int .i64 f.n) := ⟨X3.cell 6, X3.cell 3⟩))
    have S3 : Step W w3 (Tn f rb b dg) (Tn f rb b dg) := ((Step.of_below HB1.out _).trans (Step.drew _ _)).trans (Step.of_grown hg (fun k e => by injection e with e; exact .inr (.inr ⟨H1.out, e.symm⟩)))
    have L3 : Lst w3 base (.slice pf G.length cpf) G := (Step.of_grown (F := fun k => k = dg) hg (fun k e => by injection e with e; exact e.symm)).row HL1.out (fun q hq e => row_ne HL1.out HK1.out (by decide) (by rw [hq, e]))
    have hsz : W.heap.size + 2 ≤ w3.heap.size := by have := hg.size; have h2 : W2.drew.heap.size = W.heap.size + 2 := HSZ.out; omega
    have hdn : dce16 dn16 f d = DiceObj.bS d 100 := by unfold dce16; rw [H1.out]; rfl
    have K4 : ∃ dk, Has w3 dg 94 #[.int .u64 (dce16 dn16 f d), .int .i64 dk] := ⟨_, by rw [hdn]; exact K3⟩
    have HR3 := Lib.hid R3
    have HX3 := Lib.hid X3
    have HZ3 := Lib.hid Z3
    have HS3 := Lib.hid S3
    have HL3 := Lib.hid L3
    have HK3 := Lib.hid K4
    clear s1 R3 X3 Z3 S3 L3 K3 K4 hg c0 c1 HR1 HX1 HZ1 HB1 HF1 HK1 HT HL1 hdn
  · have hV : one16 dv16 f bk d now (toL method) G size = say16 f.m [] FAULT := by unfold one16; rw [H1.out, if_neg (by decide), if_neg (by decide), if_neg (by decide), if_neg (by decide), if_pos rfl, if_pos (by unfold dv16; rw [← hdv.out]; omega)]
    have HV := Lib.hid hV
    clear hV
    have k0 : w3.cell? ⟨W.heap.size, 0, none⟩ = some (.int .i64 f.kind) := HX3.out.cell 0
    have k1 : w3.cell? ⟨W.heap.size, 1, none⟩ = some (.string (ofL f.name)) := HX3.out.cell 1
    have k2 : w3.cell? ⟨W.heap.size, 2, none⟩ = some (.string (ofL f.value)) := HX3.out.cell 2
    have k3 : w3.cell? ⟨W.heap.size, 3, none⟩ = some (.int .i64 f.n) := HX3.out.cell 3
    have k4 : w3.cell? ⟨W.heap.size, 4, none⟩ = some (.int .i64 f.m) := HX3.out.cell 4
    have k5 : w3.cell? ⟨W.heap.size, 5, none⟩ = some (.int .i64 f.k) := HX3.out.cell 5
    go_wp2_with fail
    refine (HY.out _).mono ?_
    rintro e w4 ⟨rfl, hb4⟩
    have Z4 := HZ3.out.below hb4 HZ3.out.lt
    have HE := Lib.hid (fwd_stop (b := b) (dg := dg) (rb := rb) (W := W) HV.out (lst_nil _ base) (step_new (HS3.out.trans (Step.of_below hb4 _)) (r := W.heap.size + 1) #[.bool true, .int .i64 f.m, .slice none 0 0, .string ⟨#[102, 97, 117, 108, 116]⟩, .slice none 0 0] (by omega)) (fun e => absurd e h3) (fun _ => HK3.out.imp (fun dk h => has_other (h.below hb4 h.lt) _ (by omega))))
    clear hb4 k0 k1 k2 k3 k4 k5 HV HX3 HR3 HZ3 HS3 HL3 HK3
    go_wp2_with (refine store_whole rfl 38 5 pverd_size _ _ rfl (W.heap.size + 1) _ _ Z4 rfl rfl (by simp [Value.oneCell']) rfl rfl ?_)
    refine bodyPost_ret (v := .agg #[.bool true, .int .i64 f.m, .slice none 0 0, .string ⟨#[102, 97, 117, 108, 116]⟩, .slice none 0 0]) (results_cell_row rfl _ _ (W.heap.size + 1) 38 _ (0, 0) _ rfl (has_set Z4 _).at_ Try.underlying38 rfl (by kernel_rfl)) rfl ?_
    exact HE.out
  · have hV : one16 dv16 f bk d now (toL method) G size = none16 := by unfold one16; rw [H1.out, if_neg (by decide), if_neg (by decide), if_neg (by decide), if_neg (by decide), if_pos rfl, if_neg (by unfold dv16; rw [← hdv.out]; omega)]
    have HV := Lib.hid hV
    clear hV
    have Z4 := HZ3.out
    have HE := Lib.hid (fwd_none (b := b) (dg := dg) (W := W) HV.out (has_other HR3.out zV16 (show rb ≠ W.heap.size + 1 by omega)) (show Lst _ base (.slice pf G.length cpf) (fld16 f G) by rw [HX.out]; exact (step_set (F := fun k => k = W.heap.size + 1) zV16 rfl).row HL3.out (fun q hq e => row_ne HL3.out HZ3.out (by decide) (by rw [hq, e]))) (step_new HS3.out _ (by omega)) (fun e => absurd e h3) (fun _ => HK3.out.imp (fun dk h => has_other h _ (by omega))))
    clear HV HX3 HR3 HZ3 HS3 HL3 HK3
    go_wp2_with (refine store_whole rfl 38 5 pverd_size _ _ rfl (W.heap.size + 1) _ _ Z4 rfl rfl (by simp [Value.oneCell']) rfl rfl ?_)
    refine bodyPost_ret (v := .agg zV16) (results_cell_row rfl _ _ (W.heap.size + 1) 38 _ (0, 0) _ rfl (has_set Z4 _).at_ Try.underlying38 rfl (by kernel_rfl)) rfl ?_
    exact HE.out
end Go.Proofs.Ytfdpoibmlggfbaa.FiltObj

/- Layer 7 of the program, for lists of any size: Get. -/
namespace Go.Proofs.Ytfdpoibmlggfbaa.PGetW
open Go.ChangeShapes Go.WideShapes Go.ChangeAt Go.RowKit LexPure Bytes Ret FieldsPure Flds R7Get PAlike PValsW Mem Go.Shelf
set_option maxRecDepth 100000
attribute [local go_sem] Oper.semAt_some
def firstV : List V → List UInt8
  | [] => []
  | x :: _ => x.1
theorem firstV_snoc (pre : List V) (x : V) : firstV (pre ++ [x]) = if pre.length = 0 then x.1 else firstV pre := by
  cases pre with
  | nil => rfl
  | cons => rfl
theorem vs_first (G : List HField) (hG : ∀ f ∈ G, f.2.length ≤ 9223372036854775807) (n : List UInt8) : firstV (vs G n) = getV G n ∧ (vs G n).length = getN G n := by
  induction G with
  | nil => exact ⟨rfl, rfl⟩
  | cons f G ih =>
    obtain ⟨h1, h2⟩ := ih (fun g hg => hG g (List.mem_cons_of_mem _ hg))
    rw [show f :: G = [f] ++ G from rfl, vs_append, vs_one, List.singleton_append, getV_cons, getN_cons]
    cases h : hit n f
    · simp only [Bool.false_eq_true, if_false, List.nil_append]
      exact ⟨h1, h2⟩
    · simp only [if_true, List.singleton_append, List.length_cons]
      exact ⟨clamp_val (hG f List.mem_cons_self), by rw [h2]⟩
theorem wide_all {G : List HField} (h : Wide G) : ∀ f ∈ G, f.1.length ≤ 9223372036854775807 ∧ f.2.length ≤ 9223372036854775807 := fun f hf => by
  obtain ⟨j, hj, rfl⟩ := List.mem_iff_getElem.1 hf
  exact h j hj
set_option maxHeartbeats 3200000 in
theorem pget_any (v : Value) (G : List HField) (nm : ByteArray) (hG : Wide G) (w : World) (hF : FL w v G) :
    Calls Try.prog 87 #[v, .string nm] w fun e w' => e = .returned (.tuple #[.string (ofL (getV G (toL nm))), .int .i64 (getN G (toL nm))]) ∧ Below w.heap.size w w' := by
  obtain ⟨hv1, hv2⟩ := vs_first G (fun f hf => (wide_all hG f hf).2) (toL nm)
  obtain ⟨p, cap, hvv, hle, _⟩ := id hF
  subst hvv
  have HF := Lib.hid hF
  have HG := Lib.hid hG
  have HV := Lib.hid hv1
  have HN := Lib.hid hv2
  clear hF hG hv1 hv2
  refine (callsIn_wide (n := 3)).1 ?_
  refine callsIn_of_wp_marks Try.func87 rfl trivial ?_ rfl
  simp only [Try.ntmps87, List.size_toArray, List.length_cons, List.length_nil, Nat.reduceAdd, Nat.reduceSub, Array.replicate_succ, Array.replicate_zero, List.push_toArray, List.append_toArray, List.nil_append, List.cons_append]
  gi_wp2_with fail
  refine ⟨trivial, ?_⟩
  refine (callsIn_wide.2 (pvalues_any _ _ _ nm _)).mono ?_
  rintro e w' ⟨rfl, rfl⟩
  gi_wp2
  have b0 := (((Boxed.new w 9 (.string ⟨#[]⟩)).alloc (.cells #[.int .i64 0] 3)).alloc (.cells #[.slice p G.length cap] 32)).alloc (.cells #[.string nm] 9)
  have b1 := ((Boxed.new (w.alloc (.cells #[.string ⟨#[]⟩] 9)) 3 (.int .i64 0)).alloc (.cells #[.slice p G.length cap] 32)).alloc (.cells #[.string nm] 9)
  have b2 := (Boxed.new ((w.alloc (.cells #[.string ⟨#[]⟩] 9)).alloc (.cells #[.int .i64 0] 3)) 32 (.slice p G.length cap)).alloc (.cells #[.string nm] 9)
  have b3 := Boxed.new (((w.alloc (.cells #[.string ⟨#[]⟩] 9)).alloc (.cells #[.int .i64 0] 3)).alloc (.cells #[.slice p G.length cap] 32)) 9 (.string nm)
  have hB0 : Below w.heap.size w ((((w.alloc (.cells #[.string ⟨#[]⟩] 9)).alloc (.cells #[.int .i64 0] 3)).alloc (.cells #[.slice p G.length cap] 32)).alloc (.cells #[.string nm] 9)) :=
    ((((Below.refl _ w).alloc (Nat.le_refl _) _).alloc (by simp) _).alloc (by simp; omega) _).alloc (by simp; omega) _
  have hsz : ((((w.alloc (.cells #[.string ⟨#[]⟩] 9)).alloc (.cells #[.int .i64 0] 3)).alloc (.cells #[.slice p G.length cap] 32)).alloc (.cells #[.string nm] 9)).heap.size = w.heap.size + 1 + 1 + 1 + 1 := by simp
  simp only [World.size_alloc] at b1 b2 b3
  generalize ((((w.alloc (.cells #[.string ⟨#[]⟩] 9)).alloc (.cells #[.int .i64 0] 3)).alloc (.cells #[.slice p G.length cap] 32)).alloc (.cells #[.string nm] 9)) = W0 at *
  have hU := (FL.under HF.out).below hB0
  clear HF
  refine wpIn_rangeFunc_ownG rfl (by omega) (gf := 89) (lb := #[.pointer (some ⟨w.heap.size + 1 + 1, 0, none⟩), .pointer (some ⟨w.heap.size + 1 + 1 + 1, 0, none⟩)]) rfl trivial (enters_of Try.func89 (by kernel_rfl) rfl)
    (vals_stops (3 - 1) (w.heap.size + 1 + 1) (w.heap.size + 1 + 1 + 1) w.heap.size G HG.out nm (.slice p G.length cap) W0 b2.lt (by omega) b2.cell b3.cell hU) kp_t (kp_b (by omega) b3.lt) (Below.refl _ _) (fun _ => rfl)
    (fun pre W => Boxed W w.heap.size 9 (.string (ofL (firstV pre))) ∧ Boxed W (w.heap.size + 1) 3 (.int .i64 (pre.length : Nat)) ∧ Boxed W (w.heap.size + 1 + 1 + 1) 9 (.string nm) ∧ Below w.heap.size w W)
    (fun _ _ _ => False)
    (OwnFrom.and (Own.from (boxed_own _ _ _) _) (OwnFrom.and (Own.from (boxed_own _ _ (fun pre : List V => Value.int .i64 (pre.length : Nat))) _) (OwnFrom.and (Own.from (boxed_own _ _ (fun _ => Value.string nm)) _) (ownFrom_below (Nat.le_refl _) (by omega)))))
    (fun _ _ _ _ _ hs _ _ => hs)
    ⟨b0, b1, b3, hB0⟩
    (fun x => { tmps := #[.slice p G.length cap, .string nm, undef, undef, .string ⟨#[]⟩, .int .i64 0, .pointer (some ⟨w.heap.size, 0, none⟩), .pointer (some ⟨w.heap.size + 1, 0, none⟩), .string (ofL x.1), .slice p G.length cap, .string nm, .func (.func 89) #[] #[.pointer (some ⟨w.heap.size + 1 + 1, 0, none⟩), .pointer (some ⟨w.heap.size + 1 + 1 + 1, 0, none⟩)], .string (ofL x.1), undef, undef, undef, undef, undef, undef, undef], defers := [] }) ?assign ?body ?done ?stop
  case assign =>
    intro l x W K hK
    dsimp only [encV]
    gi_wp2
    exact hK
  case body =>
    rintro l pre x W ⟨h0, h1, h3, hB⟩ hlt
    have c0 := h0.cell
    have f0 := h0.frozen
    have c1 := h1.cell
    have f1 := h1.frozen
    have hfs := firstV_snoc pre x
    have hls : ((pre ++ [x]).length : Int) = (pre.length : Int) + 1 := by simp
    have hk : ∀ u : Value, KeepsFrom W0.heap.size W ((W.setCell ⟨w.heap.size, 0, none⟩ (.string (ofL x.1))).setCell ⟨w.heap.size + 1, 0, none⟩ u) ∧ Below w.heap.size W ((W.setCell ⟨w.heap.size, 0, none⟩ (.string (ofL x.1))).setCell ⟨w.heap.size + 1, 0, none⟩ u) := fun u =>
      ⟨((KeepsOthers.setCell _ _ _).trans (KeepsOthers.setCell _ _ _)).from _, ((Below.refl w.heap.size W).setCell (p := ⟨w.heap.size, 0, none⟩) (Nat.le_refl _) _).setCell (p := ⟨w.heap.size + 1, 0, none⟩) (by simp) _⟩
    have hk2 : ∀ u : Value, KeepsFrom W0.heap.size W (W.setCell ⟨w.heap.size + 1, 0, none⟩ u) ∧ Below w.heap.size W (W.setCell ⟨w.heap.size + 1, 0, none⟩ u) := fun u =>
      ⟨(KeepsOthers.setCell _ _ _).from _, (Below.refl w.heap.size W).setCell (p := ⟨w.heap.size + 1, 0, none⟩) (by simp) _⟩
    clear b0 b1 b2 b3 hU HG HV HN
    by_cases hz : pre.length = 0
    · rw [if_pos hz] at hfs
      have hz2 : (pre.length : Int) = 0 := by omega
      rw [hz2] at c1 hls
      clear hz2
      gi_wp2
      obtain ⟨k1, k2⟩ := hk (.int .i64 1)
      refine ⟨k1, ⟨k2, fun _ => ((h3.other (by omega) _).other (by omega) _).cell⟩, ?_, ?_, (h3.other (by omega) _).other (by omega) _, hB.trans k2⟩
      · rw [hfs]
        exact (h0.set _).other (by omega) _
      · rw [hls]
        exact (h1.other (by omega) _).set _
    · rw [if_neg hz] at hfs
      have hlt2 : (pre.length : Int) < 4398046511104 := by omega
      have hpos : (0 : Int) < (pre.length : Int) := by omega
      have hne : ((pre.length : Int) == 0) = false := beq_eq_false_iff_ne.2 (by omega)
      replace hls := Lib.hid hls
      replace hfs := Lib.hid hfs
      replace h1 := Lib.hid h1
      clear hz hlt
      generalize hm : (pre.length : Int) = m at *
      replace hm := Lib.hid hm
      gi_wp2
      obtain ⟨k1, k2⟩ := hk2 (.int .i64 (m + 1))
      refine ⟨k1, ⟨k2, fun _ => (h3.other (by omega) _).cell⟩, ?_, ?_, h3.other (by omega) _, hB.trans k2⟩
      · rw [hfs.out]
        exact h0.other (by omega) _
      · rw [hls.out]
        exact h1.out.set _
  case done =>
    rintro D ys W hD rfl ⟨h0, h1, h3, hB⟩ hK
    have c0 := h0.cell
    have c1 := h1.cell
    clear b0 b1 b2 b3 hU
    gi_wp2
    gi_quiet (fail)
    gi_wp2
    have hBd : Below w.heap.size w (W.drewN nq) := ⟨hB.os, hB.tape, hB.output, hB.size, hB.block⟩
    refine ⟨by simp, .inl ⟨_, _, rfl, run_takeDeferred (w := W.drewN nq) hK, ?_⟩⟩
    refine ⟨_, results_tmp2 rfl _ _ _, ?_, hBd.trans (belowK_b (w := w) (Nat.le_refl _) (W.drewN nq) D _ _ (by omega) hK rfl rfl)⟩
    rw [← HV.out, ← HN.out]
    rfl
  case stop =>
    rintro D c pre W _ _ h _
    exact h.elim
end Go.Proofs.Ytfdpoibmlggfbaa.PGetW

/- Layer 16 of the program: what FilterToken says. -/
namespace Go.Proofs.Ytfdpoibmlggfbaa.FiltObj
open Go.ChangeShapes Go.WideShapes Go.ChangeAt Go.RowKit Bytes ConfPure ConfMem FieldsPure Flds FilterPure FiltState FiltKeep BucketPure BucketObj Mem Step
set_option maxRecDepth 20000
set_option linter.unusedVariables false
set_option linter.unusedSimpArgs false
set_option maxHeartbeats 3200000 in
theorem ptoken_forth (f : Filt) (h1 : f.kind = 4) (base rb b dg : Nat) (now : Int) (method : ByteArray) (size : Int) (bk : B) (d : Int) (fv : Value) (G : List HField) (hG : FewM G) (hle : G.length ≤ 33554432) (W : World)
    (hR : Has W rb 84 (reqA now method fv size)) (hL : Lst W base fv G) (hb : base ≤ W.heap.size) :
    Calls Try.prog 86 #[.agg #[.int .i64 f.kind, .string (ofL f.name), .string (ofL f.value), .int .i64 f.n, .int .i64 f.m, .int .i64 f.k], .pointer (some ⟨rb, 0, none⟩)] W (FwdC base f rb b dg now method size bk d G W) := by
  have HX : Hid (fld16 f G = remove G f.name) := Lib.hid (by unfold fld16; rw [h1]; rfl)
  have h3 : ¬ f.kind = 3 := by omega
  have h7 : ¬ f.kind = 7 := by omega
  have hF := fl_of hL (by omega)
  have hrb := hR.lt
  obtain ⟨pf, cpf, rfl, -⟩ := RowKeep.row_form hL
  have hb0 := ((Below.refl W.heap.size W).alloc (Nat.le_refl _) (.cells #[.int .i64 f.kind, .string (ofL f.name), .string (ofL f.value), .int .i64 f.n, .int .i64 f.m, .int .i64 f.k] 105))
  have hb1 := hb0.alloc hb0.size (.cells zV16 38)
  have hZ1 := Has.new (W.alloc (.cells #[.int .i64 f.kind, .string (ofL f.name), .string (ofL f.value), .int .i64 f.n, .int .i64 f.m, .int .i64 f.k] 105)) 38 zV16
  rw [World.size_alloc] at hZ1
  have HB1 := Lib.hid hb1
  have HR1 := Lib.hid (hR.below hb1 hR.lt)
  have HX1 := Lib.hid ((Has.new W 105 #[.int .i64 f.kind, .string (ofL f.name), .string (ofL f.value), .int .i64 f.n, .int .i64 f.m, .int .i64 f.k]).alloc (.cells zV16 38))
  have HZ1 := Lib.hid hZ1
  have HF1 := Lib.hid (hF.below hb1)
  have HL1 := Lib.hid (RowKeep.row_below hL hb1)
  have HSZ : Hid (((W.alloc (.cells #[.int .i64 f.kind, .string (ofL f.name), .string (ofL f.value), .int .i64 f.n, .int .i64 f.m, .int .i64 f.k] 105)).alloc (.cells zV16 38)).heap.size = W.heap.size + 2) := Lib.hid (by simp)
  have HY := Lib.hid (fun n w => preply f 401 ⟨#[110, 111, 32, 101, 110, 116, 114, 121]⟩ (some ⟨n, 0, none⟩) 1 1 w)
  unfold cf at HY
  have HG := Lib.hid (fun w h => PGetW.pget_any (.slice pf G.length cpf) G (ofL f.name) (wide_of hG) w h)
  rw [toL_ofL] at HG
  have HS := Lib.hid (fun w h => PRemoveW.premove_any (.slice pf G.length cpf) G (ofL f.name) (wide_of hG) (by omega) w h)
  rw [toL_ofL] at HS
  obtain ⟨n1, hn1⟩ : ∃ n, n = getN G f.name := ⟨_, rfl⟩
  obtain ⟨v1, hv1⟩ : ∃ v, v = getV G f.name := ⟨_, rfl⟩
  rw [← hn1, ← hv1] at HG
  have HN := Lib.hid hn1
  have HW := Lib.hid hv1
  clear hn1 hv1 hG
  have H1 := Lib.hid h1
  clear hb0 hb1 hZ1 hF hL hR h1
  go_enter Try.func86, Try.ntmps86
  go_wp2_with fail
  generalize hW2 : (W.alloc _).alloc _ = W2 at *
  clear hW2
  have c0 : W2.cell? ⟨rb, 2, none⟩ = some (.slice pf G.length cpf) := HR1.out.cell 2
  have c1 : W2.cell? ⟨W.heap.size, 1, none⟩ = some (.string (ofL f.name)) := HX1.out.cell 1
  go_region_held3 (fun w' => w'.cell? ⟨rb, 2, none⟩ = some (.slice pf G.length cpf) ∧ w'.cell? ⟨W.heap.size, 1, none⟩ = some (.string (ofL f.name))) (first | exact s1 | go_keep)
    (first
      | (go_at_call 87; refine (HG.out _ (fl_drew HF1.out)).mono ?_; rintro e w3 ⟨rfl, hb3⟩
         have R3 := HR1.out.drew.below hb3 HR1.out.drew.lt
         have X3 := HX1.out.drew.below hb3 HX1.out.drew.lt
         have s1 : w3.cell? ⟨rb, 2, none⟩ = some (.slice pf G.length cpf) ∧ w3.cell? ⟨W.heap.size, 1, none⟩ = some (.string (ofL f.name)) := ⟨R3.cell 2, X3.cell 1⟩))
  have HR3 := Lib.hid R3
  have HX3 := Lib.hid X3
  have HZ3 := Lib.hid (HZ1.out.drew.below hb3 HZ1.out.drew.lt)
  have HB3 := Lib.hid (below_chain (HB1.out.drew) hb3)
  have HF3 := Lib.hid ((fl_drew HF1.out).below hb3)
  have hsz : W.heap.size + 2 ≤ w3.heap.size := by have := hb3.size; have h2 : W2.drew.heap.size = W.heap.size + 2 := HSZ.out; omega
  clear s1 R3 X3 hb3 c0 c1 HR1 HX1 HZ1 HB1 HF1 HL1 HG
  have hx : (((n1 : Int) == 1) = true ∧ ((ofL v1).toList == (ofL f.value).toList) = true ∧ Hid (one16 dv16 f bk d now (toL method) G size = none16)) ∨
      ((((n1 : Int) == 1) = false ∨ (((n1 : Int) == 1) = true ∧ ((ofL v1).toList == (ofL f.value).toList) = false)) ∧ Hid (one16 dv16 f bk d now (toL method) G size = say16 401 [(WWW, TOKENW)] NOENTRY)) := by
    have e1 : ((ofL v1).toList == (ofL f.value).toList) = decide (v1 = f.value) := by
      rw [ByteArray.toList_eq, ByteArray.toList_eq, Bool.eq_iff_iff, beq_iff_eq, decide_eq_true_eq]; rfl
    by_cases q1 : n1 = 1
    · by_cases q2 : v1 = f.value
      · refine .inl ⟨by rw [q1]; rfl, by rw [e1]; exact decide_eq_true q2, Lib.hid ?_⟩
        unfold one16; rw [H1.out, if_neg (by decide), if_pos rfl, if_pos ⟨by rw [← HN.out]; exact q1, by rw [← HW.out]; exact q2⟩]
      · refine .inr ⟨.inr ⟨by rw [q1]; rfl, by rw [e1]; exact decide_eq_false q2⟩, Lib.hid ?_⟩
        unfold one16; rw [H1.out, if_neg (by decide), if_pos rfl, if_neg (fun h => q2 (by rw [HW.out]; exact h.2))]
    · refine .inr ⟨.inl (by rw [beq_eq_false_iff_ne]; omega), Lib.hid ?_⟩
      unfold one16; rw [H1.out, if_neg (by decide), if_pos rfl, if_neg (fun h => q1 (by rw [HN.out]; exact h.1))]
  rcases hx with ⟨t1, t2, HV⟩ | ⟨ht, HV⟩
  · have t3 : ((n1 : Int) != 1) = false := by unfold bne; rw [t1]; rfl
    have t4 : ((ofL v1).toList != (ofL f.value).toList) = false := by unfold bne; rw [t2]; rfl
    have d2 : w3.cell? ⟨W.heap.size, 2, none⟩ = some (.string (ofL f.value)) := HX3.out.cell 2
    go_wp2_with fail
    have c0 : w3.cell? ⟨rb, 2, none⟩ = some (.slice pf G.length cpf) := HR3.out.cell 2
    have c1 : w3.cell? ⟨W.heap.size, 1, none⟩ = some (.string (ofL f.name)) := HX3.out.cell 1
    clear t1 t2 t3 t4 d2
    go_region_with
      (first
        | (go_at_call 75; refine (HS.out _ (fl_drew HF3.out)).mono ?_; rintro e w4 ⟨v', rfl, hrow, hb4⟩
           obtain ⟨p3, c3, rfl, -⟩ := RowKeep.row_form hrow
           have R4 := HR3.out.drew.below hb4 HR3.out.drew.lt
           have Z4 := HZ3.out.drew.below hb4 HZ3.out.drew.lt
           have B4 := below_chain (HB3.out.drew) hb4
           have y0 := R4.cell 2
           have y1 := R4.free 2))
    all_goals
      clear c0 c1 y0 y1 HX3
      have HE := Lib.hid (fwd_set_end (b := b) (dg := dg) HV.out (show Lst w4 _ _ (fld16 f G) by rw [HX.out]; exact hrow) hsz hb hrb R4 B4 h3 h7)
      have Z5 := Z4.far (p := ⟨rb, 2, none⟩) (by intro e; have e2 : W.heap.size + 1 = rb := e; omega) (.slice p3 (remove G f.name).length c3)
      generalize (w4.setCell _ _) = w5 at *
      clear hrow hb4 R4 Z4 B4 HF3 HR3 HZ3 HB3 HS HX HV
      go_wp2_with (refine store_whole rfl 38 5 pverd_size _ _ rfl (W.heap.size + 1) _ _ Z5 rfl rfl (by simp [Value.oneCell']) rfl rfl ?_)
      refine bodyPost_ret (v := .agg zV16) (results_cell_row rfl _ _ (W.heap.size + 1) 38 _ (0, 0) _ rfl (has_set Z5 _).at_ Try.underlying38 rfl (by kernel_rfl)) rfl ?_
      exact HE.out
  · rcases ht with t1 | ⟨t1, t2⟩
    · have t3 : ((n1 : Int) != 1) = true := by unfold bne; rw [t1]; rfl
      have k0 : w3.cell? ⟨W.heap.size, 0, none⟩ = some (.int .i64 f.kind) := HX3.out.cell 0
      have k1 : w3.cell? ⟨W.heap.size, 1, none⟩ = some (.string (ofL f.name)) := HX3.out.cell 1
      have k2 : w3.cell? ⟨W.heap.size, 2, none⟩ = some (.string (ofL f.value)) := HX3.out.cell 2
      have k3 : w3.cell? ⟨W.heap.size, 3, none⟩ = some (.int .i64 f.n) := HX3.out.cell 3
      have k4 : w3.cell? ⟨W.heap.size, 4, none⟩ = some (.int .i64 f.m) := HX3.out.cell 4
      have k5 : w3.cell? ⟨W.heap.size, 5, none⟩ = some (.int .i64 f.k) := HX3.out.cell 5
      go_wp2_with fail
      refine (HY.out _ _).mono ?_
      rintro e w4 ⟨rfl, hb4⟩
      have hb3 := (Below.refl w3.heap.size w3).alloc (Nat.le_refl _) (.cells #[.string ⟨#[87, 87, 87, 45, 65, 117, 116, 104, 101, 110, 116, 105, 99, 97, 116, 101]⟩, .string ⟨#[84, 111, 107, 101, 110]⟩] 54)
      have Z4 := (HZ3.out.below hb3 HZ3.out.lt).below hb4 (HZ3.out.below hb3 HZ3.out.lt).lt
      have HL4 : Lst (w3.alloc (.cells #[.string ⟨#[87, 87, 87, 45, 65, 117, 116, 104, 101, 110, 116, 105, 99, 97, 116, 101]⟩, .string ⟨#[84, 111, 107, 101, 110]⟩] 54)) base (.slice (some ⟨w3.heap.size, 0, none⟩) 1 1) [(WWW, TOKENW)] := lst_new [(WWW, TOKENW)] (by decide) _ rfl (by omega)
      have HL5 := RowKeep.row_below HL4 hb4
      have HE := Lib.hid (fwd_stop (b := b) (dg := dg) (rb := rb) (W := W) (W' := w4.setRow (W.heap.size + 1) #[.bool true, .int .i64 401, .slice (some ⟨w3.heap.size, 0, none⟩) 1 1, .string ⟨#[110, 111, 32, 101, 110, 116, 114, 121]⟩, .slice none 0 0]) HV.out ((step_set (F := fun k => k = W.heap.size + 1) _ rfl).row HL5 (fun q hq e => by injection hq with hq; have hq2 : w3.heap.size = q := hq; omega)) (step_new (Step.of_below (below_chain (below_chain HB3.out hb3) hb4) _) _ (by omega)) (fun e => absurd e h3) (fun e => absurd e h7))
      clear hb3 hb4 k0 k1 k2 k3 k4 k5 HV HX3 HR3 HZ3 HB3 HL4 HL5 HF3
      go_wp2_with (refine store_whole rfl 38 5 pverd_size _ _ rfl (W.heap.size + 1) _ _ Z4 rfl rfl (by simp [Value.oneCell']) rfl rfl ?_)
      refine bodyPost_ret (v := .agg #[.bool true, .int .i64 401, .slice (some ⟨w3.heap.size, 0, none⟩) 1 1, .string ⟨#[110, 111, 32, 101, 110, 116, 114, 121]⟩, .slice none 0 0]) (results_cell_row rfl _ _ (W.heap.size + 1) 38 _ (0, 0) _ rfl (has_set Z4 _).at_ Try.underlying38 rfl (by kernel_rfl)) rfl ?_
      exact HE.out
    · have t3 : ((n1 : Int) != 1) = false := by unfold bne; rw [t1]; rfl
      have t4 : ((ofL v1).toList != (ofL f.value).toList) = true := by unfold bne; rw [t2]; rfl
      have d2 : w3.cell? ⟨W.heap.size, 2, none⟩ = some (.string (ofL f.value)) := HX3.out.cell 2
      have k0 : w3.cell? ⟨W.heap.size, 0, none⟩ = some (.int .i64 f.kind) := HX3.out.cell 0
      have k1 : w3.cell? ⟨W.heap.size, 1, none⟩ = some (.string (ofL f.name)) := HX3.out.cell 1
      have k2 : w3.cell? ⟨W.heap.size, 2, none⟩ = some (.string (ofL f.value)) := HX3.out.cell 2
      have k3 : w3.cell? ⟨W.heap.size, 3, none⟩ = some (.int .i64 f.n) := HX3.out.cell 3
      have k4 : w3.cell? ⟨W.heap.size, 4, none⟩ = some (.int .i64 f.m) := HX3.out.cell 4
      have k5 : w3.cell? ⟨W.heap.size, 5, none⟩ = some (.int .i64 f.k) := HX3.out.cell 5
      go_wp2_with fail
      refine (HY.out _ _).mono ?_
      rintro e w4 ⟨rfl, hb4⟩
      have hb3 := (Below.refl w3.heap.size w3).alloc (Nat.le_refl _) (.cells #[.string ⟨#[87, 87, 87, 45, 65, 117, 116, 104, 101, 110, 116, 105, 99, 97, 116, 101]⟩, .string ⟨#[84, 111, 107, 101, 110]⟩] 54)
      have Z4 := (HZ3.out.below hb3 HZ3.out.lt).below hb4 (HZ3.out.below hb3 HZ3.out.lt).lt
      have HL4 : Lst (w3.alloc (.cells #[.string ⟨#[87, 87, 87, 45, 65, 117, 116, 104, 101, 110, 116, 105, 99, 97, 116, 101]⟩, .string ⟨#[84, 111, 107, 101, 110]⟩] 54)) base (.slice (some ⟨w3.heap.size, 0, none⟩) 1 1) [(WWW, TOKENW)] := lst_new [(WWW, TOKENW)] (by decide) _ rfl (by omega)
      have HL5 := RowKeep.row_below HL4 hb4
      have HE := Lib.hid (fwd_stop (b := b) (dg := dg) (rb := rb) (W := W) (W' := w4.setRow (W.heap.size + 1) #[.bool true, .int .i64 401, .slice (some ⟨w3.heap.size, 0, none⟩) 1 1, .string ⟨#[110, 111, 32, 101, 110, 116, 114, 121]⟩, .slice none 0 0]) HV.out ((step_set (F := fun k => k = W.heap.size + 1) _ rfl).row HL5 (fun q hq e => by injection hq with hq; have hq2 : w3.heap.size = q := hq; omega)) (step_new (Step.of_below (below_chain (below_chain HB3.out hb3) hb4) _) _ (by omega)) (fun e => absurd e h3) (fun e => absurd e h7))
      clear hb3 hb4 k0 k1 k2 k3 k4 k5 HV HX3 HR3 HZ3 HB3 HL4 HL5 HF3
      go_wp2_with (refine store_whole rfl 38 5 pverd_size _ _ rfl (W.heap.size + 1) _ _ Z4 rfl rfl (by simp [Value.oneCell']) rfl rfl ?_)
      refine bodyPost_ret (v := .agg #[.bool true, .int .i64 401, .slice (some ⟨w3.heap.size, 0, none⟩) 1 1, .string ⟨#[110, 111, 32, 101, 110, 116, 114, 121]⟩, .slice none 0 0]) (results_cell_row rfl _ _ (W.heap.size + 1) 38 _ (0, 0) _ rfl (has_set Z4 _).at_ Try.underlying38 rfl (by kernel_rfl)) rfl ?_
      exact HE.out
end Go.Proofs.Ytfdpoibmlggfbaa.FiltObj

/- Layer 9 of the program: a name with capitals hits what it hits in small letters. -/
namespace Go.Proofs.Ytfdpoibmlggfbaa.FrNames
open Bytes LexPure FieldsPure FramePure
set_option maxRecDepth 20000
def aTENC : List UInt8 := [84, 114, 97, 110, 115, 102, 101, 114, 45, 69, 110, 99, 111, 100, 105, 110, 103]
def aCLEN : List UInt8 := [67, 111, 110, 116, 101, 110, 116, 45, 76, 101, 110, 103, 116, 104]
def aCONN : List UInt8 := [67, 111, 110, 110, 101, 99, 116, 105, 111, 110]
theorem hit_same {a b : List UInt8} (h : lower a = lower b) : hit a = hit b := by
  funext f
  unfold hit alike
  rw [h]
theorem getN_same {a b : List UInt8} (h : lower a = lower b) (G : List HField) : getN G a = getN G b := by
  unfold getN
  rw [hit_same h]
theorem elems_same {a b : List UInt8} (h : lower a = lower b) (G : List HField) : elems G a = elems G b := by
  unfold elems
  rw [hit_same h]
theorem hasE_same {a b : List UInt8} (h : lower a = lower b) (G : List HField) (e : List UInt8) : hasE G a e = hasE G b e := by
  unfold hasE
  rw [elems_same h]
theorem low_t : lower aTENC = lower TENC := by decide
theorem low_l : lower aCLEN = lower CLEN := by decide
theorem low_c : lower aCONN = lower CONNECTION := by decide
end Go.Proofs.Ytfdpoibmlggfbaa.FrNames
