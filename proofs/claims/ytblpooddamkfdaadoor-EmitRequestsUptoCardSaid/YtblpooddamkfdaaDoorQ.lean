/- Texts of this seat, one behind another: EmitRequestsW. -/
import Derived.Deep.RegionHeld3
import Derived.Test.YtblpooddamkfdaaDoorB
import Derived.Test.YtblpooddamkfdaaDoorE
/- Every request is written as the document says, and its fields stay as they were: EmitRequests returns true, for an argument of bulk at most 1048576. -/
namespace Go.Proofs.YtblpooddamkfdaaDoor.EmitRequestsW
open Go.ChangeShapes Go.WideShapes Go.ChangeAt Go.RowKit Bytes LexPure FieldsPure EmitPure Flds Mem PEmJoin PLib FRow KeptRow PEmReq L13Base
set_option maxRecDepth 100000
set_option linter.unusedVariables false
set_option linter.unusedSimpArgs false
abbrev AT : TypeId := 24
/-- the law's two boxes -/
structure Bo (w : World) (g1 g2 : Nat) (a : AskP) (l1 l2 : Value) (wr : World) : Prop where
  b1 : Has wr g1 AT (acells a l1)
  b2 : Has wr g2 AT (acells a l2)
  f1 : FL wr l1 a.fields
  f2 : FL wr l2 a.fields
  below : Below w.heap.size w wr
theorem Bo.call {w : World} {g1 g2 : Nat} {a : AskP} {l1 l2 : Value} {wr w1 : World} (h : Bo w g1 g2 a l1 l2 wr) (hb : Below wr.heap.size wr w1) : Bo w g1 g2 a l1 l2 w1 :=
  ⟨h.b1.below hb h.b1.lt, h.b2.below hb h.b2.lt, h.f1.below hb, h.f2.below hb, below_chain h.below hb⟩
theorem Bo.drew {w : World} {g1 g2 : Nat} {a : AskP} {l1 l2 : Value} {wr : World} (h : Bo w g1 g2 a l1 l2 wr) : Bo w g1 g2 a l1 l2 wr.drew := ⟨h.b1.drew, h.b2.drew, h.f1.drewN 1, h.f2.drewN 1, ⟨h.below.os, h.below.tape, h.below.output, h.below.size, h.below.block⟩⟩
/-- an Ask's cells -/
def Cs (wr : World) (g : Nat) (a : AskP) (l : Value) : Prop := wr.cell? ⟨g, 0, none⟩ = some (.string (ofL a.method)) ∧ wr.cell? ⟨g, 1, none⟩ = some (.string (ofL a.target)) ∧ wr.cell? ⟨g, 2, none⟩ = some (.string (ofL a.host)) ∧
    wr.cell? ⟨g, 3, none⟩ = some (.int .i64 a.port) ∧ wr.cell? ⟨g, 4, none⟩ = some l ∧ wr.cell? ⟨g, 5, none⟩ = some (.string (ofL a.body)) ∧ wr.cell? ⟨g, 6, none⟩ = some (.bool a.sized) ∧
    wr.cell? ⟨g, 7, none⟩ = some (.string (ofL a.from_)) ∧ wr.cell? ⟨g, 8, none⟩ = some (.string (ofL a.up))
theorem cs_of {wr : World} {g : Nat} {a : AskP} {l : Value} (h : Has wr g AT (acells a l)) : Cs wr g a l := ⟨h.cell 0, h.cell 1, h.cell 2, h.cell 3, h.cell 4, h.cell 5, h.cell 6, h.cell 7, h.cell 8⟩
theorem fit_ref {a : AskP} (h : PEmReq.Fit a) : R13Req.Fit a := ⟨h.fields, h.len, h.method, h.target, h.host, h.body, h.from_, h.up, h.p0, h.p1⟩
set_option maxHeartbeats 6400000 in
theorem walkIn (a : AskP) (vl : Value) (hA : PEmReq.Fit a) (hy : Nice vl a.fields.length) (w : World) (hF : FL w vl a.fields) (hm : MaxInt w) (hp : Pow w) :
    Calls Tryd.prog 3 #[.agg (acells a vl)] w fun e w' => e = .returned (.bool true) ∧ Below w.heap.size w w' := by
  obtain ⟨pl, cl, rfl, _, _⟩ := id hF
  have hle := hA.len
  obtain ⟨W1, hW1⟩ : ∃ W1, W1 = w.alloc (.cells #[.string (ofL a.method), .string (ofL a.target), .string (ofL a.host), .int .i64 a.port, .slice pl a.fields.length cl, .string (ofL a.body), .bool a.sized, .string (ofL a.from_), .string (ofL a.up)] AT) := ⟨_, rfl⟩
  have hb1 : Below w.heap.size w W1 := by rw [hW1]; exact (Below.refl _ w).alloc (Nat.le_refl _) _
  have HB1 : Hid (Has W1 w.heap.size AT (acells a (.slice pl a.fields.length cl))) := Lib.hid (by rw [hW1]; exact Has.new w AT _)
  have HAn := Lib.hid (anchor_any W1 (hm.below hb1) (hp.below hb1))
  have HM := Lib.hid hm
  have HP := Lib.hid hp
  have HF := Lib.hid hF
  have HBw := Lib.hid hb1
  have HA := Lib.hid hA
  have HY := Lib.hid hy
  have HW := Lib.hid hW1
  clear hm hp hF hb1 hA hy hW1
  unfold acells
  go_enter Tryd.func3, Tryd.ntmps3
  iterate 12 go_step
  rw [← HW.out]
  clear HW
  go_wp2_with fail
  refine HAn.out.mono ?_
  rintro e w2 ⟨rfl, hb2⟩
  have h1 := HB1.out.below hb2 HB1.out.lt
  have hb3 := below_chain HBw.out hb2
  have HF2 := Lib.hid (HF.out.below hb3)
  have HB2 := Lib.hid h1
  have HBw2 := Lib.hid hb3
  have hc := cs_of h1
  obtain ⟨c0, c1, c2, c3, c4, c5, c6, c7, c8⟩ := hc
  obtain ⟨W3, hW3⟩ : ∃ W3, W3 = w2.alloc (.cells #[.string (ofL a.method), .string (ofL a.target), .string (ofL a.host), .int .i64 a.port, .slice pl a.fields.length cl, .string (ofL a.body), .bool a.sized, .string (ofL a.from_), .string (ofL a.up)] AT) := ⟨_, rfl⟩
  have hal : Below w2.heap.size w2 W3 := by rw [hW3]; exact (Below.refl _ w2).alloc (Nat.le_refl _) _
  have hlt3 : w2.heap.size < W3.heap.size := by rw [hW3]; simp
  have h2 : Has W3 w2.heap.size AT (acells a (.slice pl a.fields.length cl)) := by rw [hW3]; exact Has.new w2 AT _
  have x4 : (w2.alloc (.cells #[.string (ofL a.method), .string (ofL a.target), .string (ofL a.host), .int .i64 a.port, .slice pl a.fields.length cl, .string (ofL a.body), .bool a.sized, .string (ofL a.from_), .string (ofL a.up)] AT)).cell? ⟨w.heap.size, 4, none⟩ = some (.slice pl a.fields.length cl) := by
    rw [← hW3]
    exact (hal.cell (p := ⟨w.heap.size, 4, none⟩) HB2.out.lt).trans c4
  have HCp := copied_any (.slice pl a.fields.length cl) a.fields (by omega) HY.out W3 (HF2.out.below hal)
  have HB3 := Lib.hid (HB2.out.below hal HB2.out.lt)
  have HF3 := Lib.hid (HF2.out.below hal)
  have HBw3 := Lib.hid (below_chain HBw2.out hal)
  have H2 := Lib.hid h2
  have HL := Lib.hid hlt3
  rw [hW3] at HCp
  have HC := Lib.hid HCp
  have HW3 := Lib.hid hW3
  have HG := Lib.hid HB2.out.lt
  clear hal h2 hlt3 HCp hW3 HB2 HF2 HBw2
  go_wp2_with fail
  refine HC.out.mono ?_
  rintro e w4 ⟨v2, rfl, hrow, hb4⟩
  rw [← HW3.out] at hrow hb4
  have k2 := H2.out.below hb4 H2.out.lt
  have d4 := k2.cell 4
  have z4 := k2.free 4
  have hfl := fl_of hrow (by omega)
  obtain ⟨p2, cap2, rfl, _, _⟩ := hfl
  have HQ : Hid (Bo w w.heap.size w2.heap.size a (.slice pl a.fields.length cl) (.slice p2 a.fields.length cap2) (w4.setCell ⟨w2.heap.size, 4, none⟩ (.slice p2 a.fields.length cap2))) := Lib.hid (by
    have hb34 := below_chain HBw3.out hb4
    have hg := HG.out
    have hbs := hb34.setCell (p := ⟨w2.heap.size, 4, none⟩) (Nat.le_of_lt hg) (.slice p2 a.fields.length cap2)
    exact ⟨(HB3.out.below hb4 HB3.out.lt).far (p := ⟨w2.heap.size, 4, none⟩) (Nat.ne_of_lt hg) _, k2.set_ 4 _, HF.out.below hbs, fl_of (ownsRow_setCell_below hrow (a := ⟨w2.heap.size, 4, none⟩) HL.out _) (by omega), hbs⟩)
  clear hb4 hrow k2 HC HB3 HF3 HBw3 H2 HL HW3 x4 HF c0 c1 c2 c3 c4 c5 c6 c7 c8
  go_wp2_with fail
  generalize w4.setCell ⟨w2.heap.size, 4, none⟩ (.slice p2 a.fields.length cap2) = W5 at HQ ⊢
  generalize w2.heap.size = g2 at HQ d4 z4 ⊢
  have P1 := HQ.out.drew
  have c1 := And.intro (cs_of P1.b1) (cs_of P1.b2)
  have sm : (a.fields == a.fields) = true := beq_self_eq_true _
  unfold Cs at c1
  simp only [and_assoc] at c1
  clear HQ d4 z4 HY HG
  have U1 := Lib.hid (fun w' m p h => PEmReq.request_any a (.slice p2 a.fields.length cap2) HA.out w' m p h)
  have U2 := Lib.hid (fun w' h => L13Plain.plain_ask_any a (.slice pl a.fields.length cl) (W0 := w') (G0 := a.fields) h w')
  have U3 := Lib.hid (fun w' h => R13Req.request_any a (.slice pl a.fields.length cl) (fit_ref HA.out) w' h)
  have U4 := Lib.hid (fun w' h1 h2 => R7Same.r7same_any (.slice p2 a.fields.length cap2) (.slice pl a.fields.length cl) a.fields a.fields w' h1 h2)
  unfold acells at U1 U2
  unfold R13Req.dcells at U3
  generalize ofL (requestE a) = RES at U1 U3
  go_region_held3 (fun w' => w'.cell? ⟨w.heap.size, 0, none⟩ = some (.string (ofL a.method)) ∧ w'.cell? ⟨w.heap.size, 1, none⟩ = some (.string (ofL a.target)) ∧ w'.cell? ⟨w.heap.size, 2, none⟩ = some (.string (ofL a.host)) ∧ w'.cell? ⟨w.heap.size, 3, none⟩ = some (.int .i64 a.port) ∧ w'.cell? ⟨w.heap.size, 4, none⟩ = some (.slice pl a.fields.length cl) ∧ w'.cell? ⟨w.heap.size, 5, none⟩ = some (.string (ofL a.body)) ∧ w'.cell? ⟨w.heap.size, 6, none⟩ = some (.bool a.sized) ∧ w'.cell? ⟨w.heap.size, 7, none⟩ = some (.string (ofL a.from_)) ∧ w'.cell? ⟨w.heap.size, 8, none⟩ = some (.string (ofL a.up)) ∧ w'.cell? ⟨g2, 0, none⟩ = some (.string (ofL a.method)) ∧ w'.cell? ⟨g2, 1, none⟩ = some (.string (ofL a.target)) ∧ w'.cell? ⟨g2, 2, none⟩ = some (.string (ofL a.host)) ∧ w'.cell? ⟨g2, 3, none⟩ = some (.int .i64 a.port) ∧ w'.cell? ⟨g2, 4, none⟩ = some (.slice p2 a.fields.length cap2) ∧ w'.cell? ⟨g2, 5, none⟩ = some (.string (ofL a.body)) ∧ w'.cell? ⟨g2, 6, none⟩ = some (.bool a.sized) ∧ w'.cell? ⟨g2, 7, none⟩ = some (.string (ofL a.from_)) ∧ w'.cell? ⟨g2, 8, none⟩ = some (.string (ofL a.up))) (first | exact c4 | exact c3 | exact c2 | exact c1)
    (first
      | (go_at_call 7; refine (U1.out _ (HM.out.below P1.below) (HP.out.below P1.below) P1.f2).mono ?_; rintro e w6 ⟨rfl, hb6⟩
         have P2 := P1.call hb6
         have c2 := And.intro (cs_of P2.b1) (cs_of P2.b2)
         unfold Cs at c2
         simp only [and_assoc] at c2
         clear hb6 U1)
      | (go_at_call 9; refine (U2.out _ P2.f1).mono ?_; rintro e w7 ⟨rfl, hb7⟩
         have P3 := P2.call hb7
         have c3 := And.intro (cs_of P3.b1) (cs_of P3.b2)
         unfold Cs at c3
         simp only [and_assoc] at c3
         clear hb7 U2)
      | (go_at_call 8; refine (U3.out _ P3.f1).mono ?_; rintro e w8 ⟨rfl, hb8⟩
         have P4 := P3.call hb8
         have c4 := And.intro (cs_of P4.b1) (cs_of P4.b2)
         unfold Cs at c4
         simp only [and_assoc] at c4
         clear hb8 U3)
      | (go_at_call 10; refine (U4.out _ P4.f2 P4.f1).mono ?_; rintro e w9 ⟨rfl, m9, rfl⟩; rw [sm]))
  have HE : Hid (Below w.heap.size w (w8.drewN m9)) := Lib.hid ⟨P4.below.os, P4.below.tape, P4.below.output, P4.below.size, P4.below.block⟩
  clear P1 P2 P3 P4 c1 c2 c3 c4
  go_wp2_with fail
  go_ret
  exact ⟨rfl, HE.out⟩
theorem walk {H : Type} {enc : TypeId × Value → H} {W : World} {base : Nat} (v : Value) (d : DataW H) (p : List MemPlace) (hv : Value.okWide Tryd.prog W .any base 24 v)
    (hd : DataW.Trod enc Tryd.prog W 0 (fun _ => true) true 24 v d p) (hl : ∀ x ∈ p, x.block < W.heap.size) (hb : Rows.uptoBulk d ≤ 1048576)
    (hsh : W.ShapedOpen Tryd.prog) (hlaid : laidMetH Tryd.prog Rows.emitRequestsUptoRow.laid W) :
    Calls Tryd.prog 3 #[v] W fun e w' => e = .returned (.bool true) ∧ Below W.heap.size W w' := by
  obtain ⟨x, l, rfl, hF, hy, hA⟩ := L13Arg.ask_arg hv hd hb
  exact walkIn x l hA hy W hF (MaxInt.of_shape hsh) (pow_of_laid rfl hlaid)
end Go.Proofs.YtblpooddamkfdaaDoor.EmitRequestsW
