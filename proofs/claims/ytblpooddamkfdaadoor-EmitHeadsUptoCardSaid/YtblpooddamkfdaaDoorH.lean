/- Texts of this seat, one behind another: EmitHeadsW. -/
import Derived.Deep.RegionHeld3
import Derived.Test.YtblpooddamkfdaaDoorB
import Derived.Test.YtblpooddamkfdaaDoorG2
/- Every head and every local reply is written as the document says, and its fields stay as they were: EmitHeads returns true, for arguments of bulk at most 1048576. -/
namespace Go.Proofs.YtblpooddamkfdaaDoor.EmitHeadsW
open Go.ChangeShapes Go.WideShapes Go.ChangeAt Go.RowKit Bytes LexPure FieldsPure EmitPure Flds Mem PEmJoin PLib FRow KeptRow PEmHead L13Base
set_option maxRecDepth 100000
set_option linter.unusedVariables false
set_option linter.unusedSimpArgs false
abbrev RT : TypeId := 34
/-- the law's two boxes -/
structure Bo (w : World) (g1 g2 : Nat) (r : ReplyP) (l1 l2 : Value) (wr : World) : Prop where
  b1 : Has wr g1 RT (rcells r l1)
  b2 : Has wr g2 RT (rcells r l2)
  f1 : FL wr l1 r.fields
  f2 : FL wr l2 r.fields
  below : Below w.heap.size w wr
theorem Bo.call {w : World} {g1 g2 : Nat} {r : ReplyP} {l1 l2 : Value} {wr w1 : World} (h : Bo w g1 g2 r l1 l2 wr) (hb : Below wr.heap.size wr w1) : Bo w g1 g2 r l1 l2 w1 :=
  ⟨h.b1.below hb h.b1.lt, h.b2.below hb h.b2.lt, h.f1.below hb, h.f2.below hb, below_chain h.below hb⟩
theorem Bo.drew {w : World} {g1 g2 : Nat} {r : ReplyP} {l1 l2 : Value} {wr : World} (h : Bo w g1 g2 r l1 l2 wr) : Bo w g1 g2 r l1 l2 wr.drew := ⟨h.b1.drew, h.b2.drew, h.f1.drewN 1, h.f2.drewN 1, ⟨h.below.os, h.below.tape, h.below.output, h.below.size, h.below.block⟩⟩
/-- a Reply's cells -/
def Cs (wr : World) (g : Nat) (r : ReplyP) (l : Value) : Prop := wr.cell? ⟨g, 0, none⟩ = some (.int .i64 r.status) ∧ wr.cell? ⟨g, 1, none⟩ = some (.string (ofL r.reason)) ∧ wr.cell? ⟨g, 2, none⟩ = some (l) ∧ wr.cell? ⟨g, 3, none⟩ = some (.int .i64 r.framing) ∧ wr.cell? ⟨g, 4, none⟩ = some (.int .i64 r.length) ∧ wr.cell? ⟨g, 5, none⟩ = some (.bool r.keep) ∧ wr.cell? ⟨g, 6, none⟩ = some (.string (ofL r.up))
theorem cs_of {wr : World} {g : Nat} {r : ReplyP} {l : Value} (h : Has wr g RT (rcells r l)) : Cs wr g r l := ⟨h.cell 0, h.cell 1, h.cell 2, h.cell 3, h.cell 4, h.cell 5, h.cell 6⟩
theorem fit_ref {r : ReplyP} (h : PEmHead.FitR r) : R13HeadO.FitR r := ⟨h.fields, h.len, h.reason, h.up, h.s0, h.s1, h.l0, h.l1⟩
set_option maxHeartbeats 12800000 in
theorem walkIn (r : ReplyP) (vl : Value) (hA : PEmHead.FitR r) (hy : Nice vl r.fields.length) (body : ByteArray) (hbd : body.size ≤ 1048576) (bodiless : Bool) (w : World) (hF : FL w vl r.fields) (hm : MaxInt w) (hp : Pow w) :
    Calls Tryd.prog 4 #[.agg (rcells r vl), .string body, .bool bodiless] w fun e w' => e = .returned (.bool true) ∧ Below w.heap.size w w' := by
  obtain ⟨pl, cl, rfl, _, _⟩ := id hF
  have hle := hA.len
  obtain ⟨W1, hW1⟩ : ∃ W1, W1 = w.alloc (.cells #[.int .i64 r.status, .string (ofL r.reason), .slice pl r.fields.length cl, .int .i64 r.framing, .int .i64 r.length, .bool r.keep, .string (ofL r.up)] RT) := ⟨_, rfl⟩
  have hb1 : Below w.heap.size w W1 := by rw [hW1]; exact (Below.refl _ w).alloc (Nat.le_refl _) _
  have HB1 : Hid (Has W1 w.heap.size RT (rcells r (.slice pl r.fields.length cl))) := Lib.hid (by rw [hW1]; exact Has.new w RT _)
  have HAn := Lib.hid (anchor_any W1 (hm.below hb1) (hp.below hb1))
  have HM := Lib.hid hm
  have HP := Lib.hid hp
  have HF := Lib.hid hF
  have HBw := Lib.hid hb1
  have HA := Lib.hid hA
  have HY := Lib.hid hy
  have HW := Lib.hid hW1
  have HD := Lib.hid hbd
  clear hm hp hF hb1 hA hy hW1 hbd
  unfold rcells
  go_enter Tryd.func4, Tryd.ntmps4
  iterate 12 go_step
  rw [← HW.out]
  clear HW
  go_wp2_with fail
  refine HAn.out.mono ?_
  rintro e w2 ⟨rfl, hb2⟩
  have h1 := HB1.out.below hb2 HB1.out.lt
  have hb3 := below_chain HBw.out hb2
  have HF2 := Lib.hid (HF.out.below hb3)
  have HB2 := Lib.hid h1
  have HBw2 := Lib.hid hb3
  have hc := cs_of h1
  clear HAn h1 hb2 hb3 HB1 HBw
  obtain ⟨c0, c1, c2, c3, c4, c5, c6⟩ := hc
  obtain ⟨W3, hW3⟩ : ∃ W3, W3 = w2.alloc (.cells #[.int .i64 r.status, .string (ofL r.reason), .slice pl r.fields.length cl, .int .i64 r.framing, .int .i64 r.length, .bool r.keep, .string (ofL r.up)] RT) := ⟨_, rfl⟩
  have hal : Below w2.heap.size w2 W3 := by rw [hW3]; exact (Below.refl _ w2).alloc (Nat.le_refl _) _
  have hlt3 : w2.heap.size < W3.heap.size := by rw [hW3]; simp
  have h2 : Has W3 w2.heap.size RT (rcells r (.slice pl r.fields.length cl)) := by rw [hW3]; exact Has.new w2 RT _
  have x4 : (w2.alloc (.cells #[.int .i64 r.status, .string (ofL r.reason), .slice pl r.fields.length cl, .int .i64 r.framing, .int .i64 r.length, .bool r.keep, .string (ofL r.up)] RT)).cell? ⟨w.heap.size, 2, none⟩ = some (.slice pl r.fields.length cl) := by
    rw [← hW3]
    exact (hal.cell (p := ⟨w.heap.size, 2, none⟩) HB2.out.lt).trans c2
  have HCp := copied_any (.slice pl r.fields.length cl) r.fields (by omega) HY.out W3 (HF2.out.below hal)
  have HB3 := Lib.hid (HB2.out.below hal HB2.out.lt)
  have HF3 := Lib.hid (HF2.out.below hal)
  have HBw3 := Lib.hid (below_chain HBw2.out hal)
  have H2 := Lib.hid h2
  have HL := Lib.hid hlt3
  rw [hW3] at HCp
  have HC := Lib.hid HCp
  have HW3 := Lib.hid hW3
  have HG := Lib.hid HB2.out.lt
  clear hal h2 hlt3 HCp hW3 HB2 HF2 HBw2
  go_wp2_with fail
  refine HC.out.mono ?_
  rintro e w4 ⟨v2, rfl, hrow, hb4⟩
  rw [← HW3.out] at hrow hb4
  have k2 := H2.out.below hb4 H2.out.lt
  have d4 := k2.cell 2
  have z4 := k2.free 2
  have hfl := fl_of hrow (by omega)
  obtain ⟨p2, cap2, rfl, _, _⟩ := hfl
  have HQ : Hid (Bo w w.heap.size w2.heap.size r (.slice pl r.fields.length cl) (.slice p2 r.fields.length cap2) (w4.setCell ⟨w2.heap.size, 2, none⟩ (.slice p2 r.fields.length cap2))) := Lib.hid (by
    have hb34 := below_chain HBw3.out hb4
    have hg := HG.out
    have hbs := hb34.setCell (p := ⟨w2.heap.size, 2, none⟩) (Nat.le_of_lt hg) (.slice p2 r.fields.length cap2)
    exact ⟨(HB3.out.below hb4 HB3.out.lt).far (p := ⟨w2.heap.size, 2, none⟩) (Nat.ne_of_lt hg) _, k2.set_ 2 _, HF.out.below hbs, fl_of (ownsRow_setCell_below hrow (a := ⟨w2.heap.size, 2, none⟩) HL.out _) (by omega), hbs⟩)
  clear hb4 hrow k2 HC HB3 HF3 HBw3 H2 HL HW3 x4 HF c0 c1 c2 c3 c4 c5 c6
  go_wp2_with fail
  generalize w4.setCell ⟨w2.heap.size, 2, none⟩ (.slice p2 r.fields.length cap2) = W5 at HQ ⊢
  generalize w2.heap.size = g2 at HQ d4 z4 ⊢
  have P1 := HQ.out.drew
  have c1 := And.intro (cs_of P1.b1) (cs_of P1.b2)
  have sm : (r.fields == r.fields) = true := beq_self_eq_true _
  unfold Cs at c1
  simp only [and_assoc] at c1
  clear HQ d4 z4 HY HG
  have U1 := Lib.hid (fun w' m p h => PEmHead.head_any r (.slice p2 r.fields.length cap2) HA.out w' m p h)
  have U2 := Lib.hid (fun w' h => L13Plain.plain_reply_any r (.slice pl r.fields.length cl) (W0 := w') (G0 := r.fields) h w')
  have U3 := Lib.hid (fun w' h => R13Local.head_any r (.slice pl r.fields.length cl) (fit_ref HA.out) w' h)
  have U4 := Lib.hid (fun w' h1 h2 => R7Same.r7same_any (.slice p2 r.fields.length cap2) (.slice pl r.fields.length cl) r.fields r.fields w' h1 h2)
  have V1 := Lib.hid (fun w' => PEmReason.reason_any r.status HA.out.s0 HA.out.s1 w')
  have V2 := Lib.hid (fun w' => R13Reason.reason_any r.status w')
  have V3 := Lib.hid (fun w' m p h => PEmLocal.local_any r.status (.slice p2 r.fields.length cap2) r.fields (toL body) r.keep bodiless HA.out.s0 HA.out.s1 HA.out.fields HA.out.len (by rw [toL_length]; exact HD.out) w' m p h)
  have V4 := Lib.hid (fun w' h => R13Local.local_any r.status (.slice pl r.fields.length cl) r.fields (toL body) r.keep bodiless HA.out.s0 HA.out.s1 HA.out.fields HA.out.len (by rw [toL_length]; exact HD.out) w' h)
  rw [ofL_toL] at V3 V4
  unfold rcells at U1 U2
  unfold R13HeadO.dcells at U3
  generalize ofL (headE r) = RES at U1 U3
  generalize ofL (reasonL r.status) = RS at V1 V2
  generalize ofL (localE r.status r.fields (toL body) r.keep bodiless) = LO at V3 V4
  go_region_held3 (fun w' => w'.cell? ⟨w.heap.size, 0, none⟩ = some (.int .i64 r.status) ∧ w'.cell? ⟨w.heap.size, 1, none⟩ = some (.string (ofL r.reason)) ∧ w'.cell? ⟨w.heap.size, 2, none⟩ = some (.slice pl r.fields.length cl) ∧ w'.cell? ⟨w.heap.size, 3, none⟩ = some (.int .i64 r.framing) ∧ w'.cell? ⟨w.heap.size, 4, none⟩ = some (.int .i64 r.length) ∧ w'.cell? ⟨w.heap.size, 5, none⟩ = some (.bool r.keep) ∧ w'.cell? ⟨w.heap.size, 6, none⟩ = some (.string (ofL r.up)) ∧ w'.cell? ⟨g2, 0, none⟩ = some (.int .i64 r.status) ∧ w'.cell? ⟨g2, 1, none⟩ = some (.string (ofL r.reason)) ∧ w'.cell? ⟨g2, 2, none⟩ = some (.slice p2 r.fields.length cap2) ∧ w'.cell? ⟨g2, 3, none⟩ = some (.int .i64 r.framing) ∧ w'.cell? ⟨g2, 4, none⟩ = some (.int .i64 r.length) ∧ w'.cell? ⟨g2, 5, none⟩ = some (.bool r.keep) ∧ w'.cell? ⟨g2, 6, none⟩ = some (.string (ofL r.up))) (first | exact c6 | exact c5 | exact c4 | exact c3 | exact c2 | exact c1)
    (first
      | (go_at_call 11; refine (U1.out _ (HM.out.below P1.below) (HP.out.below P1.below) P1.f2).mono ?_; rintro e w6 ⟨rfl, hb6⟩
         have P2 := P1.call hb6
         have c2 := And.intro (cs_of P2.b1) (cs_of P2.b2)
         unfold Cs at c2
         simp only [and_assoc] at c2
         clear hb6 U1)
      | (go_at_call 13; refine (U2.out _ P2.f1).mono ?_; rintro e w7 ⟨rfl, hb7⟩
         have P3 := P2.call hb7
         have c3 := And.intro (cs_of P3.b1) (cs_of P3.b2)
         unfold Cs at c3
         simp only [and_assoc] at c3
         clear hb7 U2)
      | (go_at_call 12; refine (U3.out _ P3.f1).mono ?_; rintro e w8 ⟨rfl, hb8⟩
         have P4 := P3.call hb8
         have c4 := And.intro (cs_of P4.b1) (cs_of P4.b2)
         unfold Cs at c4
         simp only [and_assoc] at c4
         clear hb8 U3)
      | (go_at_call 14; refine (V1.out _).mono ?_; rintro e w9 ⟨rfl, hb9⟩
         have P5 := P4.call hb9
         have c5 := And.intro (cs_of P5.b1) (cs_of P5.b2)
         unfold Cs at c5
         simp only [and_assoc] at c5
         clear hb9 V1)
      | (go_at_call 15; refine (V2.out _).mono ?_; rintro e w10 ⟨rfl, rfl⟩
         have c6 := c5
         clear V2))
  have HQ := Lib.hid P5
  clear P1 P2 P3 P4 P5 c1 c2 c3 c4 c5 c6
  go_wp2_with fail
  have P1 := HQ.out.drew
  have c1 := And.intro (cs_of P1.b1) (cs_of P1.b2)
  unfold Cs at c1
  simp only [and_assoc] at c1
  clear HQ
  go_region_held3 (fun w' => w'.cell? ⟨w.heap.size, 0, none⟩ = some (.int .i64 r.status) ∧ w'.cell? ⟨w.heap.size, 1, none⟩ = some (.string (ofL r.reason)) ∧ w'.cell? ⟨w.heap.size, 2, none⟩ = some (.slice pl r.fields.length cl) ∧ w'.cell? ⟨w.heap.size, 3, none⟩ = some (.int .i64 r.framing) ∧ w'.cell? ⟨w.heap.size, 4, none⟩ = some (.int .i64 r.length) ∧ w'.cell? ⟨w.heap.size, 5, none⟩ = some (.bool r.keep) ∧ w'.cell? ⟨w.heap.size, 6, none⟩ = some (.string (ofL r.up)) ∧ w'.cell? ⟨g2, 0, none⟩ = some (.int .i64 r.status) ∧ w'.cell? ⟨g2, 1, none⟩ = some (.string (ofL r.reason)) ∧ w'.cell? ⟨g2, 2, none⟩ = some (.slice p2 r.fields.length cap2) ∧ w'.cell? ⟨g2, 3, none⟩ = some (.int .i64 r.framing) ∧ w'.cell? ⟨g2, 4, none⟩ = some (.int .i64 r.length) ∧ w'.cell? ⟨g2, 5, none⟩ = some (.bool r.keep) ∧ w'.cell? ⟨g2, 6, none⟩ = some (.string (ofL r.up))) (first | exact c3 | exact c2 | exact c1)
    (first
      | (go_at_call 16; refine (V3.out _ (HM.out.below P1.below) (HP.out.below P1.below) P1.f2).mono ?_; rintro e w6 ⟨rfl, hb6⟩
         have P2 := P1.call hb6
         have c2 := And.intro (cs_of P2.b1) (cs_of P2.b2)
         unfold Cs at c2
         simp only [and_assoc] at c2
         clear hb6 V3)
      | (go_at_call 17; refine (V4.out _ P2.f1).mono ?_; rintro e w7 ⟨rfl, hb7⟩
         have P3 := P2.call hb7
         have c3 := And.intro (cs_of P3.b1) (cs_of P3.b2)
         unfold Cs at c3
         simp only [and_assoc] at c3
         clear hb7 V4)
      | (go_at_call 10; refine (U4.out _ P3.f2 P3.f1).mono ?_; rintro e w9 ⟨rfl, m9, rfl⟩; rw [sm]))
  have HE : Hid (Below w.heap.size w (w7.drewN m9)) := Lib.hid ⟨P3.below.os, P3.below.tape, P3.below.output, P3.below.size, P3.below.block⟩
  clear P1 P2 P3 c1 c2 c3
  go_wp2_with fail
  go_ret
  exact ⟨rfl, HE.out⟩
theorem walk {H : Type} {enc : TypeId × Value → H} {W : World} {base : Nat} (v : Value) (d : DataW H) (p : List MemPlace) (hv : Value.okWide Tryd.prog W .any base 34 v)
    (hd : DataW.Trod enc Tryd.prog W 0 (fun _ => true) true 34 v d p) (hl : ∀ x ∈ p, x.block < W.heap.size) (hb : Rows.uptoBulk d ≤ 1048576)
    (body : ByteArray) (w1 : body.size ≤ maxLen) (z1 : body.size ≤ 1048576) (bodiless : Bool) (hsh : W.ShapedOpen Tryd.prog) (hlaid : laidMetH Tryd.prog Rows.emitHeadsUptoRow.laid W) :
    Calls Tryd.prog 4 #[v, .string body, .bool bodiless] W fun e w' => e = .returned (.bool true) ∧ Below W.heap.size W w' := by
  obtain ⟨x, l, rfl, hF, hy, hA⟩ := L13Arg.reply_arg hv hd hb
  exact walkIn x l hA hy body z1 bodiless W hF (MaxInt.of_shape hsh) (pow_of_laid rfl hlaid)
end Go.Proofs.YtblpooddamkfdaaDoor.EmitHeadsW
