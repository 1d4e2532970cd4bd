/- Texts of this seat, one behind another: EmitForwardsB. -/

import Derived.Test.YtblpooddamkfdaaGreatDoorMA
/- EmitForwards: from behind the loop to the comparisons. -/
namespace Go.Proofs.YtblpooddamkfdaaGreatDoor.EmitForwardsW
open Go.ChangeShapes Go.WideShapes Go.ChangeAt Go.RowKit Bytes LexPure FieldsPure HeadPure FramePure TargetPure InflowPure EmitPure Flds HBox Mem Step PEmJoin PLib FRow KeptRow L13Base R11D EmitForwS
set_option maxRecDepth 100000
set_option linter.unusedVariables false
set_option linter.unusedSimpArgs false
set_option maxHeartbeats 12800000 in
noncomputable def coreB (data from_ : ByteArray) (hd : data.size ≤ 140737488351232) (hf : from_.size ≤ 140737488351232) (w : World) (hm : MaxInt w) (hp : Pow w) :
    PSigma fun P : Prop => P → (coreA data from_ hd hf w hm hp).1 := by
  have HM := Lib.hid hm
  have HP := Lib.hid hp
  have HS := Lib.hid hf
  apply cut1
  case h =>
    intro CUT
    conv => whnf
    intro q n R1 pp cap HNi Wz g N1 N2 N3 HVb N4 HFw nv nx N5 W3 Q2 HC K0 hK0 wr u4 u13 u89 u90 u91 u92 u93 u94 u95 u96 u97 u98 u99 u100 k hk HJ hlt hki
    have HL : Hid (∀ f ∈ q.head.fields, f.1.length + f.2.length ≤ 200) := Lib.hid (fun f hf => by
      obtain ⟨j, hj, rfl⟩ := List.getElem_of_mem hf
      exact HJ.out.1 j hj (by omega))
    have Q4 := Lib.hid (Q2.out.call HJ.out.2)
    have HMr := Lib.hid ((HM.out.below Q4.out.below))
    have HPr := Lib.hid ((HP.out.below Q4.out.below))
    have HAg := Lib.hid (forw_again (from_ := toL from_) R1.out (by have := N1.out; omega) N2.out N3.out HVb.out.symm (by rw [toL_length]; have := N4.out; omega) N5.out.1 N5.out.2 HL.out)
    obtain ⟨HFit, hpq⟩ := fit_of (from_ := toL from_) R1.out N2.out N3.out (by rw [toL_length]; have := N4.out; omega)
    have HLen := Lib.hid (PEmLen.req_len HFit)
    have U2 := Lib.hid (fun w' (hF : FL w' (.slice pp q.head.fields.length cap) q.head.fields) => copied_any (.slice pp q.head.fields.length cap) q.head.fields (by have := N1.out; omega) HNi.out w' hF)
    have U1 := Lib.hid (fun w' => ROrigin.rorigin_any q.target hpq w')
    have U3 := Lib.hid (fun l w' m p h => PEmReq.request_any ⟨q.head.method, origin6 q.target, q.host, q.port, q.head.fields, q.body, q.sized, toL from_, q.upgrade⟩ l HFit w' m p h)
    unfold PEmReq.acells at U3
    dsimp only at U3
    rw [ofL_toL] at U3
    clear HJ HL HC hlt hpq HFit
    obtain ⟨RQ, hRQ⟩ : ∃ RQ, RQ = requestE ⟨q.head.method, origin6 q.target, q.host, q.port, q.head.fields, q.body, q.sized, toL from_, q.upgrade⟩ := ⟨_, rfl⟩
    rw [← hRQ] at U3 HLen HAg
    clear hRQ
    generalize origin6 q.target = OT at U1 U3
    have c0 : wr.cell? ⟨g, 0, none⟩ = some (.string (ofL q.head.method)) := Q4.out.box.cell 0
    have c5 : wr.cell? ⟨g, 5, none⟩ = some (.slice pp q.head.fields.length cap) := Q4.out.box.cell 5
    have c6 : wr.cell? ⟨g, 6, none⟩ = some (.int .i64 q.target.form) := Q4.out.box.cell 6
    have c7 : wr.cell? ⟨g, 7, none⟩ = some (.string (ofL q.target.host)) := Q4.out.box.cell 7
    have c8 : wr.cell? ⟨g, 8, none⟩ = some (.int .i64 q.target.port) := Q4.out.box.cell 8
    have c9 : wr.cell? ⟨g, 9, none⟩ = some (.string (ofL q.target.path)) := Q4.out.box.cell 9
    have c10 : wr.cell? ⟨g, 10, none⟩ = some (.string (ofL q.target.query)) := Q4.out.box.cell 10
    have c11 : wr.cell? ⟨g, 11, none⟩ = some (.bool q.target.has) := Q4.out.box.cell 11
    have c12 : wr.cell? ⟨g, 12, none⟩ = some (.string (ofL q.host)) := Q4.out.box.cell 12
    have c13 : wr.cell? ⟨g, 13, none⟩ = some (.int .i64 q.port) := Q4.out.box.cell 13
    have c14 : wr.cell? ⟨g, 14, none⟩ = some (.string (ofL q.body)) := Q4.out.box.cell 14
    have c15 : wr.cell? ⟨g, 15, none⟩ = some (.bool q.sized) := Q4.out.box.cell 15
    have c17 : wr.cell? ⟨g, 17, none⟩ = some (.string (ofL q.upgrade)) := Q4.out.box.cell 17
    go_wp2_with fail
    clear hki
    clear c0 c5 c6 c7 c8 c9 c10 c11 c12 c13 c14 c15 c17
    have P1 := Q4.out.drew
    have r1 := (And.intro P1.below P1.below)
    have s1 : wr.drew.cell? ⟨g, 0, none⟩ = some (.string (ofL q.head.method)) ∧ wr.drew.cell? ⟨g, 5, none⟩ = some (.slice pp q.head.fields.length cap) ∧ wr.drew.cell? ⟨g, 6, none⟩ = some (.int .i64 q.target.form) ∧ wr.drew.cell? ⟨g, 7, none⟩ = some (.string (ofL q.target.host)) ∧ wr.drew.cell? ⟨g, 8, none⟩ = some (.int .i64 q.target.port) ∧ wr.drew.cell? ⟨g, 9, none⟩ = some (.string (ofL q.target.path)) ∧ wr.drew.cell? ⟨g, 10, none⟩ = some (.string (ofL q.target.query)) ∧ wr.drew.cell? ⟨g, 11, none⟩ = some (.bool q.target.has) ∧ wr.drew.cell? ⟨g, 12, none⟩ = some (.string (ofL q.host)) ∧ wr.drew.cell? ⟨g, 13, none⟩ = some (.int .i64 q.port) ∧ wr.drew.cell? ⟨g, 14, none⟩ = some (.string (ofL q.body)) ∧ wr.drew.cell? ⟨g, 15, none⟩ = some (.bool q.sized) ∧ wr.drew.cell? ⟨g, 17, none⟩ = some (.string (ofL q.upgrade)) := ⟨P1.box.cell 0, P1.box.cell 5, P1.box.cell 6, P1.box.cell 7, P1.box.cell 8, P1.box.cell 9, P1.box.cell 10, P1.box.cell 11, P1.box.cell 12, P1.box.cell 13, P1.box.cell 14, P1.box.cell 15, P1.box.cell 17⟩
    go_region_held3 (fun w' => w'.cell? ⟨g, 0, none⟩ = some (.string (ofL q.head.method)) ∧ w'.cell? ⟨g, 5, none⟩ = some (.slice pp q.head.fields.length cap) ∧ w'.cell? ⟨g, 6, none⟩ = some (.int .i64 q.target.form) ∧ w'.cell? ⟨g, 7, none⟩ = some (.string (ofL q.target.host)) ∧ w'.cell? ⟨g, 8, none⟩ = some (.int .i64 q.target.port) ∧ w'.cell? ⟨g, 9, none⟩ = some (.string (ofL q.target.path)) ∧ w'.cell? ⟨g, 10, none⟩ = some (.string (ofL q.target.query)) ∧ w'.cell? ⟨g, 11, none⟩ = some (.bool q.target.has) ∧ w'.cell? ⟨g, 12, none⟩ = some (.string (ofL q.host)) ∧ w'.cell? ⟨g, 13, none⟩ = some (.int .i64 q.port) ∧ w'.cell? ⟨g, 14, none⟩ = some (.string (ofL q.body)) ∧ w'.cell? ⟨g, 15, none⟩ = some (.bool q.sized) ∧ w'.cell? ⟨g, 17, none⟩ = some (.string (ofL q.upgrade))) (first | exact s4 | exact s3 | exact s2 | exact s1)
      (first
        | (go_at_call 11; refine (U1.out _).mono ?_; rintro e w7 ⟨rfl, hb7⟩
           have P2 := P1.call hb7
           have s2 : w7.cell? ⟨g, 0, none⟩ = some (.string (ofL q.head.method)) ∧ w7.cell? ⟨g, 5, none⟩ = some (.slice pp q.head.fields.length cap) ∧ w7.cell? ⟨g, 6, none⟩ = some (.int .i64 q.target.form) ∧ w7.cell? ⟨g, 7, none⟩ = some (.string (ofL q.target.host)) ∧ w7.cell? ⟨g, 8, none⟩ = some (.int .i64 q.target.port) ∧ w7.cell? ⟨g, 9, none⟩ = some (.string (ofL q.target.path)) ∧ w7.cell? ⟨g, 10, none⟩ = some (.string (ofL q.target.query)) ∧ w7.cell? ⟨g, 11, none⟩ = some (.bool q.target.has) ∧ w7.cell? ⟨g, 12, none⟩ = some (.string (ofL q.host)) ∧ w7.cell? ⟨g, 13, none⟩ = some (.int .i64 q.port) ∧ w7.cell? ⟨g, 14, none⟩ = some (.string (ofL q.body)) ∧ w7.cell? ⟨g, 15, none⟩ = some (.bool q.sized) ∧ w7.cell? ⟨g, 17, none⟩ = some (.string (ofL q.upgrade)) := ⟨P2.box.cell 0, P2.box.cell 5, P2.box.cell 6, P2.box.cell 7, P2.box.cell 8, P2.box.cell 9, P2.box.cell 10, P2.box.cell 11, P2.box.cell 12, P2.box.cell 13, P2.box.cell 14, P2.box.cell 15, P2.box.cell 17⟩
           clear hb7 U1)
        | (go_at_call 12; refine (U2.out _ P2.fl).mono ?_; rintro e w8 ⟨v8, rfl, hrow8, hb8⟩
           have P3 := P2.call hb8
           have F3 := fl_of hrow8 (by have := N1.out; omega)
           obtain ⟨p8, cap8, rfl, -, -⟩ := id F3
           have s3 : w8.cell? ⟨g, 0, none⟩ = some (.string (ofL q.head.method)) ∧ w8.cell? ⟨g, 5, none⟩ = some (.slice pp q.head.fields.length cap) ∧ w8.cell? ⟨g, 6, none⟩ = some (.int .i64 q.target.form) ∧ w8.cell? ⟨g, 7, none⟩ = some (.string (ofL q.target.host)) ∧ w8.cell? ⟨g, 8, none⟩ = some (.int .i64 q.target.port) ∧ w8.cell? ⟨g, 9, none⟩ = some (.string (ofL q.target.path)) ∧ w8.cell? ⟨g, 10, none⟩ = some (.string (ofL q.target.query)) ∧ w8.cell? ⟨g, 11, none⟩ = some (.bool q.target.has) ∧ w8.cell? ⟨g, 12, none⟩ = some (.string (ofL q.host)) ∧ w8.cell? ⟨g, 13, none⟩ = some (.int .i64 q.port) ∧ w8.cell? ⟨g, 14, none⟩ = some (.string (ofL q.body)) ∧ w8.cell? ⟨g, 15, none⟩ = some (.bool q.sized) ∧ w8.cell? ⟨g, 17, none⟩ = some (.string (ofL q.upgrade)) := ⟨P3.box.cell 0, P3.box.cell 5, P3.box.cell 6, P3.box.cell 7, P3.box.cell 8, P3.box.cell 9, P3.box.cell 10, P3.box.cell 11, P3.box.cell 12, P3.box.cell 13, P3.box.cell 14, P3.box.cell 15, P3.box.cell 17⟩
           clear hb8 U2 hrow8)
        | (go_at_call 10; refine (U3.out _ _ (HM.out.below P3.below) (HP.out.below P3.below) F3).mono ?_; rintro e w9 ⟨rfl, hb9⟩
           have P4 := P3.call hb9
           have s4 : w9.cell? ⟨g, 0, none⟩ = some (.string (ofL q.head.method)) ∧ w9.cell? ⟨g, 5, none⟩ = some (.slice pp q.head.fields.length cap) ∧ w9.cell? ⟨g, 6, none⟩ = some (.int .i64 q.target.form) ∧ w9.cell? ⟨g, 7, none⟩ = some (.string (ofL q.target.host)) ∧ w9.cell? ⟨g, 8, none⟩ = some (.int .i64 q.target.port) ∧ w9.cell? ⟨g, 9, none⟩ = some (.string (ofL q.target.path)) ∧ w9.cell? ⟨g, 10, none⟩ = some (.string (ofL q.target.query)) ∧ w9.cell? ⟨g, 11, none⟩ = some (.bool q.target.has) ∧ w9.cell? ⟨g, 12, none⟩ = some (.string (ofL q.host)) ∧ w9.cell? ⟨g, 13, none⟩ = some (.int .i64 q.port) ∧ w9.cell? ⟨g, 14, none⟩ = some (.string (ofL q.body)) ∧ w9.cell? ⟨g, 15, none⟩ = some (.bool q.sized) ∧ w9.cell? ⟨g, 17, none⟩ = some (.string (ofL q.upgrade)) := ⟨P4.box.cell 0, P4.box.cell 5, P4.box.cell 6, P4.box.cell 7, P4.box.cell 8, P4.box.cell 9, P4.box.cell 10, P4.box.cell 11, P4.box.cell 12, P4.box.cell 13, P4.box.cell 14, P4.box.cell 15, P4.box.cell 17⟩
           clear hb9 U3))
    have HB9 := Lib.hid P4
    obtain ⟨p, hpX, e1, e2, e3, e4, e5, e6, e7, e8, e9, e10, e11⟩ := HAg.out
    have HR2 := Lib.hid (fun w => R11Read.r11read_any (ofL RQ) (by rw [ofL_size]; have := HLen.out; omega) 1000 (by decide) w)
    rw [toL_ofL, hpX, show ((RQ.length : Nat) : Int) = (((ofL RQ).size : Nat) : Int) by rw [ofL_size]] at HR2
    have R2 := Lib.hid (read_first hpX)
    have E1 := Lib.hid (And.intro e1 (And.intro e2 (And.intro e3 (And.intro e4 (And.intro e5 (And.intro e6 (And.intro e7 (And.intro e8 e9))))))))
    have E2 := Lib.hid (And.intro e10 e11)
    clear e1 e2 e3 e4 e5 e6 e7 e8 e9 e10 e11 hpX P1 P2 P3 P4 s1 s2 s3 s4 F3 HAg
    go_wp2_with fail
    refine (HR2.out _).mono ?_
    rintro e w10 ⟨hans, hb10⟩
    obtain ⟨l2, rfl, hrow2⟩ := hans
    have P5 := HB9.out.call hb10
    have hFl2 := fl_of hrow2.1 (Nat.le_trans hrow2.2 (by decide))
    obtain ⟨p2, cap2, rfl, -, -⟩ := id hFl2
    have Q6 := Lib.hid (Qs.new (q := p) P5.below hFl2)
    have Q5 := Lib.hid (P5.call ((Below.refl _ _).alloc (Nat.le_refl _) (.cells (R11Read.qcl p (.slice p2 p.head.fields.length cap2)) R11Read.QT)))
    have hq2 : R11Read.qcl p (.slice p2 p.head.fields.length cap2) = #[.string (ofL q.head.method), .string (ofL p.head.target), .int .i64 p.head.status, .string (ofL p.head.reason), .int .i64 p.head.minor, .slice p2 p.head.fields.length cap2, .int .i64 p.target.form, .string (ofL p.target.host), .int .i64 p.target.port, .string (ofL q.target.path), .string (ofL q.target.query), .bool q.target.has, .string (ofL q.host), .int .i64 q.port, .string (ofL q.body), .bool q.sized, .bool p.keep, .string (ofL q.upgrade)] := by
      obtain ⟨e1, e2, e3, e4, e5, e6, e7, e8, e9⟩ := E1.out
      unfold R11Read.qcl
      rw [e1, e2, e3, e4, e5, e6, e7, e8, e9]
    have HQ2 := Lib.hid hq2
    clear hrow2 hFl2 hb10 HR2 P5 HB9
    rw [hq2] at Q5 Q6 ⊢
    clear hq2
    unfold R11Read.QT at Q5 Q6
    dsimp only
    iterate 22 go_step
    generalize w10.alloc (.cells #[.string (ofL q.head.method), .string (ofL p.head.target), .int .i64 p.head.status, .string (ofL p.head.reason), .int .i64 p.head.minor, .slice p2 p.head.fields.length cap2, .int .i64 p.target.form, .string (ofL p.target.host), .int .i64 p.target.port, .string (ofL q.target.path), .string (ofL q.target.query), .bool q.target.has, .string (ofL q.host), .int .i64 q.port, .string (ofL q.body), .bool q.sized, .bool p.keep, .string (ofL q.upgrade)] 29) = W11 at Q5 Q6 ⊢
    generalize w10.heap.size = g2 at Q6 ⊢
    have B6 := Lib.hid Q6.out.below
    have b6 := Q6.out.box
    rw [HQ2.out] at b6
    have c0 : W11.cell? ⟨g, 0, none⟩ = some (.string (ofL q.head.method)) := Q5.out.box.cell 0
    have c9 : W11.cell? ⟨g, 9, none⟩ = some (.string (ofL q.target.path)) := Q5.out.box.cell 9
    have c10 : W11.cell? ⟨g, 10, none⟩ = some (.string (ofL q.target.query)) := Q5.out.box.cell 10
    have c11 : W11.cell? ⟨g, 11, none⟩ = some (.bool q.target.has) := Q5.out.box.cell 11
    have c12 : W11.cell? ⟨g, 12, none⟩ = some (.string (ofL q.host)) := Q5.out.box.cell 12
    have c13 : W11.cell? ⟨g, 13, none⟩ = some (.int .i64 q.port) := Q5.out.box.cell 13
    have c14 : W11.cell? ⟨g, 14, none⟩ = some (.string (ofL q.body)) := Q5.out.box.cell 14
    have c15 : W11.cell? ⟨g, 15, none⟩ = some (.bool q.sized) := Q5.out.box.cell 15
    have c17 : W11.cell? ⟨g, 17, none⟩ = some (.string (ofL q.upgrade)) := Q5.out.box.cell 17
    have d0 : W11.cell? ⟨g2, 0, none⟩ = some (.string (ofL q.head.method)) := b6.cell 0
    have d5 : W11.cell? ⟨g2, 5, none⟩ = some (.slice p2 p.head.fields.length cap2) := b6.cell 5
    have d9 : W11.cell? ⟨g2, 9, none⟩ = some (.string (ofL q.target.path)) := b6.cell 9
    have d10 : W11.cell? ⟨g2, 10, none⟩ = some (.string (ofL q.target.query)) := b6.cell 10
    have d11 : W11.cell? ⟨g2, 11, none⟩ = some (.bool q.target.has) := b6.cell 11
    have d12 : W11.cell? ⟨g2, 12, none⟩ = some (.string (ofL q.host)) := b6.cell 12
    have d13 : W11.cell? ⟨g2, 13, none⟩ = some (.int .i64 q.port) := b6.cell 13
    have d14 : W11.cell? ⟨g2, 14, none⟩ = some (.string (ofL q.body)) := b6.cell 14
    have d15 : W11.cell? ⟨g2, 15, none⟩ = some (.bool q.sized) := b6.cell 15
    have d17 : W11.cell? ⟨g2, 17, none⟩ = some (.string (ofL q.upgrade)) := b6.cell 17
    clear b6
    rename_i Qa Ka ha Qb hh Kb hb
    clear hh ha r1
    clear Ka HMr HPr HLen R1 HNi N1 N2 N3 HVb N4 HFw N5 Q2 hk Q4
    revert Qa Qb Kb q n pp cap Wz g nv nx W3 K0 wr u4 u13 u89 u90 u91 u92 u93 u94 u95 u96 u97 u98 u99 u100 k OT RQ p8 cap8 p p2 cap2 W11 g2
    exact CUT.out
end Go.Proofs.YtblpooddamkfdaaGreatDoor.EmitForwardsW
