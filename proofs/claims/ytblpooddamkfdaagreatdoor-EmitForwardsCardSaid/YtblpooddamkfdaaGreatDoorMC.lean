/- Texts of this seat, one behind another: EmitForwardsC, EmitForwardsW. -/

import Derived.Test.YtblpooddamkfdaaGreatDoorMB
/- EmitForwards: the comparisons. -/
namespace Go.Proofs.YtblpooddamkfdaaGreatDoor.EmitForwardsW
open Go.ChangeShapes Go.WideShapes Go.ChangeAt Go.RowKit Bytes LexPure FieldsPure HeadPure FramePure TargetPure InflowPure EmitPure Flds HBox Mem Step PEmJoin PLib FRow KeptRow L13Base R11D EmitForwS
set_option maxRecDepth 100000
set_option linter.unusedVariables false
set_option linter.unusedSimpArgs false
set_option maxHeartbeats 12800000 in
theorem coreC (data from_ : ByteArray) (hd : data.size ≤ 140737488351232) (hf : from_.size ≤ 140737488351232) (w : World) (hm : MaxInt w) (hp : Pow w) : (coreB data from_ hd hf w hm hp).1 := by
  have HM := Lib.hid hm
  have HP := Lib.hid hp
  have HS := Lib.hid hf
  conv => whnf
  intro q n pp cap Wz g nv nx W3 K0 wr u4 u13 u89 u90 u91 u92 u93 u94 u95 u96 u97 u98 u99 u100 k RQ OT Qa Qb p8 cap8 p R2 E1 E2 Kb hb p2 cap2 HQ2 W11 Q5 g2 Q6 B6 c0 c9 c10 c11 c12 c13 c14 c15 c17 d0 d5 d9 d10 d11 d12 d13 d14 d15 d17
  by_cases n7 : 5000 < (ofL RQ).size
  · have i7 : decide ((5000 : Int) < ((ofL RQ).size : Int)) = true := decide_eq_true (by omega)
    clear n7
    as_aux_lemma =>
      go_wp2_with fail
      go_ret
      exact ⟨rfl, B6.out⟩
  have i7 : decide ((5000 : Int) < ((ofL RQ).size : Int)) = false := decide_eq_false (by omega)
  have t0 := is_text2 (ofL q.head.method)
  have t1 := is_text2 (ofL q.target.path)
  have t2 := is_text2 (ofL q.target.query)
  have t3 := is_text2 (ofL q.host)
  have t4 := is_text2 (ofL q.body)
  have t5 := is_text2 (ofL q.upgrade)
  have t6 : (q.target.has != q.target.has) = false := by simp
  have t7 : (q.sized != q.sized) = false := by simp
  have t8 : (q.port != q.port) = false := by simp
  have t9 : ((((ofL RQ).size : Nat) : Int) != (((ofL RQ).size : Nat) : Int)) = false := by simp
  have HF2 := Lib.hid (few_of R2.out)
  have HG3 := Lib.hid (fun w' hF => R7Get.rget_any (.slice p2 p.head.fields.length cap2) p.head.fields ⟨#[116, 114, 97, 110, 115, 102, 101, 114, 45, 101, 110, 99, 111, 100, 105, 110, 103]⟩ (by decide) HF2.out w' hF)
  rw [show toL ⟨#[116, 114, 97, 110, 115, 102, 101, 114, 45, 101, 110, 99, 111, 100, 105, 110, 103]⟩ = TENC from rfl, E2.out.1] at HG3
  have HG4 := Lib.hid (fun w' hF => R7Get.rget_any (.slice p2 p.head.fields.length cap2) p.head.fields ⟨#[99, 111, 110, 110, 101, 99, 116, 105, 111, 110]⟩ (by decide) HF2.out w' hF)
  rw [show toL ⟨#[99, 111, 110, 110, 101, 99, 116, 105, 111, 110]⟩ = CONNECTION from rfl, E2.out.2] at HG4
  clear n7
  go_wp2_with fail
  refine (HG3.out _ Q6.out.fl).mono ?_
  rintro e w12 ⟨rfl, hb12⟩
  have Q7 := Lib.hid (Q6.out.call hb12)
  have Q8 := Lib.hid (Q5.out.call hb12)
  have b6 := Q7.out.box
  rw [HQ2.out] at b6
  have k5 : w12.cell? ⟨g2, 5, none⟩ = some (.slice p2 p.head.fields.length cap2) := b6.cell 5
  clear t0 t1 t2 t3 t4 t5 t6 t7 t8 t9 i7 c0 c9 c10 c11 c12 c13 c14 c15 c17 d0 d5 d9 d10 d11 d12 d13 d14 d15 d17 HG3 hb12 b6 Q5 Q6 B6
  have z0 : (((0 : Nat) : Int) != 0) = false := rfl
  go_wp2_with fail
  refine (HG4.out _ Q7.out.fl).mono ?_
  rintro e w13 ⟨rfl, hb13⟩
  have B9 := Lib.hid (Q8.out.call hb13).below
  have k17 : w13.cell? ⟨g, 17, none⟩ = some (.string (ofL q.upgrade)) := (Q8.out.call hb13).box.cell 17
  clear k5 HG4 hb13 Q7 Q8
  obtain ⟨y1, y2⟩ := emptyT q.upgrade
  by_cases hu : q.upgrade = []
  · rw [decide_eq_true hu] at y1 y2
    rw [if_pos hu]
    have y3 : (ofL q.upgrade).toList = [] := by simpa using y1
    clear hu
    go_wp2_with fail
    go_ret
    exact ⟨rfl, B9.out⟩
  · rw [decide_eq_false hu] at y1 y2
    rw [if_neg hu]
    have y3 : ¬ ((ofL q.upgrade).toList = []) := by simpa using y1
    clear hu
    go_wp2_with fail
    go_ret
    exact ⟨rfl, B9.out⟩
end Go.Proofs.YtblpooddamkfdaaGreatDoor.EmitForwardsW

/- EmitForwards: the whole walk. -/
namespace Go.Proofs.YtblpooddamkfdaaGreatDoor.EmitForwardsW
open Go.ChangeShapes Go.WideShapes Go.ChangeAt Go.RowKit Bytes LexPure FieldsPure HeadPure FramePure TargetPure InflowPure EmitPure Flds HBox Mem Step PEmJoin PLib FRow KeptRow L13Base R11D EmitForwS
set_option maxRecDepth 100000
set_option linter.unusedVariables false
set_option linter.unusedSimpArgs false
theorem core (data from_ : ByteArray) (hd : data.size ≤ 140737488351232) (hf : from_.size ≤ 140737488351232) (w : World) (hm : MaxInt w) (hp : Pow w) :
    Calls Tryz.prog 3 #[.string data, .string from_] w fun e w' => e = .returned (.bool true) ∧ Below w.heap.size w w' :=
  (coreA data from_ hd hf w hm hp).2 ((coreB data from_ hd hf w hm hp).2 (coreC data from_ hd hf w hm hp))
theorem walk (a0 : ByteArray) (w0 : a0.size ≤ maxLen) (z0 : a0.size ≤ 140737488351232) (a1 : ByteArray) (w1 : a1.size ≤ maxLen) (z1 : a1.size ≤ 140737488351232) (W : World)
    (hsh : W.ShapedOpen Tryz.prog) (hlaid : laidMetH Tryz.prog Rows.emitForwardsRow.laid W) :
    Calls Tryz.prog 3 #[.string a0, .string a1] W fun e w' => e = .returned (.bool true) ∧ Below W.heap.size W w' :=
  core a0 a1 z0 z1 W (MaxInt.of_shape hsh) (pow_of_laid rfl hlaid)
end Go.Proofs.YtblpooddamkfdaaGreatDoor.EmitForwardsW
