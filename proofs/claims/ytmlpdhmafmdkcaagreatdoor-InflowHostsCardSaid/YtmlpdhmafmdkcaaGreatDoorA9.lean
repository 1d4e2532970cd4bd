/- Texts of this seat, one behind another: PJudgeA. -/

import Derived.Test.YtmlpdhmafmdkcaaGreatDoorA8
/- Layer 11 of the program: judge, the ends with a status. -/
namespace Go.Proofs.YtmlpdhmafmdkcaaGreatDoor.PJudge
open Go.ChangeShapes Go.WideShapes Go.ChangeAt Go.RowKit LexPure Bytes Ret FieldsPure Flds HeadPure HBox HostPure TargetPure FramePure FrBox InflowPure InJudge QCell TBox PHost11 PUp11 PStat11 PGet PUnder TParse Mem
set_option maxRecDepth 20000
set_option linter.unusedVariables false
set_option linter.unusedSimpArgs false
set_option maxHeartbeats 6400000 in
theorem pjudge_bad (h : H8) (v : Value) (most : Int) (hmin : 0 ≤ h.minor) (hG : Few h.fields) (hle : h.fields.length ≤ 32) (ht : h.target.length ≤ 1100) (w : World) (hF : FL w v h.fields) (hm : MaxInt w) (s : Int) (hs : judge11 h most = .bad s) :
    Calls Tryz.prog 25 #[hv h v, .int .i64 most] w fun e w' => e = .returned (jdV (judge11 h most) v) ∧ Below w.heap.size w w' := by
  obtain ⟨vp, vc, hv0, hnl, _⟩ := id hF
  subst hv0
  have HJ := Lib.hid (JS.start w h (.slice vp h.fields.length vc) hF hm)
  have HP := Lib.hid (fun w hm => tparse_any (ofL h.method) (ofL h.target) (by rw [ofL_size]; omega) w hm)
  rw [toL_ofL, toL_ofL] at HP
  have HS := Lib.hid pstatus11_any
  obtain ⟨X, hX⟩ : ∃ X, X = judge11 h most := ⟨_, rfl⟩
  have hXs : Hid (X = .bad s) := Lib.hid (by rw [hX, hs])
  rw [← hX]
  unfold judge11 at hX
  have hps := fun (q : (parse6 h.method h.target).2 ≠ 0) => parse_status q
  have hpb := fun (q : (parse6 h.method h.target).2 = 0) => parse_bare q
  generalize parse6 h.method h.target = x at *
  obtain ⟨t, er⟩ := x
  dsimp only at hX hps hpb
  unfold hc zq at HJ
  unfold hv
  clear hF hm hnl
  go_enter Tryz.func25, Tryz.ntmps25
  go_wp2_with fail
  generalize ((w.alloc (.cells #[.string (ofL h.method), .string (ofL h.target), .int .i64 h.status, .string (ofL h.reason), .int .i64 h.minor, .slice vp h.fields.length vc] 31)).alloc (.cells #[.string ⟨#[]⟩, .string ⟨#[]⟩, .int .i64 0, .string ⟨#[]⟩, .int .i64 0, .slice none 0 0, .int .i64 0, .string ⟨#[]⟩, .int .i64 0, .string ⟨#[]⟩, .string ⟨#[]⟩, .bool false, .string ⟨#[]⟩, .int .i64 0, .string ⟨#[]⟩, .bool false, .bool false, .string ⟨#[]⟩] RQT)).alloc (.cells #[.int .i64 0, .int .i64 0] FRT) = W at HJ ⊢
  unfold TBox.rv TBox.tv at HP
  dsimp only at HP
  refine (HP.out _ HJ.out.mi).mono ?_
  rintro e w2 ⟨rfl, hb2⟩
  have J2 := Lib.hid (HJ.out.call hb2)
  clear HP HJ hb2
  by_cases hE : er ≠ 0
  · have HX : Hid (X = .bad 400) := Lib.hid (by rw [hX, if_pos hE])
    have hst := hps hE
    have hEb : (er != 0) = true := bne_iff_ne.2 hE
    have J3 := Lib.hid (J2.out.call ((Below.refl _ _).alloc (Nat.le_refl _) (.cells (TBox.tc t) 33)))
    unfold TBox.tc at J3
    have r1 := J3.out.res.at_
    have f1 := (has_row_far J3.out.fr (show w.heap.size + 2 ≠ w.heap.size + 1 by omega) zq).at_
    have HB := Lib.hid J3.out.bad
    have h1 := HS.out er
    rw [hst] at h1
    replace h1 := Lib.hid h1
    clear hX hps hpb J2 J3 hE hst HS
    go_wp2_with fail
    refine (h1.out _).mono ?_
    rintro e w3 ⟨rfl, rfl⟩
    go_wp2_with (first
      | (refine wpList_store_row rfl RQT (.tmp 4) (.tmp 26) rfl _ zq rfl rfl RQT zq r1 rq_size rfl zq_one ?_)
      | (refine wpList_store_row rfl FRT (.tmp 5) (.tmp 27) rfl _ _ rfl rfl FRT _ f1 fr_size rfl (two_one 0 0) ?_))
    refine bodyPost_ret (v := jdV X (.slice vp h.fields.length vc)) ?_ rfl ⟨rfl, HB.out.1⟩
    rw [results_two rfl, HX.out]
    exact end_j rfl rfl rfl rfl HB.out.2.1 HB.out.2.2
  have hE0 : er = 0 := Classical.not_not.1 hE
  rw [if_neg hE, host_prog h t (hpb hE0)] at hX
  have hhe := host_e h t
  subst hE0
  have HT := Lib.hid (JT.start J2.out t w2.heap.size rfl)
  unfold TBox.tc at HT
  have HO := Lib.hid (fun W hF hm => phost11_any h (.slice vp h.fields.length vc) t hG W hF hm)
  unfold TBox.tv hv hostV at HO
  generalize hostP h t = y at *
  obtain ⟨hn, hp, he⟩ := y
  dsimp only at hX HO hhe
  clear hps hpb hE J2
  obtain ⟨d0, d1, d2, d3, d4, d5⟩ := HT.out.js.box.cells
  obtain ⟨t0, t1, t2, t3, t4, t5⟩ := HT.out.tcells
  go_wp2_with fail
  generalize w2.alloc (.cells #[.int .i64 t.form, .string (ofL t.host), .int .i64 t.port, .string (ofL t.path), .string (ofL t.query), .bool t.has] 33) = W3 at HT d0 d1 d2 d3 d4 d5 t0 t1 t2 t3 t4 t5 ⊢
  generalize w2.heap.size = k at HT t0 t1 t2 t3 t4 t5 ⊢
  refine (HO.out _ HT.out.js.list HT.out.js.mi).mono ?_
  rintro e w4 ⟨rfl, hb4⟩
  replace HT := Lib.hid (HT.out.call hb4)
  clear HO hb4 d0 d1 d2 d3 d4 d5 t0 t1 t2 t3 t4 t5
  by_cases hH : he ≠ 0
  · have hst : status11 he = 400 := by
      rcases hhe with q | q
      · exact absurd q hH
      · rw [q]; rfl
    have hHb : (he != 0) = true := bne_iff_ne.2 hH
    have HX : Hid (X = .bad 400) := Lib.hid (by rw [hX, if_neg hH])
    have r1 := HT.out.js.res.at_
    have f1 := (has_row_far HT.out.js.fr (show w.heap.size + 2 ≠ w.heap.size + 1 by omega) zq).at_
    have HB := Lib.hid HT.out.js.bad
    have h1 := HS.out he
    rw [hst] at h1
    replace h1 := Lib.hid h1
    clear hX hhe hH hst HS HT
    go_wp2_with fail
    refine (h1.out _).mono ?_
    rintro e w3 ⟨rfl, rfl⟩
    go_wp2_with (first
      | (refine wpList_store_row rfl RQT (.tmp 4) (.tmp 39) rfl _ zq rfl rfl RQT zq r1 rq_size rfl zq_one ?_)
      | (refine wpList_store_row rfl FRT (.tmp 5) (.tmp 40) rfl _ _ rfl rfl FRT _ f1 fr_size rfl (two_one 0 0) ?_))
    refine bodyPost_ret (v := jdV X (.slice vp h.fields.length vc)) ?_ rfl ⟨rfl, HB.out.1⟩
    rw [results_two rfl, HX.out]
    exact end_j rfl rfl rfl rfl HB.out.2.1 HB.out.2.2
  have hH0 : he = 0 := Classical.not_not.1 hH
  subst hH0
  rw [if_pos rfl] at hX
  dsimp only at hX
  clear hhe hH
  obtain ⟨d0, d1, d2, d3, d4, d5⟩ := HT.out.js.box.cells
  have HG := Lib.hid (fun W hF => pget_any (.slice vp h.fields.length vc) h.fields ⟨#[69, 120, 112, 101, 99, 116]⟩ hG W hF)
  rw [show toL ⟨#[69, 120, 112, 101, 99, 116]⟩ = aEXPECT from rfl, getV_same low_e, FrNames.getN_same low_e] at HG
  generalize getN h.fields EXPECT = ne at *
  generalize ofL (getV h.fields EXPECT) = ve at *
  go_wp2_with fail
  refine (HG.out _ HT.out.js.list).mono ?_
  rintro e w5 ⟨rfl, hb5⟩
  replace HT := Lib.hid (HT.out.call hb5)
  clear HG hb5 d0 d1 d2 d3 d4 d5
  by_cases hN : 0 < ne
  · have hNi : (0 : Int) < (ne : Int) := by omega
    have HX : Hid (X = .bad 417) := Lib.hid (by rw [hX, if_pos hN])
    have r1 := HT.out.js.res.at_
    have f1 := (has_row_far HT.out.js.fr (show w.heap.size + 2 ≠ w.heap.size + 1 by omega) zq).at_
    have HB := Lib.hid HT.out.js.bad
    clear hX hN HS HT
    go_wp2_with (first
      | (refine wpList_store_row rfl RQT (.tmp 4) (.tmp 51) rfl _ zq rfl rfl RQT zq r1 rq_size rfl zq_one ?_)
      | (refine wpList_store_row rfl FRT (.tmp 5) (.tmp 52) rfl _ _ rfl rfl FRT _ f1 fr_size rfl (two_one 0 0) ?_))
    refine bodyPost_ret (v := jdV X (.slice vp h.fields.length vc)) ?_ rfl ⟨rfl, HB.out.1⟩
    rw [results_two rfl, HX.out]
    exact end_j rfl rfl rfl rfl HB.out.2.1 HB.out.2.2
  rw [if_neg hN] at hX
  have hNi : ¬ (0 : Int) < (ne : Int) := by omega
  obtain ⟨d0, d1, d2, d3, d4, d5⟩ := HT.out.js.box.cells
  have HR := Lib.hid (fun W hF hm => PFrReq.prequest_any h (.slice vp h.fields.length vc) most hG (by omega) W hF hm)
  unfold hv frv9 at HR
  have hfk := fun q => frame_kind h.minor h.fields most q
  generalize request9 h.minor h.fields most = r at *
  obtain ⟨ki, le, fe⟩ := r
  dsimp only at hX HR hfk
  clear hN
  go_wp2_with fail
  refine (HR.out _ HT.out.js.list HT.out.js.mi).mono ?_
  rintro e w6 ⟨rfl, hb6⟩
  replace HT := Lib.hid (HT.out.call hb6)
  clear HR hb6 d0 d1 d2 d3 d4 d5 hNi
  have HT2 := Lib.hid (HT.out.call ((Below.refl _ _).alloc (Nat.le_refl _) (.cells #[.int .i64 ki, .int .i64 le] FRT)))
  have F2 : Hid (Has (w6.alloc (.cells #[.int .i64 ki, .int .i64 le] FRT)) w6.heap.size FRT #[.int .i64 ki, .int .i64 le]) := Lib.hid (Has.new _ _ _)
  have hk2 : Hid (k < w6.heap.size) := Lib.hid HT.out.tb.lt
  clear HT
  by_cases hFe : fe ≠ 0
  · have hFb : (fe != 0) = true := bne_iff_ne.2 hFe
    have HT := HT2
    have HX : Hid (X = .bad (status11 fe)) := Lib.hid (by rw [hX, if_pos hFe])
    have r1 := HT.out.js.res.at_
    have f1 := (has_row_far HT.out.js.fr (show w.heap.size + 2 ≠ w.heap.size + 1 by omega) zq).at_
    have HB := Lib.hid HT.out.js.bad
    have h1 := Lib.hid (HS.out fe)
    clear hX hFe HS HT HT2 F2 hk2 hfk
    go_wp2_with fail
    refine (h1.out _).mono ?_
    rintro e w3 ⟨rfl, rfl⟩
    go_wp2_with (first
      | (refine wpList_store_row rfl RQT (.tmp 4) (.tmp 61) rfl _ zq rfl rfl RQT zq r1 rq_size rfl zq_one ?_)
      | (refine wpList_store_row rfl FRT (.tmp 5) (.tmp 62) rfl _ _ rfl rfl FRT _ f1 fr_size rfl (two_one 0 0) ?_))
    refine bodyPost_ret (v := jdV X (.slice vp h.fields.length vc)) ?_ rfl ⟨rfl, HB.out.1⟩
    rw [results_two rfl, HX.out]
    exact end_j rfl rfl rfl rfl HB.out.2.1 HB.out.2.2
  rw [if_neg hFe] at hX
  have hF0 : fe = 0 := Classical.not_not.1 hFe
  have hki := hfk hF0
  subst hF0
  clear hFe hfk
  have e0 := (F2.out.cell 0).trans rfl
  obtain ⟨d0, d1, d2, d3, d4, d5⟩ := HT2.out.js.box.cells
  have tm : ((ofL h.method).toList == [67, 79, 78, 78, 69, 67, 84]) = decide (h.method = TargetPure.CONNECT) := by
    rw [PUp11.text_at, toL_ofL]
    rfl
  obtain ⟨sz, hsz⟩ : ∃ sz, sz = (ki != 1) := ⟨_, rfl⟩
  have hszd : decide (ki ≠ 1) = sz := by
    rw [hsz]
    by_cases q : ki = 1
    · rw [q]; rfl
    · rw [decide_eq_true q, bne_iff_ne.2 q]
  rw [hszd] at hX
  by_cases hC : h.method = TargetPure.CONNECT ∧ ki ≠ 1
  · have HT := HT2
    rw [decide_eq_true hC.1] at tm
    have hsz1 : (ki != 1) = true := bne_iff_ne.2 hC.2
    have HX : Hid (X = .bad 400) := Lib.hid (by rw [hX, if_pos hC])
    have r1 := HT.out.js.res.at_
    have f1 := (has_row_far HT.out.js.fr (show w.heap.size + 2 ≠ w.heap.size + 1 by omega) zq).at_
    have HB := Lib.hid HT.out.js.bad
    clear hX hC HS HT HT2 F2 hk2 hki hsz hszd
    go_wp2_with (first
      | (refine wpList_store_row rfl RQT (.tmp 4) (.tmp 74) rfl _ zq rfl rfl RQT zq r1 rq_size rfl zq_one ?_)
      | (refine wpList_store_row rfl FRT (.tmp 5) (.tmp 75) rfl _ _ rfl rfl FRT _ f1 fr_size rfl (two_one 0 0) ?_))
    refine bodyPost_ret (v := jdV X (.slice vp h.fields.length vc)) ?_ rfl ⟨rfl, HB.out.1⟩
    rw [results_two rfl, HX.out]
    exact end_j rfl rfl rfl rfl HB.out.2.1 HB.out.2.2
  rw [if_neg hC] at hX
  exact absurd (hX.symm.trans hXs.out) (fun q => by cases q)
end Go.Proofs.YtmlpdhmafmdkcaaGreatDoor.PJudge
