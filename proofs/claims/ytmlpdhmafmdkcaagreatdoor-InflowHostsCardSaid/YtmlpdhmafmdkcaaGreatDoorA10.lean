/- Texts of this seat, one behind another: PJudgeB1. -/

import Derived.Test.YtmlpdhmafmdkcaaGreatDoorA8
/- Layer 11 of the program: judge, a CONNECT. -/
namespace Go.Proofs.YtmlpdhmafmdkcaaGreatDoor.PJudge
open Go.ChangeShapes Go.WideShapes Go.ChangeAt Go.RowKit LexPure Bytes Ret FieldsPure Flds HeadPure HBox HostPure TargetPure FramePure FrBox InflowPure InJudge QCell TBox PHost11 PUp11 PStat11 PGet PUnder TParse Mem
set_option maxRecDepth 20000
set_option linter.unusedVariables false
set_option linter.unusedSimpArgs false
set_option maxHeartbeats 6400000 in
theorem pjudge_ok1 (h : H8) (v : Value) (most : Int) (hmin : 0 ≤ h.minor) (hG : Few h.fields) (hle : h.fields.length ≤ 32) (ht : h.target.length ≤ 1100) (w : World) (hF : FL w v h.fields) (hm : MaxInt w) (q : Rq) (kk ll : Int) (hs : judge11 h most = .ok q kk ll) (hc1 : decide (h.method = TargetPure.CONNECT) = true) (hc2 : ((request9 h.minor h.fields most).1 != 1) = false) :
    Calls Tryz.prog 25 #[hv h v, .int .i64 most] w fun e w' => e = .returned (jdV (judge11 h most) v) ∧ Below w.heap.size w w' := by
  obtain ⟨vp, vc, hv0, hnl, _⟩ := id hF
  subst hv0
  have HJ := Lib.hid (JS.start w h (.slice vp h.fields.length vc) hF hm)
  have HP := Lib.hid (fun w hm => tparse_any (ofL h.method) (ofL h.target) (by rw [ofL_size]; omega) w hm)
  rw [toL_ofL, toL_ofL] at HP
  have HS := Lib.hid pstatus11_any
  obtain ⟨X, hX⟩ : ∃ X, X = judge11 h most := ⟨_, rfl⟩
  have hXs : Hid (X = .ok q kk ll) := Lib.hid (by rw [hX, hs])
  rw [← hX]
  unfold judge11 at hX
  have hps := fun (q : (parse6 h.method h.target).2 ≠ 0) => parse_status q
  have hpb := fun (q : (parse6 h.method h.target).2 = 0) => parse_bare q
  generalize parse6 h.method h.target = x at *
  obtain ⟨t, er⟩ := x
  dsimp only at hX hps hpb
  unfold hc zq at HJ
  unfold hv
  clear hF hm hnl
  go_enter Tryz.func25, Tryz.ntmps25
  go_wp2_with fail
  generalize ((w.alloc (.cells #[.string (ofL h.method), .string (ofL h.target), .int .i64 h.status, .string (ofL h.reason), .int .i64 h.minor, .slice vp h.fields.length vc] 31)).alloc (.cells #[.string ⟨#[]⟩, .string ⟨#[]⟩, .int .i64 0, .string ⟨#[]⟩, .int .i64 0, .slice none 0 0, .int .i64 0, .string ⟨#[]⟩, .int .i64 0, .string ⟨#[]⟩, .string ⟨#[]⟩, .bool false, .string ⟨#[]⟩, .int .i64 0, .string ⟨#[]⟩, .bool false, .bool false, .string ⟨#[]⟩] RQT)).alloc (.cells #[.int .i64 0, .int .i64 0] FRT) = W at HJ ⊢
  unfold TBox.rv TBox.tv at HP
  dsimp only at HP
  refine (HP.out _ HJ.out.mi).mono ?_
  rintro e w2 ⟨rfl, hb2⟩
  have J2 := Lib.hid (HJ.out.call hb2)
  clear HP HJ hb2
  by_cases hE : er ≠ 0
  · have HX : Hid (X = .bad 400) := Lib.hid (by rw [hX, if_pos hE])
    have hst := hps hE
    have hEb : (er != 0) = true := bne_iff_ne.2 hE
    have J3 := Lib.hid (J2.out.call ((Below.refl _ _).alloc (Nat.le_refl _) (.cells (TBox.tc t) 33)))
    unfold TBox.tc at J3
    have r1 := J3.out.res.at_
    have f1 := (has_row_far J3.out.fr (show w.heap.size + 2 ≠ w.heap.size + 1 by omega) zq).at_
    have HB := Lib.hid J3.out.bad
    have h1 := HS.out er
    rw [hst] at h1
    replace h1 := Lib.hid h1
    clear hX hps hpb J2 J3 hE hst HS
    go_wp2_with fail
    refine (h1.out _).mono ?_
    rintro e w3 ⟨rfl, rfl⟩
    go_wp2_with (first
      | (refine wpList_store_row rfl RQT (.tmp 4) (.tmp 26) rfl _ zq rfl rfl RQT zq r1 rq_size rfl zq_one ?_)
      | (refine wpList_store_row rfl FRT (.tmp 5) (.tmp 27) rfl _ _ rfl rfl FRT _ f1 fr_size rfl (two_one 0 0) ?_))
    refine bodyPost_ret (v := jdV X (.slice vp h.fields.length vc)) ?_ rfl ⟨rfl, HB.out.1⟩
    rw [results_two rfl, HX.out]
    exact end_j rfl rfl rfl rfl HB.out.2.1 HB.out.2.2
  have hE0 : er = 0 := Classical.not_not.1 hE
  rw [if_neg hE, host_prog h t (hpb hE0)] at hX
  have hhe := host_e h t
  subst hE0
  have HT := Lib.hid (JT.start J2.out t w2.heap.size rfl)
  unfold TBox.tc at HT
  have HO := Lib.hid (fun W hF hm => phost11_any h (.slice vp h.fields.length vc) t hG W hF hm)
  unfold TBox.tv hv hostV at HO
  generalize hostP h t = y at *
  obtain ⟨hn, hp, he⟩ := y
  dsimp only at hX HO hhe
  clear hps hpb hE J2
  obtain ⟨d0, d1, d2, d3, d4, d5⟩ := HT.out.js.box.cells
  obtain ⟨t0, t1, t2, t3, t4, t5⟩ := HT.out.tcells
  go_wp2_with fail
  generalize w2.alloc (.cells #[.int .i64 t.form, .string (ofL t.host), .int .i64 t.port, .string (ofL t.path), .string (ofL t.query), .bool t.has] 33) = W3 at HT d0 d1 d2 d3 d4 d5 t0 t1 t2 t3 t4 t5 ⊢
  generalize w2.heap.size = k at HT t0 t1 t2 t3 t4 t5 ⊢
  refine (HO.out _ HT.out.js.list HT.out.js.mi).mono ?_
  rintro e w4 ⟨rfl, hb4⟩
  replace HT := Lib.hid (HT.out.call hb4)
  clear HO hb4 d0 d1 d2 d3 d4 d5 t0 t1 t2 t3 t4 t5
  by_cases hH : he ≠ 0
  · have hst : status11 he = 400 := by
      rcases hhe with q | q
      · exact absurd q hH
      · rw [q]; rfl
    have hHb : (he != 0) = true := bne_iff_ne.2 hH
    have HX : Hid (X = .bad 400) := Lib.hid (by rw [hX, if_neg hH])
    exact absurd (HX.out.symm.trans hXs.out) (fun q => by cases q)
  have hH0 : he = 0 := Classical.not_not.1 hH
  subst hH0
  rw [if_pos rfl] at hX
  dsimp only at hX
  clear hhe hH
  obtain ⟨d0, d1, d2, d3, d4, d5⟩ := HT.out.js.box.cells
  have HG := Lib.hid (fun W hF => pget_any (.slice vp h.fields.length vc) h.fields ⟨#[69, 120, 112, 101, 99, 116]⟩ hG W hF)
  rw [show toL ⟨#[69, 120, 112, 101, 99, 116]⟩ = aEXPECT from rfl, getV_same low_e, FrNames.getN_same low_e] at HG
  generalize getN h.fields EXPECT = ne at *
  generalize ofL (getV h.fields EXPECT) = ve at *
  go_wp2_with fail
  refine (HG.out _ HT.out.js.list).mono ?_
  rintro e w5 ⟨rfl, hb5⟩
  replace HT := Lib.hid (HT.out.call hb5)
  clear HG hb5 d0 d1 d2 d3 d4 d5
  by_cases hN : 0 < ne
  · have hNi : (0 : Int) < (ne : Int) := by omega
    have HX : Hid (X = .bad 417) := Lib.hid (by rw [hX, if_pos hN])
    exact absurd (HX.out.symm.trans hXs.out) (fun q => by cases q)
  rw [if_neg hN] at hX
  have hNi : ¬ (0 : Int) < (ne : Int) := by omega
  obtain ⟨d0, d1, d2, d3, d4, d5⟩ := HT.out.js.box.cells
  have HR := Lib.hid (fun W hF hm => PFrReq.prequest_any h (.slice vp h.fields.length vc) most hG (by omega) W hF hm)
  unfold hv frv9 at HR
  have hfk := fun q => frame_kind h.minor h.fields most q
  generalize request9 h.minor h.fields most = r at *
  obtain ⟨ki, le, fe⟩ := r
  dsimp only at hX HR hfk
  clear hN
  go_wp2_with fail
  refine (HR.out _ HT.out.js.list HT.out.js.mi).mono ?_
  rintro e w6 ⟨rfl, hb6⟩
  replace HT := Lib.hid (HT.out.call hb6)
  clear HR hb6 d0 d1 d2 d3 d4 d5 hNi
  have HT2 := Lib.hid (HT.out.call ((Below.refl _ _).alloc (Nat.le_refl _) (.cells #[.int .i64 ki, .int .i64 le] FRT)))
  have F2 : Hid (Has (w6.alloc (.cells #[.int .i64 ki, .int .i64 le] FRT)) w6.heap.size FRT #[.int .i64 ki, .int .i64 le]) := Lib.hid (Has.new _ _ _)
  have hk2 : Hid (k < w6.heap.size) := Lib.hid HT.out.tb.lt
  clear HT
  by_cases hFe : fe ≠ 0
  · have hFb : (fe != 0) = true := bne_iff_ne.2 hFe
    have HT := HT2
    have HX : Hid (X = .bad (status11 fe)) := Lib.hid (by rw [hX, if_pos hFe])
    exact absurd (HX.out.symm.trans hXs.out) (fun q => by cases q)
  rw [if_neg hFe] at hX
  have hF0 : fe = 0 := Classical.not_not.1 hFe
  have hki := hfk hF0
  subst hF0
  clear hFe hfk
  have e0 := (F2.out.cell 0).trans rfl
  obtain ⟨d0, d1, d2, d3, d4, d5⟩ := HT2.out.js.box.cells
  have tm : ((ofL h.method).toList == [67, 79, 78, 78, 69, 67, 84]) = decide (h.method = TargetPure.CONNECT) := by
    rw [PUp11.text_at, toL_ofL]
    rfl
  obtain ⟨sz, hsz⟩ : ∃ sz, sz = (ki != 1) := ⟨_, rfl⟩
  have hszd : decide (ki ≠ 1) = sz := by
    rw [hsz]
    by_cases q : ki = 1
    · rw [q]; rfl
    · rw [decide_eq_true q, bne_iff_ne.2 q]
  rw [hszd] at hX
  by_cases hC : h.method = TargetPure.CONNECT ∧ ki ≠ 1
  · have HT := HT2
    rw [decide_eq_true hC.1] at tm
    have hsz1 : (ki != 1) = true := bne_iff_ne.2 hC.2
    have HX : Hid (X = .bad 400) := Lib.hid (by rw [hX, if_pos hC])
    exact absurd (HX.out.symm.trans hXs.out) (fun q => by cases q)
  rw [if_neg hC] at hX
  have HKp := Lib.hid (fun W hF hm => PKeep9.pkeep_any h (.slice vp h.fields.length vc) hG W hF hm)
  unfold hv at HKp
  obtain ⟨kp, hkp⟩ : ∃ kp, kp = keep9 h.minor h.fields := ⟨_, rfl⟩
  rw [← hkp] at hX HKp
  replace hkp := Lib.hid hkp
  replace hX := Lib.hid hX
  replace hszd := Lib.hid hszd
  replace hki := Lib.hid hki
  replace hk2 := Lib.hid hk2.out
  obtain ⟨cm, hcm⟩ : ∃ cm, cm = decide (h.method = TargetPure.CONNECT) := ⟨_, rfl⟩
  rw [← hcm] at tm
  have hcs : (cm && sz) = false := by
    rw [hcm, hsz]
    cases hd : decide (h.method = TargetPure.CONNECT) with
    | false => rfl
    | true =>
      have q1 := of_decide_eq_true hd
      cases hq : (ki != 1) with
      | false => rfl
      | true => exact absurd ⟨q1, bne_iff_ne.1 hq⟩ hC
  rw [hc2] at hsz
  rw [hc1] at hcm
  subst hsz
  subst hcm
  have hsz := hc2
  clear hc1 hc2 hC HS
  clear hcs
  go_wp2_with fail
  generalize w6.alloc (.cells #[.int .i64 ki, .int .i64 le] FRT) = W6 at HT2 F2 e0 d0 d1 d2 d3 d4 d5 ⊢
  generalize w6.heap.size = jf at F2 e0 hk2 ⊢
  have HTd : JT w W6.drew h (.slice vp h.fields.length vc) t k := HT2.out.call ⟨rfl, rfl, rfl, Nat.le_refl _, fun _ _ => rfl⟩
  have HTa : JT w (W6.drew.alloc (.cells zq RQT)) h (.slice vp h.fields.length vc) t k := HTd.call ((Below.refl _ _).alloc (Nat.le_refl _) _)
  have F3 := F2.out.drew
  have hone : (#[.string (ofL h.method), .string (ofL h.target), .int .i64 h.status, .string (ofL h.reason), .int .i64 h.minor, .slice vp h.fields.length vc, .int .i64 t.form, .string (ofL t.host), .int .i64 t.port, .string (ofL t.path), .string (ofL t.query), .bool t.has, .string (ofL hn), .int .i64 hp, .string ⟨#[]⟩, .bool false, .bool kp, .string ⟨#[]⟩] : Array Value).all (·.oneCell') = true := by simp [Value.oneCell']
  clear d0 d1 d2 d3 d4 d5 e0
  refine wp_region_held_drew (S := fun w' => JT w w' h (.slice vp h.fields.length vc) t k) (by kernel_rfl) HTd (fun hHeld => ?_)
  refine wpAnyH_take (i := 0) (v := .agg #[.string (ofL h.method), .string (ofL h.target), .int .i64 h.status, .string (ofL h.reason), .int .i64 h.minor, .slice vp h.fields.length vc]) rfl (by kernel_rfl) (by kernel_rfl) (by kernel_rfl) (fun _ _ _ h => h) (Or.inl ⟨by rfl, (fun w hSw => by obtain ⟨d0, d1, d2, d3, d4, d5, t0, t1, t2, t3, t4, t5⟩ := JT.scells hSw; go_simp)⟩) hHeld ?_
  refine wpAnyH_take (i := 1) (v := .agg #[.int .i64 t.form, .string (ofL t.host), .int .i64 t.port, .string (ofL t.path), .string (ofL t.query), .bool t.has]) rfl (by kernel_rfl) (by kernel_rfl) (by kernel_rfl) (fun _ _ _ h => h) (Or.inl ⟨by rfl, (fun w hSw => by obtain ⟨d0, d1, d2, d3, d4, d5, t0, t1, t2, t3, t4, t5⟩ := JT.scells hSw; go_simp)⟩) hHeld ?_
  refine wpAnyH_take (i := 2) (v := .string (ofL hn)) rfl (by kernel_rfl) (by kernel_rfl) (by kernel_rfl) (fun _ _ _ h => h) (Or.inl ⟨by rfl, (fun w _ => by go_simp)⟩) hHeld ?_
  refine wpAnyH_take (i := 3) (v := .int .i64 hp) rfl (by kernel_rfl) (by kernel_rfl) (by kernel_rfl) (fun _ _ _ h => h) (Or.inl ⟨by rfl, (fun w _ => by go_simp)⟩) hHeld ?_
  refine wpAnyH_take (i := 4) (v := .bool false) rfl (by kernel_rfl) (by kernel_rfl) (by kernel_rfl) (fun _ _ _ h => h) (Or.inl ⟨by rfl, (fun w _ => by go_simp)⟩) hHeld ?_
  refine wpAnyH_take (i := 5) (v := .agg #[.string (ofL h.method), .string (ofL h.target), .int .i64 h.status, .string (ofL h.reason), .int .i64 h.minor, .slice vp h.fields.length vc]) rfl (by kernel_rfl) (by kernel_rfl) (by kernel_rfl) (fun _ _ _ h => h) (Or.inl ⟨by rfl, (fun w hSw => by obtain ⟨d0, d1, d2, d3, d4, d5, t0, t1, t2, t3, t4, t5⟩ := JT.scells hSw; go_simp)⟩) hHeld ?_
  refine wpAnyH_ready (rs := [6, 8]) (by kernel_rfl) (by simp) (AllReadyH.cons rfl (fun K hK => ?_) (AllReadyH.cons rfl (fun K hK => ?_) AllReadyH.nil))
  · go_simp
    refine (HKp.out _ HTd.js.list HTd.js.mi).mono ?_
    rintro e w7 ⟨rfl, hb7⟩
    have HTe := HTd.call hb7
    refine hK.out _ _ HTe (fun hHeld => ?_)
    clear hK
    refine wpAnyH_take (i := 7) (v := .agg #[.string (ofL h.method), .string (ofL h.target), .int .i64 h.status, .string (ofL h.reason), .int .i64 h.minor, .slice vp h.fields.length vc, .int .i64 t.form, .string (ofL t.host), .int .i64 t.port, .string (ofL t.path), .string (ofL t.query), .bool t.has, .string (ofL hn), .int .i64 hp, .string ⟨#[]⟩, .bool false, .bool kp, .string ⟨#[]⟩]) rfl (by kernel_rfl) (by kernel_rfl) (by kernel_rfl) (fun _ _ _ h => h) (Or.inl ⟨by rfl, (fun w _ => by go_simp)⟩) hHeld ?_
    refine wpAnyH_ready (rs := [8]) (by kernel_rfl) (by simp) (AllReadyH.cons rfl (fun K hK => ?_) AllReadyH.nil)
    go_simp
    have HTf := HTe.call ((Below.refl _ _).alloc (Nat.le_refl _) (.cells zq RQT))
    unfold zq at HTf
    refine hK.out _ _ HTf (fun hHeld => ?_)
    clear hK HTf
    refine wpAnyH_ready (rs := [9]) (by kernel_rfl) (by simp) (AllReadyH.cons rfl (fun K hK => ?_) AllReadyH.nil)
    rw [if_pos (by rfl)]
    refine wp_store_row RQT (.tmp 15) (.tmp 83) rfl w7.heap.size #[.string (ofL h.method), .string (ofL h.target), .int .i64 h.status, .string (ofL h.reason), .int .i64 h.minor, .slice vp h.fields.length vc, .int .i64 t.form, .string (ofL t.host), .int .i64 t.port, .string (ofL t.path), .string (ofL t.query), .bool t.has, .string (ofL hn), .int .i64 hp, .string ⟨#[]⟩, .bool false, .bool kp, .string ⟨#[]⟩] rfl rfl RQT _ (heap_alloc_new w7 _) rq_size rfl hone ?_
    rw [World.setRow_alloc_new]
    have HTg := HTe.call ((Below.refl _ _).alloc (Nat.le_refl _) (.cells #[.string (ofL h.method), .string (ofL h.target), .int .i64 h.status, .string (ofL h.reason), .int .i64 h.minor, .slice vp h.fields.length vc, .int .i64 t.form, .string (ofL t.host), .int .i64 t.port, .string (ofL t.path), .string (ofL t.query), .bool t.has, .string (ofL hn), .int .i64 hp, .string ⟨#[]⟩, .bool false, .bool kp, .string ⟨#[]⟩] RQT))
    refine hK.out _ _ HTg (fun _ => ?_)
    have F4 := F3.below hb7 F3.lt
    have HQ : Hid (QE w (w7.alloc (.cells #[.string (ofL h.method), .string (ofL h.target), .int .i64 h.status, .string (ofL h.reason), .int .i64 h.minor, .slice vp h.fields.length vc, .int .i64 t.form, .string (ofL t.host), .int .i64 t.port, .string (ofL t.path), .string (ofL t.query), .bool t.has, .string (ofL hn), .int .i64 hp, .string ⟨#[]⟩, .bool false, .bool kp, .string ⟨#[]⟩] RQT)) h (.slice vp h.fields.length vc) t k w7.heap.size jf #[.string (ofL h.method), .string (ofL h.target), .int .i64 h.status, .string (ofL h.reason), .int .i64 h.minor, .slice vp h.fields.length vc, .int .i64 t.form, .string (ofL t.host), .int .i64 t.port, .string (ofL t.path), .string (ofL t.query), .bool t.has, .string (ofL hn), .int .i64 hp, .string ⟨#[]⟩, .bool false, .bool kp, .string ⟨#[]⟩] ki le) := Lib.hid ⟨HTg, Has.new _ _ _, F4.alloc _, by have := HTe.tb.lt; have := HTe.lo; omega, by have := hk2.out; have := HTe.lo; omega, by have := F4.lt; omega, by have := HTe.tb.lt; omega⟩
    clear hK hHeld HTg HTe hb7 F4 HTa HTd F3 HT2 F2 hone
    refine wpAnyH_done (by kernel_rfl) ?_ _
    simp only [Act.put, List.setIfInBounds_toArray, List.set_cons_zero, List.set_cons_succ]
    generalize w7.alloc (.cells #[.string (ofL h.method), .string (ofL h.target), .int .i64 h.status, .string (ofL h.reason), .int .i64 h.minor, .slice vp h.fields.length vc, .int .i64 t.form, .string (ofL t.host), .int .i64 t.port, .string (ofL t.path), .string (ofL t.query), .bool t.has, .string (ofL hn), .int .i64 hp, .string ⟨#[]⟩, .bool false, .bool kp, .string ⟨#[]⟩] RQT) = W8 at HQ ⊢
    generalize w7.heap.size = j at HQ ⊢
    have z17 := (HQ.out.row.cell 17).trans rfl
    have f17 := HQ.out.row.free 17
    obtain ⟨d0, d1, d2, d3, d4, d5⟩ := HQ.out.jt.js.box.cells
    have HU := Lib.hid (pup11_any h (.slice vp h.fields.length vc) hmin hG (by omega) W8 HQ.out.jt.js.list HQ.out.jt.js.mi)
    unfold hv at HU
    generalize hup : up11 h 1 = up at HU
    replace hup := Lib.hid hup
    go_wp2_with fail
    refine HU.out.mono ?_
    rintro e w9 ⟨rfl, hb9⟩
    replace HQ := Lib.hid (HQ.out.call hb9)
    clear HU hb9 d0 d1 d2 d3 d4 d5 z17 f17
    have z17 := (HQ.out.row.cell 17).trans rfl
    have f17 := HQ.out.row.free 17
    have HQ2 := HQ.out.set17 (.string (ofL up)) #[.string (ofL h.method), .string (ofL h.target), .int .i64 h.status, .string (ofL h.reason), .int .i64 h.minor, .slice vp h.fields.length vc, .int .i64 t.form, .string (ofL t.host), .int .i64 t.port, .string (ofL t.path), .string (ofL t.query), .bool t.has, .string (ofL hn), .int .i64 hp, .string ⟨#[]⟩, .bool false, .bool kp, .string (ofL up)] rfl
    go_wp2_with fail
    generalize w9.setCell ⟨j, 17, none⟩ (.string (ofL up)) = W9 at HQ2 ⊢
    clear HQ z17 f17
    have hone2 : (#[.string (ofL h.method), .string (ofL h.target), .int .i64 h.status, .string (ofL h.reason), .int .i64 h.minor, .slice vp h.fields.length vc, .int .i64 t.form, .string (ofL t.host), .int .i64 t.port, .string (ofL t.path), .string (ofL t.query), .bool t.has, .string (ofL hn), .int .i64 hp, .string ⟨#[]⟩, .bool false, .bool kp, .string (ofL up)] : Array Value).all (·.oneCell') = true := by simp [Value.oneCell']
    refine wp_region_held_drew (S := fun w' => Has w' j RQT #[.string (ofL h.method), .string (ofL h.target), .int .i64 h.status, .string (ofL h.reason), .int .i64 h.minor, .slice vp h.fields.length vc, .int .i64 t.form, .string (ofL t.host), .int .i64 t.port, .string (ofL t.path), .string (ofL t.query), .bool t.has, .string (ofL hn), .int .i64 hp, .string ⟨#[]⟩, .bool false, .bool kp, .string (ofL up)] ∧ Has w' jf FRT #[.int .i64 ki, .int .i64 le]) (by kernel_rfl) ⟨HQ2.row.drew, HQ2.frm.drew⟩ (fun hHeld => ?_)
    refine wpAnyH_take (i := 0) (v := .agg #[.string (ofL h.method), .string (ofL h.target), .int .i64 h.status, .string (ofL h.reason), .int .i64 h.minor, .slice vp h.fields.length vc, .int .i64 t.form, .string (ofL t.host), .int .i64 t.port, .string (ofL t.path), .string (ofL t.query), .bool t.has, .string (ofL hn), .int .i64 hp, .string ⟨#[]⟩, .bool false, .bool kp, .string (ofL up)]) rfl (by kernel_rfl) (by kernel_rfl) (by kernel_rfl) (fun _ _ _ h => h) (yields_row (by rfl) (.tmp 15) rfl j rfl _ rfl (fun w h => h.1)) hHeld ?_
    refine wpAnyH_take (i := 1) (v := .agg #[.int .i64 ki, .int .i64 le]) rfl (by kernel_rfl) (by kernel_rfl) (by kernel_rfl) (fun _ _ _ h => h) (yields_frm (by rfl) (.tmp 13) rfl jf rfl _ _ (fun w h => h.2)) hHeld ?_
    refine wpAnyH_ready (rs := [2]) (by kernel_rfl) (by simp) (AllReadyH.cons rfl (fun K hK => ?_) AllReadyH.nil)
    rw [if_pos (by rfl)]
    refine wp_store_row RQT (.tmp 4) (.tmp 89) rfl (w.heap.size + 1) #[.string (ofL h.method), .string (ofL h.target), .int .i64 h.status, .string (ofL h.reason), .int .i64 h.minor, .slice vp h.fields.length vc, .int .i64 t.form, .string (ofL t.host), .int .i64 t.port, .string (ofL t.path), .string (ofL t.query), .bool t.has, .string (ofL hn), .int .i64 hp, .string ⟨#[]⟩, .bool false, .bool kp, .string (ofL up)] rfl rfl RQT _ HQ2.jt.js.res.drew.at_ rq_size rfl hone2 ?_
    have g1 := HQ2.first #[.string (ofL h.method), .string (ofL h.target), .int .i64 h.status, .string (ofL h.reason), .int .i64 h.minor, .slice vp h.fields.length vc, .int .i64 t.form, .string (ofL t.host), .int .i64 t.port, .string (ofL t.path), .string (ofL t.query), .bool t.has, .string (ofL hn), .int .i64 hp, .string ⟨#[]⟩, .bool false, .bool kp, .string (ofL up)]
    refine hK.out _ _ ⟨g1.2.1, g1.2.2.1⟩ (fun hHeld => ?_)
    clear hK
    refine wpAnyH_ready (rs := [3]) (by kernel_rfl) (by simp) (AllReadyH.cons rfl (fun K hK => ?_) AllReadyH.nil)
    rw [if_pos (by rfl)]
    refine wp_store_row FRT (.tmp 5) (.tmp 90) rfl (w.heap.size + 1 + 1) #[.int .i64 ki, .int .i64 le] rfl rfl FRT _ g1.2.2.2.at_ fr_size rfl (two_one _ _) ?_
    have g2 := HQ2.second #[.string (ofL h.method), .string (ofL h.target), .int .i64 h.status, .string (ofL h.reason), .int .i64 h.minor, .slice vp h.fields.length vc, .int .i64 t.form, .string (ofL t.host), .int .i64 t.port, .string (ofL t.path), .string (ofL t.query), .bool t.has, .string (ofL hn), .int .i64 hp, .string ⟨#[]⟩, .bool false, .bool kp, .string (ofL up)]
    refine hK.out _ _ ⟨g2.2.1, g2.2.2.1⟩ (fun hHeld => ?_)
    clear hK
    refine wpAnyH_ready (rs := [4]) (by kernel_rfl) (by simp) (AllReadyH.cons rfl (fun K hK => ?_) AllReadyH.nil)
    go_simp
    refine hK.out _ _ ⟨g2.2.1, g2.2.2.1⟩ (fun hHeld => ?_)
    clear hK hHeld
    refine wpAnyH_done (by kernel_rfl) ?_ _
    go_wp2_with fail
    refine bodyPost_ret (v := jdV X (.slice vp h.fields.length vc)) ?_ rfl ⟨rfl, g2.1⟩
    rw [results_two rfl, hX.out]
    have hk1 : ki = 1 := by
      by_cases q : ki = 1
      · exact q
      · rw [bne_iff_ne.2 q] at hsz
        cases hsz
    subst hk1
    rw [hup.out]
    exact end_j rfl rfl rfl rfl g2.2.2.2.1 g2.2.2.2.2
  · go_simp
    unfold zq at HTa
    refine hK.out _ _ HTa (fun hHeld => ?_)
    clear hK
    refine wpAnyH_ready (rs := [6]) (by kernel_rfl) (by simp) (AllReadyH.cons rfl (fun K hK => ?_) AllReadyH.nil)
    go_simp
    have N4 : Has (W6.drew.alloc (.cells zq RQT)) W6.heap.size RQT zq := Has.new W6.drew RQT zq
    have F4 := F3.alloc (.cells zq RQT)
    unfold zq at N4 F4
    refine (HKp.out _ HTa.js.list HTa.js.mi).mono ?_
    rintro e w7 ⟨rfl, hb7⟩
    have HTe := HTa.call hb7
    have N5 := N4.below hb7 N4.lt
    have F5 := F4.below hb7 F4.lt
    have hlt := F2.out.lt
    have hkl := HT2.out.tb.lt
    refine hK.out _ _ HTe (fun hHeld => ?_)
    clear hK
    refine wpAnyH_take (i := 7) (v := .agg #[.string (ofL h.method), .string (ofL h.target), .int .i64 h.status, .string (ofL h.reason), .int .i64 h.minor, .slice vp h.fields.length vc, .int .i64 t.form, .string (ofL t.host), .int .i64 t.port, .string (ofL t.path), .string (ofL t.query), .bool t.has, .string (ofL hn), .int .i64 hp, .string ⟨#[]⟩, .bool false, .bool kp, .string ⟨#[]⟩]) rfl (by kernel_rfl) (by kernel_rfl) (by kernel_rfl) (fun _ _ _ h => h) (Or.inl ⟨by rfl, (fun w _ => by go_simp)⟩) hHeld ?_
    refine wpAnyH_ready (rs := [9]) (by kernel_rfl) (by simp) (AllReadyH.cons rfl (fun K hK => ?_) AllReadyH.nil)
    rw [if_pos (by rfl)]
    refine wp_store_row RQT (.tmp 15) (.tmp 83) rfl W6.heap.size #[.string (ofL h.method), .string (ofL h.target), .int .i64 h.status, .string (ofL h.reason), .int .i64 h.minor, .slice vp h.fields.length vc, .int .i64 t.form, .string (ofL t.host), .int .i64 t.port, .string (ofL t.path), .string (ofL t.query), .bool t.has, .string (ofL hn), .int .i64 hp, .string ⟨#[]⟩, .bool false, .bool kp, .string ⟨#[]⟩] rfl rfl RQT _ N5.at_ rq_size rfl hone ?_
    have HTg := HTe.row (j := W6.heap.size) (by have := HTe.lo; omega) (by omega) #[.string (ofL h.method), .string (ofL h.target), .int .i64 h.status, .string (ofL h.reason), .int .i64 h.minor, .slice vp h.fields.length vc, .int .i64 t.form, .string (ofL t.host), .int .i64 t.port, .string (ofL t.path), .string (ofL t.query), .bool t.has, .string (ofL hn), .int .i64 hp, .string ⟨#[]⟩, .bool false, .bool kp, .string ⟨#[]⟩]
    refine hK.out _ _ HTg (fun _ => ?_)
    have HQ : Hid (QE w (w7.setRow W6.heap.size #[.string (ofL h.method), .string (ofL h.target), .int .i64 h.status, .string (ofL h.reason), .int .i64 h.minor, .slice vp h.fields.length vc, .int .i64 t.form, .string (ofL t.host), .int .i64 t.port, .string (ofL t.path), .string (ofL t.query), .bool t.has, .string (ofL hn), .int .i64 hp, .string ⟨#[]⟩, .bool false, .bool kp, .string ⟨#[]⟩]) h (.slice vp h.fields.length vc) t k W6.heap.size jf #[.string (ofL h.method), .string (ofL h.target), .int .i64 h.status, .string (ofL h.reason), .int .i64 h.minor, .slice vp h.fields.length vc, .int .i64 t.form, .string (ofL t.host), .int .i64 t.port, .string (ofL t.path), .string (ofL t.query), .bool t.has, .string (ofL hn), .int .i64 hp, .string ⟨#[]⟩, .bool false, .bool kp, .string ⟨#[]⟩] ki le) := Lib.hid ⟨HTg, PJudge.has_row N5 _, PJudge.has_row_far F5 (by omega) _, by have := HTe.lo; omega, by have := hk2.out; have := HTe.lo; omega, by omega, by omega⟩
    clear hK hHeld HTg HTe hb7 F4 F5 N4 N5 HTa HTd F3 HT2 F2 hone hlt hkl
    refine wpAnyH_done (by kernel_rfl) ?_ _
    simp only [Act.put, List.setIfInBounds_toArray, List.set_cons_zero, List.set_cons_succ]
    generalize w7.setRow W6.heap.size #[.string (ofL h.method), .string (ofL h.target), .int .i64 h.status, .string (ofL h.reason), .int .i64 h.minor, .slice vp h.fields.length vc, .int .i64 t.form, .string (ofL t.host), .int .i64 t.port, .string (ofL t.path), .string (ofL t.query), .bool t.has, .string (ofL hn), .int .i64 hp, .string ⟨#[]⟩, .bool false, .bool kp, .string ⟨#[]⟩] = W8 at HQ ⊢
    generalize W6.heap.size = j at HQ ⊢
    have z17 := (HQ.out.row.cell 17).trans rfl
    have f17 := HQ.out.row.free 17
    obtain ⟨d0, d1, d2, d3, d4, d5⟩ := HQ.out.jt.js.box.cells
    have HU := Lib.hid (pup11_any h (.slice vp h.fields.length vc) hmin hG (by omega) W8 HQ.out.jt.js.list HQ.out.jt.js.mi)
    unfold hv at HU
    generalize hup : up11 h 1 = up at HU
    replace hup := Lib.hid hup
    go_wp2_with fail
    refine HU.out.mono ?_
    rintro e w9 ⟨rfl, hb9⟩
    replace HQ := Lib.hid (HQ.out.call hb9)
    clear HU hb9 d0 d1 d2 d3 d4 d5 z17 f17
    have z17 := (HQ.out.row.cell 17).trans rfl
    have f17 := HQ.out.row.free 17
    have HQ2 := HQ.out.set17 (.string (ofL up)) #[.string (ofL h.method), .string (ofL h.target), .int .i64 h.status, .string (ofL h.reason), .int .i64 h.minor, .slice vp h.fields.length vc, .int .i64 t.form, .string (ofL t.host), .int .i64 t.port, .string (ofL t.path), .string (ofL t.query), .bool t.has, .string (ofL hn), .int .i64 hp, .string ⟨#[]⟩, .bool false, .bool kp, .string (ofL up)] rfl
    go_wp2_with fail
    generalize w9.setCell ⟨j, 17, none⟩ (.string (ofL up)) = W9 at HQ2 ⊢
    clear HQ z17 f17
    have hone2 : (#[.string (ofL h.method), .string (ofL h.target), .int .i64 h.status, .string (ofL h.reason), .int .i64 h.minor, .slice vp h.fields.length vc, .int .i64 t.form, .string (ofL t.host), .int .i64 t.port, .string (ofL t.path), .string (ofL t.query), .bool t.has, .string (ofL hn), .int .i64 hp, .string ⟨#[]⟩, .bool false, .bool kp, .string (ofL up)] : Array Value).all (·.oneCell') = true := by simp [Value.oneCell']
    refine wp_region_held_drew (S := fun w' => Has w' j RQT #[.string (ofL h.method), .string (ofL h.target), .int .i64 h.status, .string (ofL h.reason), .int .i64 h.minor, .slice vp h.fields.length vc, .int .i64 t.form, .string (ofL t.host), .int .i64 t.port, .string (ofL t.path), .string (ofL t.query), .bool t.has, .string (ofL hn), .int .i64 hp, .string ⟨#[]⟩, .bool false, .bool kp, .string (ofL up)] ∧ Has w' jf FRT #[.int .i64 ki, .int .i64 le]) (by kernel_rfl) ⟨HQ2.row.drew, HQ2.frm.drew⟩ (fun hHeld => ?_)
    refine wpAnyH_take (i := 0) (v := .agg #[.string (ofL h.method), .string (ofL h.target), .int .i64 h.status, .string (ofL h.reason), .int .i64 h.minor, .slice vp h.fields.length vc, .int .i64 t.form, .string (ofL t.host), .int .i64 t.port, .string (ofL t.path), .string (ofL t.query), .bool t.has, .string (ofL hn), .int .i64 hp, .string ⟨#[]⟩, .bool false, .bool kp, .string (ofL up)]) rfl (by kernel_rfl) (by kernel_rfl) (by kernel_rfl) (fun _ _ _ h => h) (yields_row (by rfl) (.tmp 15) rfl j rfl _ rfl (fun w h => h.1)) hHeld ?_
    refine wpAnyH_take (i := 1) (v := .agg #[.int .i64 ki, .int .i64 le]) rfl (by kernel_rfl) (by kernel_rfl) (by kernel_rfl) (fun _ _ _ h => h) (yields_frm (by rfl) (.tmp 13) rfl jf rfl _ _ (fun w h => h.2)) hHeld ?_
    refine wpAnyH_ready (rs := [2]) (by kernel_rfl) (by simp) (AllReadyH.cons rfl (fun K hK => ?_) AllReadyH.nil)
    rw [if_pos (by rfl)]
    refine wp_store_row RQT (.tmp 4) (.tmp 89) rfl (w.heap.size + 1) #[.string (ofL h.method), .string (ofL h.target), .int .i64 h.status, .string (ofL h.reason), .int .i64 h.minor, .slice vp h.fields.length vc, .int .i64 t.form, .string (ofL t.host), .int .i64 t.port, .string (ofL t.path), .string (ofL t.query), .bool t.has, .string (ofL hn), .int .i64 hp, .string ⟨#[]⟩, .bool false, .bool kp, .string (ofL up)] rfl rfl RQT _ HQ2.jt.js.res.drew.at_ rq_size rfl hone2 ?_
    have g1 := HQ2.first #[.string (ofL h.method), .string (ofL h.target), .int .i64 h.status, .string (ofL h.reason), .int .i64 h.minor, .slice vp h.fields.length vc, .int .i64 t.form, .string (ofL t.host), .int .i64 t.port, .string (ofL t.path), .string (ofL t.query), .bool t.has, .string (ofL hn), .int .i64 hp, .string ⟨#[]⟩, .bool false, .bool kp, .string (ofL up)]
    refine hK.out _ _ ⟨g1.2.1, g1.2.2.1⟩ (fun hHeld => ?_)
    clear hK
    refine wpAnyH_ready (rs := [3]) (by kernel_rfl) (by simp) (AllReadyH.cons rfl (fun K hK => ?_) AllReadyH.nil)
    rw [if_pos (by rfl)]
    refine wp_store_row FRT (.tmp 5) (.tmp 90) rfl (w.heap.size + 1 + 1) #[.int .i64 ki, .int .i64 le] rfl rfl FRT _ g1.2.2.2.at_ fr_size rfl (two_one _ _) ?_
    have g2 := HQ2.second #[.string (ofL h.method), .string (ofL h.target), .int .i64 h.status, .string (ofL h.reason), .int .i64 h.minor, .slice vp h.fields.length vc, .int .i64 t.form, .string (ofL t.host), .int .i64 t.port, .string (ofL t.path), .string (ofL t.query), .bool t.has, .string (ofL hn), .int .i64 hp, .string ⟨#[]⟩, .bool false, .bool kp, .string (ofL up)]
    refine hK.out _ _ ⟨g2.2.1, g2.2.2.1⟩ (fun hHeld => ?_)
    clear hK
    refine wpAnyH_ready (rs := [4]) (by kernel_rfl) (by simp) (AllReadyH.cons rfl (fun K hK => ?_) AllReadyH.nil)
    go_simp
    refine hK.out _ _ ⟨g2.2.1, g2.2.2.1⟩ (fun hHeld => ?_)
    clear hK hHeld
    refine wpAnyH_done (by kernel_rfl) ?_ _
    go_wp2_with fail
    refine bodyPost_ret (v := jdV X (.slice vp h.fields.length vc)) ?_ rfl ⟨rfl, g2.1⟩
    rw [results_two rfl, hX.out]
    have hk1 : ki = 1 := by
      by_cases q : ki = 1
      · exact q
      · rw [bne_iff_ne.2 q] at hsz
        cases hsz
    subst hk1
    rw [hup.out]
    exact end_j rfl rfl rfl rfl g2.2.2.2.1 g2.2.2.2.2
end Go.Proofs.YtmlpdhmafmdkcaaGreatDoor.PJudge
