/- Texts of this seat, one behind another: R16OneB, R16OneC, R16OneD, R16OneE, R16One, R16Req, R16New, FilterMore, SArg, FiltArg, FiltBack, R16Resp. -/
import Derived.Handy
import Derived.Deep.AppendLies
import Derived.Test.YtfdpoibmlggfbaaRows
import Derived.Deep.Slices
import Derived.Deep.Fields
import Derived.Test.YtfdpoibmlggfbaaD1
import Derived.Test.YtfdpoibmlggfbaaA2
import Derived.Test.YtfdpoibmlggfbaaA4
import Derived.Test.YtfdpoibmlggfbaaA1
import Derived.Test.YtfdpoibmlggfbaaR2
/- The document's layer 16: what one filter says (B). -/
namespace Go.Proofs.Ytfdpoibmlggfbaa.R16One
open Go.ChangeShapes Go.WideShapes Go.ChangeAt Go.RowKit Bytes LexPure ConfPure ConfMem FieldsPure Flds FilterPure FiltState FiltKeep FiltObj BucketPure BucketObj R14Eq L16Right R16Box R16Cors Ret Mem Step
set_option maxRecDepth 100000
set_option linter.unusedVariables false
set_option linter.unusedSimpArgs false
set_option maxHeartbeats 6400000 in
theorem one_6 {F : Nat → Prop} {g : Nat} {lv bv : Value} {bl : List Nat} {fs : List Filt} {bs : List B} {d seen : Int} {i : Nat} {now : Int} {vl : Value} {G : List HField} {w : World} (h : OAsk F g lv bv bl fs bs d seen i now vl G w) (mt : ByteArray) (size : Int) (x : Filt) (hx : x = fs[i]'h.hi) (hk : x.kind = 6) :
    Calls Try.prog 29 #[.pointer (some ⟨g, 0, none⟩), .int .i64 (i : Int), .int .i64 now, .string mt, vl, .int .i64 size] w (OneC F g lv bv bl fs bs d seen i x now mt size G w) := by
  obtain ⟨gf, ff, cf, pl, cl, rfl, rfl, c0, m0, m1, m2, m3, m4, m5, hp⟩ := h.pre x hx 6 hk
  have hki : (i : Int) < (fs.length : Int) := by have := h.hi; omega
  have hk0 : (0 : Int) ≤ (i : Int) := by omega
  have hfs : fs.length ≤ 16777216 := h.fsl
  have hR : filtB x = true := by rw [hx]; exact h.right _ (List.getElem_mem _)
  have HO := Lib.hid h
  have HP := Lib.hid hp
  have HK := Lib.hid hk
  have HX : Hid (fld16 x G = G) := Lib.hid (by unfold fld16; rw [hk]; rfl)
  by_cases hc : x.n < size
  · have HV : Hid (one16 dv16 x (bs.getD i zB) d now (toL mt) G size = say16 413 [] TOOMUCH) := Lib.hid (by unfold one16; rw [hk, if_neg (by decide), if_neg (by decide), if_neg (by decide), if_pos rfl, if_pos hc])
    clear hp hR hk hx h
    go_enter Try.func29, Try.ntmps29
    go_wp2_with fail
    refine (R16Cors.rsay_any 413 ⟨#[116, 111, 111, 32, 109, 117, 99, 104]⟩ _).mono ?_
    rintro e w4 ⟨rfl, hb4⟩
    have HP4 := Lib.hid (HP.out.below HO.out hb4)
    have Z4 := HP4.out.hZ
    have HE := Lib.hid (one_end HO.out mt size (say16 413 [] TOOMUCH) HV.out HP4.out.st (HP4.out.parts.asis HO.out.hi (by rw [HK.out]; decide) (by rw [HK.out]; decide)) Z4 (lst_nil _ _) (p := none) (n := 0) (c := 0) (fun e => by cases e) #[.bool true, .int .i64 413, .slice none 0 0, .string ⟨#[116, 111, 111, 32, 109, 117, 99, 104]⟩, .slice none 0 0])
    clear hb4
    go_wp2_with (refine store_whole rfl 42 5 rverd_size _ _ rfl w.heap.size _ _ Z4 rfl rfl (by simp [Value.oneCell']) rfl rfl ?_)
    refine bodyPost_ret (v := .tuple #[.agg #[.bool true, .int .i64 413, .slice none 0 0, .string ⟨#[116, 111, 111, 32, 109, 117, 99, 104]⟩, .slice none 0 0], .slice none 0 0]) (end_pair rfl _ _ w.heap.size 42 _ _ rfl rfl (has_set Z4 _) (run_loadVar_row _ _ _ _ _ (0, 0) _ (has_set Z4 _).at_ Try.underlying42 rfl (by kernel_rfl))) rfl ?_
    exact HE.out
  · have HV : Hid (one16 dv16 x (bs.getD i zB) d now (toL mt) G size = none16) := Lib.hid (by unfold one16; rw [hk, if_neg (by decide), if_neg (by decide), if_neg (by decide), if_pos rfl, if_neg hc])
    clear hp hR hk hx h
    go_enter Try.func29, Try.ntmps29
    have Z4 := HP.out.hZ
    have HE := Lib.hid (one_end HO.out mt size none16 HV.out HP.out.st (HP.out.parts.asis HO.out.hi (by rw [HK.out]; decide) (by rw [HK.out]; decide)) Z4 (lst_nil _ _) (p := pl) (n := G.length) (c := cl) (fun _ => .inl ⟨rfl, HX.out⟩) zV16)
    go_wp2_with (refine store_whole rfl 42 5 rverd_size _ _ rfl w.heap.size _ _ Z4 rfl rfl (by simp [Value.oneCell']) rfl rfl ?_)
    refine bodyPost_ret (v := .tuple #[.agg zV16, .slice pl G.length cl]) (end_pair rfl _ _ w.heap.size 42 _ _ rfl rfl (has_set Z4 _) (run_loadVar_row _ _ _ _ _ (0, 0) _ (has_set Z4 _).at_ Try.underlying42 rfl (by kernel_rfl))) rfl ?_
    exact HE.out
set_option maxHeartbeats 6400000 in
theorem one_7 {F : Nat → Prop} {g : Nat} {lv bv : Value} {bl : List Nat} {fs : List Filt} {bs : List B} {d seen : Int} {i : Nat} {now : Int} {vl : Value} {G : List HField} {w : World} (h : OAsk F g lv bv bl fs bs d seen i now vl G w) (mt : ByteArray) (size : Int) (x : Filt) (hx : x = fs[i]'h.hi) (hk : x.kind = 7) :
    Calls Try.prog 29 #[.pointer (some ⟨g, 0, none⟩), .int .i64 (i : Int), .int .i64 now, .string mt, vl, .int .i64 size] w (OneC F g lv bv bl fs bs d seen i x now mt size G w) := by
  obtain ⟨gf, ff, cf, pl, cl, rfl, rfl, c0, m0, m1, m2, m3, m4, m5, hp⟩ := h.pre x hx 7 hk
  have hki : (i : Int) < (fs.length : Int) := by have := h.hi; omega
  have hk0 : (0 : Int) ≤ (i : Int) := by omega
  have hfs : fs.length ≤ 16777216 := h.fsl
  have hR : filtB x = true := by rw [hx]; exact h.right _ (List.getElem_mem _)
  have HO := Lib.hid h
  have HP := Lib.hid hp
  have HK := Lib.hid hk
  have HX : Hid (fld16 x G = G) := Lib.hid (by unfold fld16; rw [hk]; rfl)
  obtain ⟨dk, hd⟩ := hp.parts.hd
  have HC := Lib.hid (R16Dice.cbelow_any g _ bv d dk 100 seen (by decide) (by decide) _ hd)
  clear hp hR hk hx h hd
  go_enter Try.func29, Try.ntmps29
  go_wp2_with fail
  refine HC.out.mono ?_
  rintro e w3 ⟨rfl, hd3, hg3⟩
  have hs3 : Step _ w3 (fun q => q = g) (fun q => q = g) := Step.of_grown hg3 (fun q e => by injection e with e; exact e.symm)
  obtain ⟨dk0, hdp⟩ := HP.out.parts.hd
  have hX3 := hs3.has HP.out.hX (Has.ne_ HP.out.hX hdp (by decide))
  have hZ3 := hs3.has HP.out.hZ (Has.ne_ HP.out.hZ hdp (by decide))
  have hs3' := HP.out.st.trans (hs3.up (G := F) (fun q e => by rw [e]; exact HO.out.inf.mine))
  have hp3 := HP.out.parts.headed hd3 hg3
  have hbs : bs.set i (bkt16 x (bs.getD i zB) now) = bs := by
    have e1 : bkt16 x (bs.getD i zB) now = bs.getD i zB := by unfold bkt16; rw [if_neg (by rw [HK.out]; decide)]
    rw [e1, set_same (by rw [HO.out.parts.ls]; exact HO.out.hi)]
  have hdd : DiceObj.bS d 100 = dce16 dn16 x d := by unfold dce16; rw [if_pos HK.out]; rfl
  rw [hdd] at hp3
  have HQ := Lib.hid hp3
  rw [← hbs] at HQ
  have HP3 := Lib.hid (show Pre F g _ bv bl fs bs (dce16 dn16 x d) seen _ G w 7 x w3 from ⟨hX3, hZ3, hp3, hs3', HO.out.fl _ _ hs3', Nat.le_trans HP.out.sz hs3.size⟩)
  have q3 : w3.cell? ⟨w.heap.size + 1, 3, none⟩ = some (.int .i64 x.n) := hX3.cell 3
  have q4 : w3.cell? ⟨w.heap.size + 1, 4, none⟩ = some (.int .i64 x.m) := hX3.cell 4
  have HD : Hid (DiceObj.belowI d 100 = dv16 d) := Lib.hid rfl
  rw [HD.out]
  clear hX3 hZ3 hs3 hs3' hp3 hdp hd3 hg3 HC hbs hdd
  by_cases hc : dv16 d < x.n
  · have HV : Hid (one16 dv16 x (bs.getD i zB) d now (toL mt) G size = say16 x.m [] FAULT) := Lib.hid (by unfold one16; rw [HK.out, if_neg (by decide), if_neg (by decide), if_neg (by decide), if_neg (by decide), if_pos rfl, if_pos hc])
    go_wp2_with fail
    refine (R16Cors.rsay_any x.m ⟨#[102, 97, 117, 108, 116]⟩ _).mono ?_
    rintro e w4 ⟨rfl, hb4⟩
    have Z4 := HP3.out.hZ.below hb4 HP3.out.hZ.lt
    have HE := Lib.hid (one_end HO.out mt size (say16 x.m [] FAULT) HV.out (HP3.out.st.trans (Step.of_below hb4 F)) (HQ.out.step HO.out.inf (Step.of_below hb4 (fun _ => False)) (fun _ _ e => e)) Z4 (lst_nil _ _) (p := none) (n := 0) (c := 0) (fun e => by cases e) #[.bool true, .int .i64 x.m, .slice none 0 0, .string ⟨#[102, 97, 117, 108, 116]⟩, .slice none 0 0])
    clear hb4 q3 q4
    go_wp2_with (refine store_whole rfl 42 5 rverd_size _ _ rfl w.heap.size _ _ Z4 rfl rfl (by simp [Value.oneCell']) rfl rfl ?_)
    refine bodyPost_ret (v := .tuple #[.agg #[.bool true, .int .i64 x.m, .slice none 0 0, .string ⟨#[102, 97, 117, 108, 116]⟩, .slice none 0 0], .slice none 0 0]) (end_pair rfl _ _ w.heap.size 42 _ _ rfl rfl (has_set Z4 _) (run_loadVar_row _ _ _ _ _ (0, 0) _ (has_set Z4 _).at_ Try.underlying42 rfl (by kernel_rfl))) rfl ?_
    exact HE.out
  · have HV : Hid (one16 dv16 x (bs.getD i zB) d now (toL mt) G size = none16) := Lib.hid (by unfold one16; rw [HK.out, if_neg (by decide), if_neg (by decide), if_neg (by decide), if_neg (by decide), if_pos rfl, if_neg hc])
    have Z4 := HP3.out.hZ
    have HE := Lib.hid (one_end HO.out mt size none16 HV.out HP3.out.st HQ.out Z4 (lst_nil _ _) (p := pl) (n := G.length) (c := cl) (fun _ => .inl ⟨rfl, HX.out⟩) zV16)
    go_wp2_with (refine store_whole rfl 42 5 rverd_size _ _ rfl w.heap.size _ _ Z4 rfl rfl (by simp [Value.oneCell']) rfl rfl ?_)
    refine bodyPost_ret (v := .tuple #[.agg zV16, .slice pl G.length cl]) (end_pair rfl _ _ w.heap.size 42 _ _ rfl rfl (has_set Z4 _) (run_loadVar_row _ _ _ _ _ (0, 0) _ (has_set Z4 _).at_ Try.underlying42 rfl (by kernel_rfl))) rfl ?_
    exact HE.out
end Go.Proofs.Ytfdpoibmlggfbaa.R16One

/- The document's layer 16: what one filter says (C). -/
namespace Go.Proofs.Ytfdpoibmlggfbaa.R16One
open Go.ChangeShapes Go.WideShapes Go.ChangeAt Go.RowKit Bytes LexPure ConfPure ConfMem FieldsPure Flds FilterPure FiltState FiltKeep FiltObj BucketPure BucketObj R14Eq L16Right R16Box R16Cors Ret Mem Step
set_option maxRecDepth 100000
set_option linter.unusedVariables false
set_option linter.unusedSimpArgs false
set_option maxHeartbeats 6400000 in
theorem one_3 {F : Nat → Prop} {g : Nat} {lv bv : Value} {bl : List Nat} {fs : List Filt} {bs : List B} {d seen : Int} {i : Nat} {now : Int} {vl : Value} {G : List HField} {w : World} (h : OAsk F g lv bv bl fs bs d seen i now vl G w) (mt : ByteArray) (size : Int) (x : Filt) (hx : x = fs[i]'h.hi) (hk : x.kind = 3) :
    Calls Try.prog 29 #[.pointer (some ⟨g, 0, none⟩), .int .i64 (i : Int), .int .i64 now, .string mt, vl, .int .i64 size] w (OneC F g lv bv bl fs bs d seen i x now mt size G w) := by
  obtain ⟨gf, ff, cf, pl, cl, rfl, rfl, c0, m0, m1, m2, m3, m4, m5, hp⟩ := h.pre x hx 3 hk
  have hki : (i : Int) < (fs.length : Int) := by have := h.hi; omega
  have hk0 : (0 : Int) ≤ (i : Int) := by omega
  have hfs : fs.length ≤ 16777216 := h.fsl
  have hR : filtB x = true := by rw [hx]; exact h.right _ (List.getElem_mem _)
  have HO := Lib.hid h
  have HP := Lib.hid hp
  have HK := Lib.hid hk
  have HX : Hid (fld16 x G = G) := Lib.hid (by unfold fld16; rw [hk]; rfl)
  have hib : i < bl.length := by rw [h.parts.lb]; exact h.hi
  obtain ⟨gb, cb, rfl, -, -, -, hrc⟩ := RowKeep.row_at hp.parts.row (by have := h.hi; omega)
  obtain ⟨q, hq⟩ : ∃ q, Hid (q = bl.getD i 0) := ⟨_, Lib.hid rfl⟩
  have hbc : ((w.alloc (.cells zV16 42)).alloc (.cells #[.int .i64 3, .string (ofL x.name), .string (ofL x.value), .int .i64 x.n, .int .i64 x.m, .int .i64 x.k] 29)).cell? ⟨gb, i, none⟩ = some (.pointer (some ⟨q, 0, none⟩)) := by rw [hrc i (by have := h.hi; omega), ptr_at hib, hq.out]
  obtain ⟨dk, hd⟩ := hp.parts.hd
  have c1 : ((w.alloc (.cells zV16 42)).alloc (.cells #[.int .i64 3, .string (ofL x.name), .string (ofL x.value), .int .i64 x.n, .int .i64 x.m, .int .i64 x.k] 29)).cell? ⟨g, 1, none⟩ = some (.slice (some ⟨gb, 0, none⟩) fs.length cb) := hd.cell 1
  have hmem : bs.getD i zB ∈ bs := getD_mem (by rw [h.parts.ls]; exact h.hi)
  obtain ⟨okb, hn1⟩ := h.bkok _ hmem
  have hn2 := h.now2
  have hk3 : (fs[i]'h.hi).kind = 3 := by rw [← hx]; exact hk
  have HK3 := Lib.hid (show (fs[i]'HO.out.hi).kind = 3 from hk3)
  obtain ⟨bk, hbk⟩ : ∃ bk, Hid (bk = bs.getD i zB) := ⟨_, Lib.hid rfl⟩
  rw [← hbk.out] at okb hn1
  have hlt : ¬ late bk now := by unfold late; omega
  have hT1 : BucketOps.takeR bk now 1 = can (BucketPure.pass bk now) 1 := by unfold BucketOps.takeR; rw [if_neg hlt]
  have hT2 : BucketOps.takeB bk now 1 = bkt16 x bk now := by unfold BucketOps.takeB bkt16; rw [if_neg hlt, if_pos hk]
  have HT := Lib.hid (BucketRefO.rtake_any q bk now 1 okb _ (by rw [hq.out, hbk.out]; exact hp.parts.bk i h.hi hk3))
  rw [hT1, hT2] at HT
  clear hp hR hk hx h hk3 hd hrc hmem okb hn1 hT1 hT2 hlt hib
  go_enter Try.func29, Try.ntmps29
  go_wp2_with fail
  refine HT.out.mono ?_
  rintro e w3 ⟨rfl, hb3, hg3⟩
  rw [hq.out] at hb3 hg3
  have hs3 : Step _ w3 (fun k => k = bl.getD i 0) (fun k => k = bl.getD i 0) := Step.of_grown hg3 (fun k e => by injection e with e; exact e.symm)
  have hB := HP.out.parts.bk i HO.out.hi HK3.out
  have hX3 := hs3.has HP.out.hX (Has.ne_ HP.out.hX hB (by decide))
  have hZ3 := hs3.has HP.out.hZ (Has.ne_ HP.out.hZ hB (by decide))
  have hs3' := HP.out.st.trans (hs3.up (G := F) (fun k e => by rw [e]; exact HO.out.inf.bk i HO.out.hi HK3.out))
  have hp3 := HP.out.parts.taken HO.out.hi HK3.out hb3 hg3
  have hdd : dce16 dn16 x d = d := by unfold dce16; rw [if_neg (by rw [HK.out]; decide)]
  rw [hbk.out] at hp3
  have HQ := Lib.hid hp3
  rw [← hdd] at HQ
  have HS3 := Lib.hid hs3'
  have HZ3 := Lib.hid hZ3
  clear hX3 hZ3 hs3 hs3' hp3 hb3 hg3 HT hB hdd c1 hbc
  by_cases hc : can (BucketPure.pass bk now) 1 = true
  · have HV : Hid (one16 dv16 x (bs.getD i zB) d now (toL mt) G size = none16) := Lib.hid (by unfold one16; rw [← hbk.out, HK.out, if_pos rfl, if_pos hc])
    have Z4 := HZ3.out
    have HE := Lib.hid (one_end HO.out mt size none16 HV.out HS3.out HQ.out Z4 (lst_nil _ _) (p := pl) (n := G.length) (c := cl) (fun _ => .inl ⟨rfl, HX.out⟩) zV16)
    go_wp2_with (refine store_whole rfl 42 5 rverd_size _ _ rfl w.heap.size _ _ Z4 rfl rfl (by simp [Value.oneCell']) rfl rfl ?_)
    refine bodyPost_ret (v := .tuple #[.agg zV16, .slice pl G.length cl]) (end_pair rfl _ _ w.heap.size 42 _ _ rfl rfl (has_set Z4 _) (run_loadVar_row _ _ _ _ _ (0, 0) _ (has_set Z4 _).at_ Try.underlying42 rfl (by kernel_rfl))) rfl ?_
    exact HE.out
  · replace hc : can (BucketPure.pass bk now) 1 = false := by simpa using hc
    have HV : Hid (one16 dv16 x (bs.getD i zB) d now (toL mt) G size = say16 429 [] SLOW) := Lib.hid (by unfold one16; rw [← hbk.out, HK.out, if_pos rfl, if_neg (by rw [hc]; decide)])
    go_wp2_with fail
    refine (R16Cors.rsay_any 429 ⟨#[115, 108, 111, 119, 32, 100, 111, 119, 110]⟩ _).mono ?_
    rintro e w4 ⟨rfl, hb4⟩
    have Z4 := HZ3.out.below hb4 HZ3.out.lt
    have HE := Lib.hid (one_end HO.out mt size (say16 429 [] SLOW) HV.out (HS3.out.trans (Step.of_below hb4 F)) (HQ.out.step HO.out.inf (Step.of_below hb4 (fun _ => False)) (fun _ _ e => e)) Z4 (lst_nil _ _) (p := none) (n := 0) (c := 0) (fun e => by cases e) #[.bool true, .int .i64 429, .slice none 0 0, .string ⟨#[115, 108, 111, 119, 32, 100, 111, 119, 110]⟩, .slice none 0 0])
    clear hb4
    go_wp2_with (refine store_whole rfl 42 5 rverd_size _ _ rfl w.heap.size _ _ Z4 rfl rfl (by simp [Value.oneCell']) rfl rfl ?_)
    refine bodyPost_ret (v := .tuple #[.agg #[.bool true, .int .i64 429, .slice none 0 0, .string ⟨#[115, 108, 111, 119, 32, 100, 111, 119, 110]⟩, .slice none 0 0], .slice none 0 0]) (end_pair rfl _ _ w.heap.size 42 _ _ rfl rfl (has_set Z4 _) (run_loadVar_row _ _ _ _ _ (0, 0) _ (has_set Z4 _).at_ Try.underlying42 rfl (by kernel_rfl))) rfl ?_
    exact HE.out
end Go.Proofs.Ytfdpoibmlggfbaa.R16One

/- The document's layer 16: what one filter says (D). -/
namespace Go.Proofs.Ytfdpoibmlggfbaa.R16One
open Go.ChangeShapes Go.WideShapes Go.ChangeAt Go.RowKit Bytes LexPure ConfPure ConfMem FieldsPure Flds FilterPure FiltState FiltKeep FiltObj BucketPure BucketObj R14Eq L16Right R16Box R16Cors Ret Mem Step
set_option maxRecDepth 100000
set_option linter.unusedVariables false
set_option linter.unusedSimpArgs false
set_option maxHeartbeats 6400000 in
theorem one_5 {F : Nat → Prop} {g : Nat} {lv bv : Value} {bl : List Nat} {fs : List Filt} {bs : List B} {d seen : Int} {i : Nat} {now : Int} {vl : Value} {G : List HField} {w : World} (h : OAsk F g lv bv bl fs bs d seen i now vl G w) (mt : ByteArray) (size : Int) (x : Filt) (hx : x = fs[i]'h.hi) (hk : x.kind = 5) :
    Calls Try.prog 29 #[.pointer (some ⟨g, 0, none⟩), .int .i64 (i : Int), .int .i64 now, .string mt, vl, .int .i64 size] w (OneC F g lv bv bl fs bs d seen i x now mt size G w) := by
  obtain ⟨gf, ff, cf, pl, cl, rfl, rfl, c0, m0, m1, m2, m3, m4, m5, hp⟩ := h.pre x hx 5 hk
  have hki : (i : Int) < (fs.length : Int) := by have := h.hi; omega
  have hk0 : (0 : Int) ≤ (i : Int) := by omega
  have hfs : fs.length ≤ 16777216 := h.fsl
  have hR : filtB x = true := by rw [hx]; exact h.right _ (List.getElem_mem _)
  have HO := Lib.hid h
  have HP := Lib.hid hp
  have HK := Lib.hid hk
  have HX : Hid (fld16 x G = G) := Lib.hid (by unfold fld16; rw [hk]; rfl)
  have HC := Lib.hid (R16Cors.rcors_any x mt _ G (few_f h.few) _ hp.fl)
  rw [hk] at HC
  obtain ⟨V, hV⟩ : ∃ V, Hid (V = R16Cors.cors16 x (toL mt) G) := ⟨_, Lib.hid rfl⟩
  rw [← hV.out] at HC
  have HV : Hid (one16 dv16 x (bs.getD i zB) d now (toL mt) G size = V) := Lib.hid (by rw [hV.out]; unfold one16; rw [hk, if_neg (by decide), if_neg (by decide), if_pos rfl]; rfl)
  clear hp hR hk hx h
  go_enter Try.func29, Try.ntmps29
  go_wp2_with fail
  refine HC.out.mono ?_
  rintro e w3 ⟨fl, rfl, hfl, hb3⟩
  have HP3 := Lib.hid (HP.out.below HO.out hb3)
  obtain ⟨p3, c3, rfl, -⟩ := RowKeep.row_form hfl
  have Z3 := HP3.out.hZ
  have HE := Lib.hid (one_end HO.out mt size V HV.out HP3.out.st (HP3.out.parts.asis HO.out.hi (by rw [HK.out]; decide) (by rw [HK.out]; decide)) Z3 (RowKeep.row_mono hfl (Nat.le_trans (by omega) HP.out.sz)) (p := pl) (n := G.length) (c := cl) (fun _ => .inl ⟨rfl, HX.out⟩) (vrdA V (.slice p3 V.fields.length c3) (.slice none 0 0)))
  clear hfl hb3 HC
  unfold vrdA at *
  go_wp2_with (refine store_whole rfl 42 5 rverd_size _ _ rfl w.heap.size _ _ Z3 rfl rfl (by simp [Value.oneCell']) rfl rfl ?_)
  refine bodyPost_ret (v := .tuple #[.agg #[.bool V.stop, .int .i64 V.status, .slice p3 V.fields.length c3, .string (ofL V.body), .slice none 0 0], .slice pl G.length cl]) (end_pair rfl _ _ w.heap.size 42 _ _ rfl rfl (has_set Z3 _) (run_loadVar_row _ _ _ _ _ (0, 0) _ (has_set Z3 _).at_ Try.underlying42 rfl (by kernel_rfl))) rfl ?_
  exact HE.out
end Go.Proofs.Ytfdpoibmlggfbaa.R16One

/- The document's layer 16: what one filter says (E). -/
namespace Go.Proofs.Ytfdpoibmlggfbaa.R16One
open Go.ChangeShapes Go.WideShapes Go.ChangeAt Go.RowKit Bytes LexPure ConfPure ConfMem FieldsPure Flds FilterPure FiltState FiltKeep FiltObj BucketPure BucketObj R14Eq L16Right R16Box R16Cors Ret Mem Step
set_option maxRecDepth 100000
set_option linter.unusedVariables false
set_option linter.unusedSimpArgs false
set_option maxHeartbeats 6400000 in
theorem one_4 {F : Nat → Prop} {g : Nat} {lv bv : Value} {bl : List Nat} {fs : List Filt} {bs : List B} {d seen : Int} {i : Nat} {now : Int} {vl : Value} {G : List HField} {w : World} (h : OAsk F g lv bv bl fs bs d seen i now vl G w) (mt : ByteArray) (size : Int) (x : Filt) (hx : x = fs[i]'h.hi) (hk : x.kind = 4) :
    Calls Try.prog 29 #[.pointer (some ⟨g, 0, none⟩), .int .i64 (i : Int), .int .i64 now, .string mt, vl, .int .i64 size] w (OneC F g lv bv bl fs bs d seen i x now mt size G w) := by
  obtain ⟨gf, ff, cf, pl, cl, rfl, rfl, c0, m0, m1, m2, m3, m4, m5, hp⟩ := h.pre x hx 4 hk
  have hki : (i : Int) < (fs.length : Int) := by have := h.hi; omega
  have hk0 : (0 : Int) ≤ (i : Int) := by omega
  have hfs : fs.length ≤ 16777216 := h.fsl
  have hR : filtB x = true := by rw [hx]; exact h.right _ (List.getElem_mem _)
  have HO := Lib.hid h
  have HP := Lib.hid hp
  have HK := Lib.hid hk
  have HG := Lib.hid (R7Get.rget_any _ G (ofL x.name) (by rw [ofL_size]; exact (right_len hR).1) (few_f h.few) _ hp.fl)
  rw [toL_ofL] at HG
  have HS := Lib.hid (fun w hF => R7RemBig.rremove_any (.slice pl G.length cl) G (ofL x.name) (by rw [ofL_size]; exact (right_len hR).1) (few_f h.few) h.len w hF)
  have HQ : Hid (remove G (toL (ofL x.name)) = fld16 x G) := Lib.hid (by rw [toL_ofL]; unfold fld16; rw [hk]; rfl)
  rw [HQ.out] at HS
  obtain ⟨n1, hn1⟩ : ∃ n, n = getN G x.name := ⟨_, rfl⟩
  obtain ⟨v1, hv1⟩ : ∃ v, v = getV G x.name := ⟨_, rfl⟩
  rw [← hn1, ← hv1] at HG
  have HN := Lib.hid hn1
  have HW := Lib.hid hv1
  clear hn1 hv1
  clear hp hR hk hx h
  go_enter Try.func29, Try.ntmps29
  go_wp2_with fail
  refine HG.out.mono ?_
  rintro e w3 ⟨rfl, hb3⟩
  have HP3 := Lib.hid (HP.out.below HO.out hb3)
  have q1 : w3.cell? ⟨w.heap.size + 1, 1, none⟩ = some (.string (ofL x.name)) := HP3.out.hX.cell 1
  have q2 : w3.cell? ⟨w.heap.size + 1, 2, none⟩ = some (.string (ofL x.value)) := HP3.out.hX.cell 2
  clear hb3 HG
  have hx : (((n1 : Int) == 1) = true ∧ ((ofL v1).toList == (ofL x.value).toList) = true ∧ Hid (one16 dv16 x (bs.getD i zB) d now (toL mt) G size = none16)) ∨
      ((((n1 : Int) == 1) = false ∨ (((n1 : Int) == 1) = true ∧ ((ofL v1).toList == (ofL x.value).toList) = false)) ∧ Hid (one16 dv16 x (bs.getD i zB) d now (toL mt) G size = say16 401 [(WWW, TOKENW)] NOENTRY)) := by
    have e1 : ((ofL v1).toList == (ofL x.value).toList) = decide (v1 = x.value) := by
      rw [ByteArray.toList_eq, ByteArray.toList_eq, Bool.eq_iff_iff, beq_iff_eq, decide_eq_true_eq]; rfl
    by_cases q1 : n1 = 1
    · by_cases q2 : v1 = x.value
      · refine .inl ⟨by rw [q1]; rfl, by rw [e1]; exact decide_eq_true q2, Lib.hid ?_⟩
        unfold one16; rw [HK.out, if_neg (by decide), if_pos rfl, if_pos ⟨by rw [← HN.out]; exact q1, by rw [← HW.out]; exact q2⟩]
      · refine .inr ⟨.inr ⟨by rw [q1]; rfl, by rw [e1]; exact decide_eq_false q2⟩, Lib.hid ?_⟩
        unfold one16; rw [HK.out, if_neg (by decide), if_pos rfl, if_neg (fun h => q2 (by rw [HW.out]; exact h.2))]
    · refine .inr ⟨.inl (by rw [beq_eq_false_iff_ne]; omega), Lib.hid ?_⟩
      unfold one16; rw [HK.out, if_neg (by decide), if_pos rfl, if_neg (fun h => q1 (by rw [HN.out]; exact h.1))]
  rcases hx with ⟨t1, t2, HV⟩ | ⟨ht, HV⟩
  · have t3 : ((n1 : Int) != 1) = false := by unfold bne; rw [t1]; rfl
    have t4 : ((ofL v1).toList != (ofL x.value).toList) = false := by unfold bne; rw [t2]; rfl
    go_wp2_with fail
    refine (HS.out w3 HP3.out.fl).mono ?_
    rintro e w4 ⟨v4, rfl, hrow4, hb4⟩
    have HP4 := Lib.hid (HP3.out.below HO.out hb4)
    obtain ⟨p4, c4, rfl, -⟩ := RowKeep.row_form hrow4
    have Z4 := HP4.out.hZ
    have HE := Lib.hid (one_end HO.out mt size none16 HV.out HP4.out.st (HP4.out.parts.asis HO.out.hi (by rw [HK.out]; decide) (by rw [HK.out]; decide)) Z4 (lst_nil _ _) (fun _ => .inr (RowKeep.row_mono hrow4 (Nat.le_trans (by omega) HP3.out.sz))) zV16)
    clear hrow4 hb4 HQ HS t1 t2 t3 t4 q1 q2
    go_wp2_with (refine store_whole rfl 42 5 rverd_size _ _ rfl w.heap.size _ _ Z4 rfl rfl (by simp [Value.oneCell']) rfl rfl ?_)
    refine bodyPost_ret (v := .tuple #[.agg zV16, .slice p4 (fld16 x G).length c4]) (end_pair rfl _ _ w.heap.size 42 _ _ rfl rfl (has_set Z4 _) (run_loadVar_row _ _ _ _ _ (0, 0) _ (has_set Z4 _).at_ Try.underlying42 rfl (by kernel_rfl))) rfl ?_
    exact HE.out
  · rcases ht with t1 | ⟨t1, t2⟩
    · have t3 : ((n1 : Int) != 1) = true := by unfold bne; rw [t1]; rfl
      go_wp2_with fail
      refine (R16Cors.rsay_any 401 ⟨#[110, 111, 32, 101, 110, 116, 114, 121]⟩ w3).mono ?_
      rintro e w4 ⟨rfl, hb4⟩
      have hP4 := HP3.out.below HO.out hb4
      have hb5 := (Below.refl w4.heap.size w4).alloc (Nat.le_refl _) (.cells #[.bool true, .int .i64 401, .slice (some ⟨w4.heap.size + 1, 0, none⟩) 1 1, .string ⟨#[110, 111, 32, 101, 110, 116, 114, 121]⟩, .slice none 0 0] 42)
      have hP5 := hP4.below HO.out hb5
      have hb6 := (Below.refl _ (w4.alloc (.cells #[.bool true, .int .i64 401, .slice (some ⟨w4.heap.size + 1, 0, none⟩) 1 1, .string ⟨#[110, 111, 32, 101, 110, 116, 114, 121]⟩, .slice none 0 0] 42))).alloc (Nat.le_refl _) (.cells #[.string ⟨#[87, 87, 87, 45, 65, 117, 116, 104, 101, 110, 116, 105, 99, 97, 116, 101]⟩, .string ⟨#[84, 111, 107, 101, 110]⟩] 54)
      have hP6 := hP5.below HO.out hb6
      have hsz : w.heap.size + 2 ≤ w4.heap.size := hP4.sz
      have hL6 : Lst ((w4.alloc (.cells #[.bool true, .int .i64 401, .slice (some ⟨w4.heap.size + 1, 0, none⟩) 1 1, .string ⟨#[110, 111, 32, 101, 110, 116, 114, 121]⟩, .slice none 0 0] 42)).alloc (.cells #[.string ⟨#[87, 87, 87, 45, 65, 117, 116, 104, 101, 110, 116, 105, 99, 97, 116, 101]⟩, .string ⟨#[84, 111, 107, 101, 110]⟩] 54)) w.heap.size (.slice (some ⟨w4.heap.size + 1, 0, none⟩) 1 1) [(WWW, TOKENW)] := by
        have hl := lst_new (w := w4.alloc (.cells #[.bool true, .int .i64 401, .slice (some ⟨w4.heap.size + 1, 0, none⟩) 1 1, .string ⟨#[110, 111, 32, 101, 110, 116, 114, 121]⟩, .slice none 0 0] 42)) (base := w.heap.size) [(WWW, TOKENW)] (by decide) #[.string ⟨#[87, 87, 87, 45, 65, 117, 116, 104, 101, 110, 116, 105, 99, 97, 116, 101]⟩, .string ⟨#[84, 111, 107, 101, 110]⟩] rfl (by simp; omega)
        rw [World.size_alloc] at hl
        exact hl
      have Z6 := hP6.hZ
      have HE := Lib.hid (one_end HO.out mt size (say16 401 [(WWW, TOKENW)] NOENTRY) HV.out hP6.st (hP6.parts.asis HO.out.hi (by rw [HK.out]; decide) (by rw [HK.out]; decide)) Z6 hL6 (p := none) (n := 0) (c := 0) (fun e => by cases e) #[.bool true, .int .i64 401, .slice (some ⟨w4.heap.size + 1, 0, none⟩) 1 1, .string ⟨#[110, 111, 32, 101, 110, 116, 114, 121]⟩, .slice none 0 0])
      clear hb4 hb5 hb6 hP4 hP5 hP6 hL6 q1 q2
      go_wp2_with (refine store_whole rfl 42 5 rverd_size _ _ rfl w.heap.size _ _ Z6 rfl rfl (by simp [Value.oneCell']) rfl rfl ?_)
      refine bodyPost_ret (v := .tuple #[.agg #[.bool true, .int .i64 401, .slice (some ⟨w4.heap.size + 1, 0, none⟩) 1 1, .string ⟨#[110, 111, 32, 101, 110, 116, 114, 121]⟩, .slice none 0 0], .slice none 0 0]) (end_pair rfl _ _ w.heap.size 42 _ _ rfl rfl (has_set Z6 _) (run_loadVar_row _ _ _ _ _ (0, 0) _ (has_set Z6 _).at_ Try.underlying42 rfl (by kernel_rfl))) rfl ?_
      exact HE.out
    · have t3 : ((n1 : Int) != 1) = false := by unfold bne; rw [t1]; rfl
      have t4 : ((ofL v1).toList != (ofL x.value).toList) = true := by unfold bne; rw [t2]; rfl
      go_wp2_with fail
      refine (R16Cors.rsay_any 401 ⟨#[110, 111, 32, 101, 110, 116, 114, 121]⟩ w3).mono ?_
      rintro e w4 ⟨rfl, hb4⟩
      have hP4 := HP3.out.below HO.out hb4
      have hb5 := (Below.refl w4.heap.size w4).alloc (Nat.le_refl _) (.cells #[.bool true, .int .i64 401, .slice (some ⟨w4.heap.size + 1, 0, none⟩) 1 1, .string ⟨#[110, 111, 32, 101, 110, 116, 114, 121]⟩, .slice none 0 0] 42)
      have hP5 := hP4.below HO.out hb5
      have hb6 := (Below.refl _ (w4.alloc (.cells #[.bool true, .int .i64 401, .slice (some ⟨w4.heap.size + 1, 0, none⟩) 1 1, .string ⟨#[110, 111, 32, 101, 110, 116, 114, 121]⟩, .slice none 0 0] 42))).alloc (Nat.le_refl _) (.cells #[.string ⟨#[87, 87, 87, 45, 65, 117, 116, 104, 101, 110, 116, 105, 99, 97, 116, 101]⟩, .string ⟨#[84, 111, 107, 101, 110]⟩] 54)
      have hP6 := hP5.below HO.out hb6
      have hsz : w.heap.size + 2 ≤ w4.heap.size := hP4.sz
      have hL6 : Lst ((w4.alloc (.cells #[.bool true, .int .i64 401, .slice (some ⟨w4.heap.size + 1, 0, none⟩) 1 1, .string ⟨#[110, 111, 32, 101, 110, 116, 114, 121]⟩, .slice none 0 0] 42)).alloc (.cells #[.string ⟨#[87, 87, 87, 45, 65, 117, 116, 104, 101, 110, 116, 105, 99, 97, 116, 101]⟩, .string ⟨#[84, 111, 107, 101, 110]⟩] 54)) w.heap.size (.slice (some ⟨w4.heap.size + 1, 0, none⟩) 1 1) [(WWW, TOKENW)] := by
        have hl := lst_new (w := w4.alloc (.cells #[.bool true, .int .i64 401, .slice (some ⟨w4.heap.size + 1, 0, none⟩) 1 1, .string ⟨#[110, 111, 32, 101, 110, 116, 114, 121]⟩, .slice none 0 0] 42)) (base := w.heap.size) [(WWW, TOKENW)] (by decide) #[.string ⟨#[87, 87, 87, 45, 65, 117, 116, 104, 101, 110, 116, 105, 99, 97, 116, 101]⟩, .string ⟨#[84, 111, 107, 101, 110]⟩] rfl (by simp; omega)
        rw [World.size_alloc] at hl
        exact hl
      have Z6 := hP6.hZ
      have HE := Lib.hid (one_end HO.out mt size (say16 401 [(WWW, TOKENW)] NOENTRY) HV.out hP6.st (hP6.parts.asis HO.out.hi (by rw [HK.out]; decide) (by rw [HK.out]; decide)) Z6 hL6 (p := none) (n := 0) (c := 0) (fun e => by cases e) #[.bool true, .int .i64 401, .slice (some ⟨w4.heap.size + 1, 0, none⟩) 1 1, .string ⟨#[110, 111, 32, 101, 110, 116, 114, 121]⟩, .slice none 0 0])
      clear hb4 hb5 hb6 hP4 hP5 hP6 hL6 q1 q2
      go_wp2_with (refine store_whole rfl 42 5 rverd_size _ _ rfl w.heap.size _ _ Z6 rfl rfl (by simp [Value.oneCell']) rfl rfl ?_)
      refine bodyPost_ret (v := .tuple #[.agg #[.bool true, .int .i64 401, .slice (some ⟨w4.heap.size + 1, 0, none⟩) 1 1, .string ⟨#[110, 111, 32, 101, 110, 116, 114, 121]⟩, .slice none 0 0], .slice none 0 0]) (end_pair rfl _ _ w.heap.size 42 _ _ rfl rfl (has_set Z6 _) (run_loadVar_row _ _ _ _ _ (0, 0) _ (has_set Z6 _).at_ Try.underlying42 rfl (by kernel_rfl))) rfl ?_
      exact HE.out
end Go.Proofs.Ytfdpoibmlggfbaa.R16One

/- The document's layer 16: what one filter says (all). -/
namespace Go.Proofs.Ytfdpoibmlggfbaa.R16One
open Go.ChangeShapes Go.WideShapes Go.ChangeAt Go.RowKit Bytes LexPure ConfPure ConfMem FieldsPure Flds FilterPure FiltState FiltKeep FiltObj BucketPure BucketObj R14Eq L16Right R16Box R16Cors Ret Mem Step
set_option maxRecDepth 100000
set_option linter.unusedVariables false
set_option linter.unusedSimpArgs false
theorem one_any {F : Nat → Prop} {g : Nat} {lv bv : Value} {bl : List Nat} {fs : List Filt} {bs : List B} {d seen : Int} {i : Nat} {now : Int} {vl : Value} {G : List HField} {w : World} (h : OAsk F g lv bv bl fs bs d seen i now vl G w) (mt : ByteArray) (size : Int) (x : Filt) (hx : x = fs[i]'h.hi) :
    Calls Try.prog 29 #[.pointer (some ⟨g, 0, none⟩), .int .i64 (i : Int), .int .i64 now, .string mt, vl, .int .i64 size] w (OneC F g lv bv bl fs bs d seen i x now mt size G w) := by
  have hR : filtB x = true := by rw [hx]; exact h.right _ (List.getElem_mem _)
  rcases kinds hR with hk | hk | hk | hk | hk | hk | hk | hk
  · exact one_1 h mt size x hx hk
  · exact one_2 h mt size x hx hk
  · exact one_3 h mt size x hx hk
  · exact one_4 h mt size x hx hk
  · exact one_5 h mt size x hx hk
  · exact one_6 h mt size x hx hk
  · exact one_7 h mt size x hx hk
  · exact one_8 h mt size x hx hk
end Go.Proofs.Ytfdpoibmlggfbaa.R16One

/- The document's layer 16: Request. -/
namespace Go.Proofs.Ytfdpoibmlggfbaa.R16Req
open Go.ChangeShapes Go.WideShapes Go.ChangeAt Go.RowKit Bytes FRow LexPure ConfPure ConfMem FieldsPure Flds FilterPure FiltState FiltKeep FiltObj BucketPure BucketObj R14Eq L16Right R16Box R16Cors R16One Ret Mem Step
set_option maxRecDepth 100000
set_option linter.unusedVariables false
set_option linter.unusedSimpArgs false
/-- amid a request: k filters passed -/
structure RMid (w : World) (F : Nat → Prop) (g : Nat) (lv bv : Value) (bl : List Nat) (fs : List Filt) (bs : List B) (d now : Int) (mt : ByteArray) (size : Int) (G : List HField) (k : Nat) (bs' : List B) (d' : Int) (G' : List HField) (vl : Value) (wr : World) : Prop where
  run : Run16 now (toL mt) size fs bs d G k bs' d' G'
  parts : RParts wr g lv bv bl fs bs' d' now
  list : Kpt F wr (fun W => FL W vl G')
  few : FewM G'
  len : G'.length ≤ G.length + k
  oks : ∀ b ∈ bs', Ok b ∧ b.told ≤ now
  step : Step w wr F F
  vb : Has wr w.heap.size 42 zV16
section
variable {w wr w4 : World} {F : Nat → Prop} {g : Nat} {lv bv : Value} {bl : List Nat} {fs : List Filt} {bs : List B} {d now : Int} {mt : ByteArray} {size : Int} {G : List HField} {k : Nat} {bs' : List B} {d' : Int} {G' : List HField} {vl : Value}
theorem RMid.ask (h : RMid w F g lv bv bl fs bs d now mt size G k bs' d' G' vl wr) (hi : RInF F g bv bl fs) (hk : k < fs.length) (hr : ∀ f ∈ fs, filtB f = true) (hl : G.length + fs.length ≤ 16777216) (hlt : ∀ k, F k → k < w.heap.size) (hf : Kpt F w (fun W => Filts W lv fs)) (h2 : now ≤ 1099511627776) :
    OAsk F g lv bv bl fs bs' d' now k now vl G' wr :=
  ⟨hk, hr, h.few, by have := h.len; omega, by omega, h.parts, hi, fun q hq => Nat.lt_of_lt_of_le (hlt q hq) h.step.size, hf.go h.step, h.list, h.oks, h2⟩
theorem RMid.next {p : Option Addr} {n c : Nat} (h : RMid w F g lv bv bl fs bs d now mt size G k bs' d' G' vl wr) (hi : RInF F g bv bl fs) (hk : k < fs.length) (hf : filtB fs[k] = true) (h2 : now ≤ 1099511627776) (hlt : ∀ k, F k → k < w.heap.size) (hs : (one16 dv16 fs[k] (bs'.getD k zB) d' now (toL mt) G' size).stop = false)
    (hgo : Kpt F w4 (fun W => FL W (.slice p n c) (fld16 fs[k] G'))) (hp : RParts w4 g lv bv bl fs (bs'.set k (bkt16 fs[k] (bs'.getD k zB) now)) (dce16 dn16 fs[k] d') now) (hst : Step wr w4 F F) (o : Obj) :
    RMid w F g lv bv bl fs bs d now mt size G (k + 1) (bs'.set k (bkt16 fs[k] (bs'.getD k zB) now)) (dce16 dn16 fs[k] d') (fld16 fs[k] G') (.slice p n c) (w4.alloc o) := by
  have hb := (Below.refl w4.heap.size w4).alloc (Nat.le_refl _) o
  have hz : ¬ F w.heap.size := fun e => by have := hlt _ e; omega
  exact ⟨h.run.go hk hs, hp.step hi (Step.of_below hb (fun _ => False)) (fun _ _ h => h), hgo.go (Step.alloc w4 o F), fld_few hf h.few, by have := fld_len fs[k] G'; have := h.len; omega, mem_set h.oks (bkt_ok (h.oks _ (getD_mem (by rw [h.parts.ls]; exact hk))) h2), (h.step.trans hst).trans (Step.alloc w4 o F), (hst.has h.vb hz).alloc o⟩
end
theorem rreq_end {w W : World} {F : Nat → Prop} {g : Nat} {lv : Value} {s : Cn} {now : Int} {mt : ByteArray} {size : Int} {G : List HField} {bv : Value} {bl : List Nat} {V : Verd} {bs' : List B} {d' : Int} {fl pl : Value} {old : Array Value} (h : RCh w F g lv s) (hr : ¬ refused s now) (hrun : run16 dv16 dn16 now (toL mt) size s.fs s.bs s.d G = (V, bs', d'))
    (hp : RParts W g lv bv bl s.fs bs' d' now) (hi : RInF F g bv bl s.fs) (hs : Step w W F F) (hv : Has W w.heap.size 42 old) (hfl : Lst W w.heap.size fl V.fields) (hpl : Lst W w.heap.size pl V.pass) (hap : Apart16 fl pl) (cs : Array Value) :
    RReqC w (W.setRow w.heap.size cs) (.returned (.tuple #[.agg (vrdA V fl pl), .int .i64 0])) F g lv ((run16 dv16 dn16 now (toL mt) size s.fs s.bs s.d G).1, 0) ⟨s.fs, (run16 dv16 dn16 now (toL mt) size s.fs s.bs s.d G).2.1, (run16 dv16 dn16 now (toL mt) size s.fs s.bs s.d G).2.2, now⟩ := by
  have hg := good_next (dv := dv16) (dn := dn16) h.good now (toL mt) size G
  unfold nxt16 at hg
  rw [if_neg hr] at hg
  rw [hrun] at hg ⊢
  have h1 : Step W (W.setRow w.heap.size cs) (fun k => k = w.heap.size) (fun k => k = w.heap.size) := step_set cs rfl
  have hrow : ∀ {v : Value} {X : List HField}, Lst W w.heap.size v X → Lst (W.setRow w.heap.size cs) w.heap.size v X := fun hv2 => h1.row hv2 (fun b hb e => row_ne hv2 hv (by decide) (by rw [hb, e]))
  exact ⟨fl, pl, rfl, hrow hfl, hrow hpl, hap, ⟨fun k hk => Nat.lt_of_lt_of_le (h.lt k hk) (Nat.le_trans hs.size (by simp)), hg, bv, bl, hp.step hi h1 (fun k hk e => by have := h.lt k hk; omega), hi⟩, hs.beyond h1 (fun j e => by omega)⟩
set_option maxHeartbeats 6400000 in
theorem rreq_go (F : Nat → Prop) (g : Nat) (lv : Value) (s : Cn) (now : Int) (h1 : s.seen ≤ now) (h2 : now ≤ 1099511627776) (mt : ByteArray) (size : Int) (vl : Value) (G : List HField) (hG : FewM G) (hl : G.length + s.fs.length ≤ 16777216) (w : World) (h : RCh w F g lv s) (hfi : Kpt F w (fun W => Filts W lv s.fs)) (hF : Kpt F w (fun W => FL W vl G)) :
    Calls Try.prog 17 #[.pointer (some ⟨g, 0, none⟩), .int .i64 now, .string mt, vl, .int .i64 size] w fun e w' =>
      RReqC w w' e F g lv ((run16 dv16 dn16 now (toL mt) size s.fs s.bs s.d G).1, 0) ⟨s.fs, (run16 dv16 dn16 now (toL mt) size s.fs s.bs s.d G).2.1, (run16 dv16 dn16 now (toL mt) size s.fs s.bs s.d G).2.2, now⟩ := by
  have q1 : ¬ now < s.seen := by omega
  have q2 : ¬ 1099511627776 < now := by omega
  obtain ⟨bv, bl, hp, hi⟩ := h.parts
  obtain ⟨dk, hd⟩ := hp.hd
  have hZ := Has.new w 42 zV16
  have hd1 := hd.alloc (.cells zV16 42)
  have hP1 := hp.step hi (Step.alloc w (.cells zV16 42) (fun _ => False)) (fun _ _ h => h)
  have c1 : (w.alloc (.cells zV16 42)).cell? ⟨g, 4, none⟩ = some (.int .i64 s.seen) := hd1.cell 4
  have f1 := hd1.free 4
  have hs1 : Step w ((w.alloc (.cells zV16 42)).setCell ⟨g, 4, none⟩ (.int .i64 now)) F F := (Step.alloc w _ F).trans (Step.set_ _ hi.mine 4 _)
  obtain ⟨pl, cl, rfl, -⟩ := id hF.here
  obtain ⟨pf, cf', rfl, -, -⟩ := hfi.here.parts
  have HM0 : Hid (RMid w F g (.slice pf s.fs.length cf') bv bl s.fs s.bs s.d now mt size G 0 s.bs s.d G (.slice pl G.length cl) ((w.alloc (.cells zV16 42)).setCell ⟨g, 4, none⟩ (.int .i64 now))) := Lib.hid
    ⟨Run16.start now (toL mt) size s.fs s.bs s.d G h.good.len, hP1.headed (hd1.set_ 4 _) (own_set (World.grownBy.refl _ _) 4 _), hF.go hs1, hG, Nat.le_refl _, fun b hb => ⟨(h.good.bk b hb).1, Int.le_trans (h.good.bk b hb).2 h1⟩, hs1, hZ.far (p := ⟨g, 4, none⟩) (fun e => Has.ne_ hZ hd1 (by decide) e) (.int .i64 now)⟩
  have HCh := Lib.hid h
  have HI := Lib.hid hi
  have HFi := Lib.hid hfi
  have hn63 : s.fs.length ≤ 16777216 := by omega
  clear hP1 hF hp hi h hG hZ hs1 hd hd1 hfi
  go_enter Try.func17, Try.ntmps17
  go_wp2_with fail
  generalize hW2 : (w.alloc _).setCell _ _ = W2 at *
  clear hW2 c1 f1 q1
  go_loopw [3, 12] (fun lv2 i wr => ∃ k : Nat, k ≤ s.fs.length ∧ i = .int .i64 k ∧ (∃ p n c, lv2 = .slice p n c) ∧ Hid (∃ bs' d' G', RMid w F g (.slice pf s.fs.length cf') bv bl s.fs s.bs s.d now mt size G k bs' d' G' lv2 wr)) (fun _ i _ => s.fs.length - (intOf i).toNat)
  case atStart => exact ⟨0, Nat.zero_le _, rfl, ⟨_, _, _, rfl⟩, Lib.hid ⟨_, _, _, HM0.out⟩⟩
  case round =>
    obtain ⟨k, hk, rfl, ⟨p1, n1, r1, rfl⟩, HM⟩ := hrel
    clear HM0
    obtain ⟨bs', d', G', hM⟩ := HM.out
    clear HM
    obtain ⟨dk, hd⟩ := hM.parts.hd
    have c0 : wr.cell? ⟨g, 0, none⟩ = some (.slice pf s.fs.length cf') := hd.cell 0
    by_cases hlt : k < s.fs.length
    · have hki : (k : Int) < (s.fs.length : Int) := by omega
      have HO := Lib.hid (one_any (hM.ask HI.out hlt HCh.out.good.right hl HCh.out.lt HFi.out h2) mt size s.fs[k] rfl)
      have HM := Lib.hid hM
      clear hM hd
      go_wp2_with fail
      refine HO.out.mono ?_
      rintro e w4 ⟨V, fl, p2, n2, r2, hV, rfl, hfl, hgo, hpt, hst⟩
      clear HO c0
      obtain ⟨pv, cv, rfl, -⟩ := RowKeep.row_form hfl
      cases hs : V.stop
      · have HN := Lib.hid (fun o => HM.out.next HI.out hlt (HCh.out.good.right _ (List.getElem_mem hlt)) h2 HCh.out.lt (by rw [hV]; exact hs) (hgo hs) hpt hst o)
        unfold vrdA
        rw [hs]
        clear HM hfl hgo hst hpt hs hV
        go_wp2_with fail
        go_roundw
        case rel => exact ⟨k + 1, by omega, by go_num, ⟨_, _, _, rfl⟩, Lib.hid ⟨_, _, _, HN.out _⟩⟩
        case measure => simp [intOf]; omega
      · have HP := Lib.hid (HM.out.run.stop hlt (by rw [hV]; exact hs))
        have hpass := (one_stop (HCh.out.good.right _ (List.getElem_mem hlt)) (by rw [hV]; exact hs)).1
        rw [hV] at HP hpass
        have hb5 := (Below.refl w4.heap.size w4).alloc (Nat.le_refl _) (.cells (vrdA V (.slice pv V.fields.length cv) (.slice none 0 0)) 42)
        have hz : ¬ F w.heap.size := fun e => by have := HCh.out.lt _ e; omega
        have HZ5 := Lib.hid ((hst.has HM.out.vb hz).alloc (.cells (vrdA V (.slice pv V.fields.length cv) (.slice none 0 0)) 42))
        have HE := Lib.hid (rreq_end HCh.out (show ¬ refused s now by unfold refused; omega) HP.out (hpt.step HI.out (Step.of_below hb5 (fun _ => False)) (fun _ _ h => h)) HI.out ((HM.out.step.trans hst).trans (Step.of_below hb5 F)) HZ5.out (RowKeep.row_mono (RowKeep.row_below hfl hb5) HM.out.step.size) (by rw [hpass]; exact lst_nil _ _) (fun q _ e => by cases e) (vrdA V (.slice pv V.fields.length cv) (.slice none 0 0)))
        unfold vrdA at *
        rw [hs] at HE HZ5 ⊢
        clear HM hfl hgo hst hs HP hpass hV hb5 hpt
        have Z5 := HZ5.out
        go_wp2_with (refine store_whole rfl 42 5 rverd_size _ _ rfl w.heap.size _ _ Z5 rfl rfl (by simp [Value.oneCell']) rfl rfl ?_)
        refine bodyPost_ret (v := .tuple #[.agg #[.bool true, .int .i64 V.status, .slice pv V.fields.length cv, .string (ofL V.body), .slice none 0 0], .int .i64 0]) (end_pair rfl _ _ w.heap.size 42 _ _ rfl rfl (has_set Z5 _) (run_loadVar_row _ _ _ _ _ (0, 0) _ (has_set Z5 _).at_ Try.underlying42 rfl (by kernel_rfl))) rfl ?_
        exact HE.out
    · obtain rfl : k = s.fs.length := by omega
      have HM := Lib.hid hM
      have hle : G'.length ≤ 33554432 := by have := hM.len; omega
      have hsz5 : wr.heap.size ≤ (wr.alloc (.cells #[] 54)).heap.size := by simp
      have hF5 := hM.list _ _ (Step.alloc wr (.cells #[] 54) F)
      clear hM hd
      go_wp2_with (first | (at_builtin; refine wpList_append_any rfl _ _ rfl wr.heap.size _ 0 [] rfl (FRow.owns_none wr _ _ (Nat.le_refl _)) _ G' rfl hF5 (by omega) hsz5 ?_; intro v6 w6 hown6 hg6; obtain ⟨hrow, hb6⟩ := FRow.copied hown6 hg6; obtain ⟨p6, c6, rfl, -⟩ := RowKeep.row_form hrow; have Z6 := HM.out.vb.below hb6 HM.out.vb.lt) | (refine store_whole rfl 42 5 rverd_size _ _ rfl w.heap.size _ _ Z6 rfl rfl (by simp [Value.oneCell']) rfl rfl ?_))
      have HE := Lib.hid (rreq_end (mt := mt) (size := size) (G := G) HCh.out (show ¬ refused s now by unfold refused; omega) HM.out.run.last (HM.out.parts.step HI.out (Step.of_below hb6 (fun _ => False)) (fun _ _ h => h)) HI.out (HM.out.step.trans (Step.of_below hb6 F)) Z6 (lst_nil _ _) (RowKeep.row_mono hrow HM.out.step.size) (fun q e => by cases e) (vrdA ⟨false, 0, [], [], G'⟩ (.slice none 0 0) (.slice p6 G'.length c6)))
      clear HM hrow hb6 hown6 hg6 hF5 hsz5 c0
      refine bodyPost_ret (v := .tuple #[.agg #[.bool false, .int .i64 0, .slice none 0 0, .string ⟨#[]⟩, .slice p6 G'.length c6], .int .i64 0]) (end_pair rfl _ _ w.heap.size 42 _ _ rfl rfl (has_set Z6 _) (run_loadVar_row _ _ _ _ _ (0, 0) _ (has_set Z6 _).at_ Try.underlying42 rfl (by kernel_rfl))) rfl ?_
      exact HE.out
set_option maxHeartbeats 1600000 in
theorem rreq16 (F : Nat → Prop) (g : Nat) (lv : Value) (s : Cn) (now : Int) (mt : ByteArray) (size : Int) (vl : Value) (G : List HField) (hG : FewM G) (hl : G.length + s.fs.length ≤ 16777216) (w : World) (h : RCh w F g lv s) (hfi : Kpt F w (fun W => Filts W lv s.fs)) (hF : Kpt F w (fun W => FL W vl G)) :
    Calls Try.prog 17 #[.pointer (some ⟨g, 0, none⟩), .int .i64 now, .string mt, vl, .int .i64 size] w fun e w' => RReqC w w' e F g lv (req16 dv16 dn16 s now (toL mt) size G) (nxt16 dv16 dn16 s now (toL mt) size G) := by
  by_cases hr : refused s now
  · have e1 : req16 dv16 dn16 s now (toL mt) size G = (none16, 20) := by unfold req16; rw [if_pos hr]
    have e2 : nxt16 dv16 dn16 s now (toL mt) size G = s := by unfold nxt16; rw [if_pos hr]
    rw [e1, e2]
    obtain ⟨bv, bl, hp, hi⟩ := h.parts
    obtain ⟨dk, hd⟩ := hp.hd
    have hZ := Has.new w 42 zV16
    have c1 : (w.alloc (.cells zV16 42)).cell? ⟨g, 4, none⟩ = some (.int .i64 s.seen) := (hd.alloc _).cell 4
    have hs : Step w ((w.alloc (.cells zV16 42)).setRow w.heap.size zV16) F F := (Step.alloc w _ F).beyond (step_set (F := fun k => k = w.heap.size) zV16 rfl) (fun j e => by omega)
    have h5 : Step w ((w.alloc (.cells zV16 42)).setRow w.heap.size zV16) (fun _ => False) (fun _ => False) := (Step.alloc w _ _).beyond (step_set (F := fun k => k = w.heap.size) zV16 rfl) (fun j e => by omega)
    have HE : Hid (RReqC w ((w.alloc (.cells zV16 42)).setRow w.heap.size zV16) (.returned (.tuple #[.agg zV16, .int .i64 20])) F g lv (none16, 20) s) := Lib.hid
      ⟨.slice none 0 0, .slice none 0 0, rfl, lst_nil _ _, lst_nil _ _, (fun q e => by cases e), h.step h5 (fun _ _ h => h), hs⟩
    have hx : now < s.seen ∨ (¬ now < s.seen ∧ 1099511627776 < now) := by unfold refused at hr; omega
    clear e1 e2 h hp hi hs h5 hr hd
    have Z5 := hZ
    rcases hx with hx | ⟨hx, hy⟩
    all_goals
      go_enter Try.func17, Try.ntmps17
      go_wp2_with (refine store_whole rfl 42 5 rverd_size _ _ rfl w.heap.size _ _ Z5 rfl rfl (by simp [Value.oneCell']) rfl rfl ?_)
      refine bodyPost_ret (v := .tuple #[.agg zV16, .int .i64 20]) (end_pair rfl _ _ w.heap.size 42 _ _ rfl rfl (has_set Z5 _) (run_loadVar_row _ _ _ _ _ (0, 0) _ (has_set Z5 _).at_ Try.underlying42 rfl (by kernel_rfl))) rfl ?_
      exact HE.out
  · have h1 : s.seen ≤ now ∧ now ≤ 1099511627776 := by unfold refused at hr; omega
    have e1 : req16 dv16 dn16 s now (toL mt) size G = ((run16 dv16 dn16 now (toL mt) size s.fs s.bs s.d G).1, 0) := by unfold req16; rw [if_neg hr]
    have e2 : nxt16 dv16 dn16 s now (toL mt) size G = ⟨s.fs, (run16 dv16 dn16 now (toL mt) size s.fs s.bs s.d G).2.1, (run16 dv16 dn16 now (toL mt) size s.fs s.bs s.d G).2.2, now⟩ := by unfold nxt16; rw [if_neg hr]
    rw [e1, e2]
    exact rreq_go F g lv s now h1.1 h1.2 mt size vl G hG hl w h hfi hF
end Go.Proofs.Ytfdpoibmlggfbaa.R16Req

/- The document's layer 16: New. -/
namespace Go.Proofs.Ytfdpoibmlggfbaa.R16New
open Go.ChangeShapes Go.WideShapes Go.ChangeAt Go.RowKit Bytes LexPure ConfPure ConfMem FieldsPure Flds FilterPure FiltState FiltKeep FiltObj BucketPure BucketObj BucketOps R14Eq L16Right R16Box Ret Mem Step
set_option maxRecDepth 100000
set_option linter.unusedVariables false
set_option linter.unusedSimpArgs false
theorem infoPt : (Try.prog.info? 74).map (fun i => (i.zero, i.size, i.bytes)) = some (some (.pointer none), 1, 8) := by kernel_rfl
theorem take_snoc {fs : List Filt} {k : Nat} (hk : k < fs.length) : fs.take (k + 1) = fs.take k ++ [fs[k]] := List.take_succ_eq_append_getElem hk
theorem map_at {fs : List Filt} {i : Nat} (h : i < fs.length) : (fs.map bk16).getD i zB = bk16 fs[i] := by simp [List.getD, List.getElem?_eq_getElem h]
theorem getD_app {bl : List Nat} {b i : Nat} : (bl ++ [b]).getD i 0 = if i = bl.length then b else bl.getD i 0 := by
  by_cases h : i = bl.length
  · subst h; simp [List.getD]
  · rw [if_neg h]
    rcases Nat.lt_or_ge i bl.length with q | q
    · simp [List.getD, List.getElem?_append_left q]
    · have : bl.length + 1 ≤ i := by omega
      simp [List.getD, List.getElem?_append_right q]
      rw [List.getElem?_eq_none (by simp; omega), List.getElem?_eq_none q]
/-- a chain that is made: k buckets so far -/
structure RMk (w : World) (g : Nat) (lv bv : Value) (bl : List Nat) (fs : List Filt) (sd : Int) (k : Nat) (wr : World) : Prop where
  parts : RParts wr g lv bv bl (fs.take k) ((fs.take k).map bk16) sd 0
  row : wr.ownsRow w.heap.size 74 1 bv k (bl.map pt)
  bk : ∀ i (hi : i < (fs.take k).length), (fs.take k)[i].kind = 3 → w.heap.size ≤ bl.getD i 0
  below : Below w.heap.size w wr
  lo : w.heap.size ≤ g
section
variable {w wr W' W3 W4 : World} {g : Nat} {lv bv : Value} {bl : List Nat} {fs : List Filt} {sd : Int} {k b : Nat} {g4 cap4 : Nat}
theorem RMk.step (h : RMk w g lv bv bl fs sd k wr) (hb : Below wr.heap.size wr W') : RMk w g lv bv bl fs sd k W' := by
  have hs : Step wr W' (fun _ => False) (fun _ => False) := Step.of_below hb _
  exact ⟨h.parts.step (F := fun q => q < wr.heap.size) ⟨by obtain ⟨dk, hd⟩ := h.parts.hd; exact hd.lt, fun b hb => row_lt h.parts.row hb, fun i hi h3 => (h.parts.bk i hi h3).lt⟩ hs (fun _ _ h => h), RowKeep.row_below h.row hb, h.bk, below_chain h.below hb |> fun q => ⟨q.os, q.tape, q.output, q.size, q.block⟩, h.lo⟩
theorem RMk.push (h : RMk w g lv bv bl fs sd k W3) (hk : k < fs.length) (hb : fs[k].kind = 3 → w.heap.size ≤ b ∧ Bk W3 b 78 (bk16 fs[k]))
    (hne : fs[k].kind = 3 → ∀ i (hi : i < (fs.take k).length), (fs.take k)[i].kind = 3 → bl.getD i 0 ≠ b)
    (hown : W4.ownsRow w.heap.size 74 1 (.slice (some ⟨g4, 0, none⟩) (k + 1) cap4) (k + 1) (bl.map pt ++ [.pointer (some ⟨b, 0, none⟩)])) (hg : W3.grownBy W4 bv.ownBlock) :
    RMk w g lv (.slice (some ⟨g4, 0, none⟩) (k + 1) cap4) (bl ++ [b]) fs sd (k + 1) (W4.setCell ⟨g, 1, none⟩ (.slice (some ⟨g4, 0, none⟩) (k + 1) cap4)) := by
  have hkl : (fs.take k).length = k := by rw [List.length_take]; omega
  have hbl : bl.length = k := by rw [h.parts.lb, hkl]
  obtain ⟨dk, hd⟩ := h.parts.hd
  have keep : ∀ {q : Nat} {t : TypeId} {cs : Array Value}, Has W3 q t cs → 74 ≠ t → Has W4 q t cs := fun hq ht => hq.grown hg (fun e => row_ne h.row hq ht e.symm)
  have hrow : W4.ownsRow w.heap.size 74 1 (.slice (some ⟨g4, 0, none⟩) (k + 1) cap4) (k + 1) ((bl ++ [b]).map pt) := by
    rw [List.map_append]
    exact hown
  have hs : Step W4 (W4.setCell ⟨g, 1, none⟩ (.slice (some ⟨g4, 0, none⟩) (k + 1) cap4)) (fun q => q = g) (fun q => q = g) := Step.set_ (F := fun q => q = g) W4 rfl 1 _
  have hd4 := keep hd (by decide)
  have hrow5 := hs.row hrow (fun q hq e => row_ne hrow hd4 (by decide) (by rw [hq, e]))
  have hk1 : (fs.take (k + 1)).length = k + 1 := by rw [List.length_take]; omega
  have hbk : ∀ i (hi : i < (fs.take (k + 1)).length), (fs.take (k + 1))[i].kind = 3 → Bk W4 ((bl ++ [b]).getD i 0) 78 (((fs.take (k + 1)).map bk16).getD i zB) ∧ w.heap.size ≤ (bl ++ [b]).getD i 0 := by
    intro i hi h3
    rw [map_at hi, getD_app]
    rw [List.getElem_take] at h3 ⊢
    by_cases e : i = k
    · subst e
      rw [if_pos hbl.symm]
      exact ⟨keep (hb h3).2 (by decide), (hb h3).1⟩
    · rw [if_neg (by omega)]
      have hi2 : i < (fs.take k).length := by omega
      have h4 := h.parts.bk i hi2 (by rw [List.getElem_take]; exact h3)
      rw [map_at hi2, List.getElem_take] at h4
      exact ⟨keep h4 (by decide), h.bk i hi2 (by rw [List.getElem_take]; exact h3)⟩
  refine ⟨⟨⟨dk, hd4.set_ 1 _⟩, by rw [hk1]; exact RowKeep.row_mono hrow5 (Nat.zero_le _), by rw [List.length_append, hk1, hbl]; rfl, by rw [List.length_map], fun i hi h3 => hs.has (hbk i hi h3).1 (Has.ne_ (hbk i hi h3).1 hd4 (by decide)), fun i j hj hij h3 h3' => ?_⟩,
    hrow5, fun i hi h3 => (hbk i hi h3).2, Below.setCell (p := ⟨g, 1, none⟩) (h.below.grown hg h.below.size (fun q hq => (h.row.lt q hq).1)) h.lo _, h.lo⟩
  rw [List.getElem_take] at h3 h3'
  rw [getD_app, getD_app]
  rw [if_neg (by omega)]
  by_cases e : j = k
  · subst e
    rw [if_pos hbl.symm]
    exact hne h3' i (by omega) (by rw [List.getElem_take]; exact h3)
  · rw [if_neg (by omega)]
    exact h.parts.ap i j (by omega) hij (by rw [List.getElem_take]; exact h3) (by rw [List.getElem_take]; exact h3')
theorem RMk.done (h : RMk w g lv bv bl fs sd fs.length wr) (hr : ∀ f ∈ fs, filtB f = true) : RNewC w wr (.returned (.pointer (some ⟨g, 0, none⟩))) lv (start16 fs sd) := by
  obtain ⟨h1, h2, h3, h4, h5⟩ := h
  rw [List.take_length] at h1
  obtain ⟨dk, hd⟩ := h1.hd
  refine ⟨g, fun q => w.heap.size ≤ q ∧ q < wr.heap.size, rfl, ⟨fun k hk => hk.2, good_start hr sd, bv, bl, h1, ⟨⟨h5, hd.lt⟩, fun b hb => ⟨(h2.lt b hb).1, (h2.lt b hb).2⟩, fun i hi h3' => ⟨?_, (h1.bk i hi h3').lt⟩⟩⟩, fun k hk => hk.1⟩
  exact h3 i (by rw [List.take_length]; exact hi) (by rw [List.getElem_take]; exact h3')
end
theorem newE_0 {n m k : Int} (h : ¬ newE n m k 0 = 0) : newE n m k 0 = 30 := by
  unfold newE at h ⊢
  split at h
  · rename_i q
    rw [if_pos (by decide)] at h
    exact absurd rfl h
  · rename_i q
    rw [if_neg q]
theorem limit_E {f : Filt} (hf : filtB f = true) (h : f.kind = 3) : newE f.n f.m f.k 0 = 0 := by
  obtain ⟨h1, h2, h3⟩ := limit_fits hf h
  unfold newE
  simp [h1, h2, h3]
set_option maxHeartbeats 6400000 in
theorem rnew16 (fs : List Filt) (hr : ∀ f ∈ fs, filtB f = true) (hl : fs.length ≤ 4194304) (seed : Int) (hs : inI seed) (vl : Value) (w : World) (h : Filts w vl fs) :
    Calls Try.prog 12 #[vl, .int .i64 seed] w fun e w' => RNewC w w' e vl (start16 fs (seed16 seed)) ∧ Below w.heap.size w w' := by
  obtain ⟨i0, hi, hz0, hz1, hz2⟩ := info_parts infoPt
  obtain ⟨pl, cl, rfl, -, hcl⟩ := h.parts
  have hb0 := (Below.refl w.heap.size w).alloc (Nat.le_refl _) (.cells #[.slice pl fs.length cl, .slice none 0 0, .int .u64 (seed16 seed), .int .i64 0, .int .i64 0] 73)
  have hd0 := Has.new w 73 #[.slice pl fs.length cl, .slice none 0 0, .int .u64 (seed16 seed), .int .i64 0, .int .i64 0]
  have HM0 : Hid (RMk w w.heap.size (.slice pl fs.length cl) (.slice none 0 0) [] fs (seed16 seed) 0 (w.alloc (.cells #[.slice pl fs.length cl, .slice none 0 0, .int .u64 (seed16 seed), .int .i64 0, .int .i64 0] 73))) := Lib.hid
    ⟨⟨⟨0, hd0⟩, World.ownsRow_nil _ _ _ _, rfl, rfl, fun i hi => by simp at hi, fun i j hj => by simp at hj⟩, World.ownsRow_nil _ _ _ _, fun i hi => by simp at hi, hb0, Nat.le_refl _⟩
  have HCL := Lib.hid hcl
  have HR := Lib.hid hr
  unfold seed16 at *
  clear h hcl hb0 hd0 hr
  go_enter Try.func12, Try.ntmps12
  go_wp2_with fail
  go_loopw [6] (fun i wr => ∃ k : Nat, k ≤ fs.length ∧ i = .int .i64 k ∧ Hid (∃ bv bl, RMk w w.heap.size (.slice pl fs.length cl) bv bl fs (IntKind.u64.wrap seed) k wr)) (fun i _ => fs.length - (intOf i).toNat)
  case atStart => exact ⟨0, Nat.zero_le _, rfl, Lib.hid ⟨_, _, HM0.out⟩⟩
  case round =>
    obtain ⟨k, hk, rfl, HM⟩ := hrel
    clear HM0
    obtain ⟨bv, bl, hM⟩ := HM.out
    clear HM
    by_cases hlt : k < fs.length
    · have hki : (k : Int) < (fs.length : Int) := by omega
      have hk0 : (0 : Int) ≤ (k : Int) := by omega
      obtain ⟨g0, o0, rfl, hg0, hcell⟩ := HCL.out (by omega)
      obtain ⟨-, -, -, d3, d4, d5⟩ := hcell k hlt
      clear hcell
      replace d3 : wr.cell? ⟨g0, o0 + k * 6 + 3, none⟩ = some (.int .i64 fs[k].n) := (hM.below.cell (p := ⟨g0, o0 + k * 6 + 3, none⟩) hg0).trans d3
      replace d4 : wr.cell? ⟨g0, o0 + k * 6 + 4, none⟩ = some (.int .i64 fs[k].m) := (hM.below.cell (p := ⟨g0, o0 + k * 6 + 4, none⟩) hg0).trans d4
      replace d5 : wr.cell? ⟨g0, o0 + k * 6 + 5, none⟩ = some (.int .i64 fs[k].k) := (hM.below.cell (p := ⟨g0, o0 + k * 6 + 5, none⟩) hg0).trans d5
      have hgw : g0 < wr.heap.size := Nat.lt_of_lt_of_le hg0 hM.below.size
      obtain ⟨pr, cr, rfl, -⟩ := RowKeep.row_form hM.row
      have hMd := hM.step (Below.refl wr.heap.size wr).drew
      by_cases hE : newE fs[k].n fs[k].m fs[k].k 0 = 0
      · have HN := Lib.hid (BucketRefO.rnew_ok fs[k].n fs[k].m fs[k].k 0 hE wr.drew)
        have hb2 := (Below.refl wr.drew.heap.size wr.drew).alloc (Nat.le_refl _) (.cells #[.int .i64 fs[k].n, .int .i64 fs[k].m, .int .i64 fs[k].k, .int .i64 fs[k].n, .int .i64 0, .int .i64 0] 78)
        have hB2 := Has.new wr.drew 78 #[.int .i64 fs[k].n, .int .i64 fs[k].m, .int .i64 fs[k].k, .int .i64 fs[k].n, .int .i64 0, .int .i64 0]
        obtain ⟨b, hb⟩ : ∃ b, b = wr.drew.heap.size := ⟨_, rfl⟩
        obtain ⟨W2, hW2⟩ : ∃ W2, wr.drew.alloc (.cells #[.int .i64 fs[k].n, .int .i64 fs[k].m, .int .i64 fs[k].k, .int .i64 fs[k].n, .int .i64 0, .int .i64 0] 78) = W2 := ⟨_, rfl⟩
        have HS2 : Hid ((fun w' : World => w'.cell? ⟨g0, o0 + k * 6 + 3, none⟩ = some (.int .i64 fs[k].n) ∧ w'.cell? ⟨g0, o0 + k * 6 + 4, none⟩ = some (.int .i64 fs[k].m) ∧ w'.cell? ⟨g0, o0 + k * 6 + 5, none⟩ = some (.int .i64 fs[k].k)) W2) := Lib.hid (by
          rw [← hW2]
          exact ⟨(hb2.cell (p := ⟨g0, _, none⟩) hgw).trans d3, (hb2.cell (p := ⟨g0, _, none⟩) hgw).trans d4, (hb2.cell (p := ⟨g0, _, none⟩) hgw).trans d5⟩)
        have HM2 := Lib.hid (hMd.step hb2)
        have HB2 : Hid (fs[k].kind = 3 → Bk (wr.drew.alloc (.cells #[.int .i64 fs[k].n, .int .i64 fs[k].m, .int .i64 fs[k].k, .int .i64 fs[k].n, .int .i64 0, .int .i64 0] 78)) wr.drew.heap.size 78 (bk16 fs[k])) := Lib.hid (fun e => by unfold bk16; rw [if_pos e]; exact hB2)
        have HLO : Hid (∀ i (hi : i < (fs.take k).length), (fs.take k)[i].kind = 3 → bl.getD i 0 ≠ wr.drew.heap.size) := Lib.hid (fun i hi h3 e => by have h4 := (hMd.parts.bk i hi h3).lt; omega)
        have HSZ : Hid (w.heap.size ≤ wr.drew.heap.size) := Lib.hid hMd.below.size
        rw [← hb] at HN HB2 HLO HSZ
        rw [hW2] at HN HM2 HB2
        clear hM hMd hb2 hB2 hE hW2 hb
        go_wp2_with fail
        go_region_held3 (fun w' => w'.cell? ⟨g0, o0 + k * 6 + 3, none⟩ = some (.int .i64 fs[k].n) ∧ w'.cell? ⟨g0, o0 + k * 6 + 4, none⟩ = some (.int .i64 fs[k].m) ∧ w'.cell? ⟨g0, o0 + k * 6 + 5, none⟩ = some (.int .i64 fs[k].k)) (first | exact s1 | go_keep)
          (first
            | (go_at_call 25; refine HN.out.mono ?_; rintro e w2 ⟨rfl, rfl⟩
               have s1 : W2.cell? ⟨g0, o0 + k * 6 + 3, none⟩ = some (.int .i64 fs[k].n) ∧ W2.cell? ⟨g0, o0 + k * 6 + 4, none⟩ = some (.int .i64 fs[k].m) ∧ W2.cell? ⟨g0, o0 + k * 6 + 5, none⟩ = some (.int .i64 fs[k].k) := HS2.out))
        clear s1 HS2 HN d3 d4 d5
        have hMa := HM2.out
        have hM3 := hMa.step ((Below.refl W2.heap.size W2).alloc (Nat.le_refl _) (.cells #[.pointer (some ⟨b, 0, none⟩)] 74))
        have HM3 := Lib.hid hM3
        obtain ⟨dk2, hd2⟩ := hMa.parts.hd
        have y0 : W2.cell? ⟨w.heap.size, 1, none⟩ = some (.slice pr k cr) := hd2.cell 1
        obtain ⟨dk3, hd3⟩ := hM3.parts.hd
        have hr3 := hM3.row
        have hnw := World.news_of_block (heap_alloc_new W2 (.cells #[.pointer (some ⟨b, 0, none⟩)] 74))
        have hsz3 := hM3.below.size
        clear hMa hM3 hd2
        go_wp2_with (at_builtin; (refine wpList_append_lies _ rfl _ _ 68 rfl w.heap.size 74 i0 (.pointer none) 1 8 Try.underlying68 hi hz0 hz1 hz2 rfl (by decide) (.slice pr k cr) k (bl.map pt) rfl hr3 ⟨W2.heap.size, 0, none⟩ 1 1 [.pointer (some ⟨b, 0, none⟩)] rfl rfl hnw (by simp [Value.oneCell']) (by omega) (by unfold maxLen; omega) (by omega) hsz3 (W2.heap.size + 1) (by simp) ?_); intro g4 cap4 w4 hown4 hg4 hat4 hlt4; have hd4 := hd3.grown hg4 (fun e => row_ne HM3.out.row hd3 (by decide) e.symm); have c4 : w4.cell? ⟨w.heap.size, 1, none⟩ = some (.slice pr k cr) := hd4.cell 1; have z4 := hd4.free 1)
        have HP := Lib.hid (HM3.out.push (b := b) hlt (fun e => ⟨HSZ.out, (HB2.out e).alloc _⟩) (fun e i hi h3 => HLO.out i hi h3) hown4 hg4)
        clear hd4 c4 z4 hown4 hg4 hat4 hlt4 HM3 HM2 HB2 HLO HSZ hr3 hnw hsz3 y0 hd3
        generalize (w4.setCell _ _) = w5 at *
        go_wp2_with fail
        go_roundw
        case rel => exact ⟨k + 1, by omega, by go_num, Lib.hid ⟨_, _, HP.out⟩⟩
        case measure => simp [intOf]; omega
      · have hn := BucketRefO.rnew_bad fs[k].n fs[k].m fs[k].k 0 hE wr.drew
        rw [newE_0 hE] at hn
        have HN := Lib.hid hn
        obtain ⟨W1, hW1⟩ : ∃ W1, wr.drew = W1 := ⟨_, rfl⟩
        have HW1 := Lib.hid hW1
        have HS2 : Hid ((fun w' : World => w'.cell? ⟨g0, o0 + k * 6 + 3, none⟩ = some (.int .i64 fs[k].n) ∧ w'.cell? ⟨g0, o0 + k * 6 + 4, none⟩ = some (.int .i64 fs[k].m) ∧ w'.cell? ⟨g0, o0 + k * 6 + 5, none⟩ = some (.int .i64 fs[k].k)) W1) := Lib.hid (by rw [← hW1]; exact ⟨d3, d4, d5⟩)
        rw [hW1] at hMd
        have hb2 := (Below.refl W1.heap.size W1).alloc (Nat.le_refl _) (.cells #[.int .i64 1, .int .i64 1, .int .i64 1, .int .i64 0, .int .i64 0, .int .i64 0] 78)
        have HM2 := Lib.hid (hMd.step hb2)
        have HK : Hid (fs[k].kind ≠ 3) := Lib.hid (fun e => hE (limit_E (HR.out _ (List.getElem_mem hlt)) e))
        have HB2 : Hid (fs[k].kind = 3 → Bk (W1.alloc (.cells #[.int .i64 1, .int .i64 1, .int .i64 1, .int .i64 0, .int .i64 0, .int .i64 0] 78)) W1.heap.size 78 (bk16 fs[k])) := Lib.hid (fun e => absurd e HK.out)
        have HLO : Hid (∀ i (hi : i < (fs.take k).length), (fs.take k)[i].kind = 3 → bl.getD i 0 ≠ W1.heap.size) := Lib.hid (fun i hi h3 e => by have h4 := (hMd.parts.bk i hi h3).lt; omega)
        have HSZ : Hid (w.heap.size ≤ W1.heap.size) := Lib.hid hMd.below.size
        clear hM hMd hb2 hE hW1 hn
        go_wp2_with fail
        go_region_held3 (fun w' => w'.cell? ⟨g0, o0 + k * 6 + 3, none⟩ = some (.int .i64 fs[k].n) ∧ w'.cell? ⟨g0, o0 + k * 6 + 4, none⟩ = some (.int .i64 fs[k].m) ∧ w'.cell? ⟨g0, o0 + k * 6 + 5, none⟩ = some (.int .i64 fs[k].k)) (first | exact s1 | go_keep)
          (first
            | (go_at_call 25; refine HN.out.mono ?_; rintro e w2 ⟨rfl, hw2⟩
               have hw3 : W1 = w2 := HW1.out.symm.trans hw2
               subst hw3
               have s1 : W1.cell? ⟨g0, o0 + k * 6 + 3, none⟩ = some (.int .i64 fs[k].n) ∧ W1.cell? ⟨g0, o0 + k * 6 + 4, none⟩ = some (.int .i64 fs[k].m) ∧ W1.cell? ⟨g0, o0 + k * 6 + 5, none⟩ = some (.int .i64 fs[k].k) := HS2.out))
        clear s1 HS2 HN HW1 d3 d4 d5
        have hMa := HM2.out
        have hM3 := hMa.step ((Below.refl (W1.alloc (.cells #[.int .i64 1, .int .i64 1, .int .i64 1, .int .i64 0, .int .i64 0, .int .i64 0] 78)).heap.size (W1.alloc (.cells #[.int .i64 1, .int .i64 1, .int .i64 1, .int .i64 0, .int .i64 0, .int .i64 0] 78))).alloc (Nat.le_refl _) (.cells #[.pointer (some ⟨W1.heap.size, 0, none⟩)] 74))
        have HM3 := Lib.hid hM3
        obtain ⟨dk2, hd2⟩ := hMa.parts.hd
        have y0 : (W1.alloc (.cells #[.int .i64 1, .int .i64 1, .int .i64 1, .int .i64 0, .int .i64 0, .int .i64 0] 78)).cell? ⟨w.heap.size, 1, none⟩ = some (.slice pr k cr) := hd2.cell 1
        obtain ⟨dk3, hd3⟩ := hM3.parts.hd
        have hr3 := hM3.row
        have hnw := World.news_of_block (heap_alloc_new (W1.alloc (.cells #[.int .i64 1, .int .i64 1, .int .i64 1, .int .i64 0, .int .i64 0, .int .i64 0] 78)) (.cells #[.pointer (some ⟨W1.heap.size, 0, none⟩)] 74))
        simp only [World.size_alloc] at hnw
        have hsz3 := hM3.below.size
        clear hMa hM3 hd2
        go_wp2_with (at_builtin; (refine wpList_append_lies _ rfl _ _ 68 rfl w.heap.size 74 i0 (.pointer none) 1 8 Try.underlying68 hi hz0 hz1 hz2 rfl (by decide) (.slice pr k cr) k (bl.map pt) rfl hr3 ⟨W1.heap.size + 1, 0, none⟩ 1 1 [.pointer (some ⟨W1.heap.size, 0, none⟩)] rfl rfl hnw (by simp [Value.oneCell']) (by omega) (by unfold maxLen; omega) (by omega) hsz3 (W1.heap.size + 1 + 1) (by simp) ?_); intro g4 cap4 w4 hown4 hg4 hat4 hlt4; have hd4 := hd3.grown hg4 (fun e => row_ne HM3.out.row hd3 (by decide) e.symm); have c4 : w4.cell? ⟨w.heap.size, 1, none⟩ = some (.slice pr k cr) := hd4.cell 1; have z4 := hd4.free 1)
        have HP := Lib.hid (HM3.out.push (b := W1.heap.size) hlt (fun e => ⟨HSZ.out, (HB2.out e).alloc _⟩) (fun e i hi h3 => HLO.out i hi h3) hown4 hg4)
        clear hd4 c4 z4 hown4 hg4 hat4 hlt4 HM3 HM2 HB2 HLO HSZ hr3 hnw hsz3 y0 hd3
        generalize (w4.setCell _ _) = w5 at *
        go_wp2_with fail
        go_roundw
        case rel => exact ⟨k + 1, by omega, by go_num, Lib.hid ⟨_, _, HP.out⟩⟩
        case measure => simp [intOf]; omega
    · obtain rfl : k = fs.length := by omega
      have HE := Lib.hid (And.intro (hM.done HR.out) hM.below)
      clear hM
      go_wp2_with fail
      go_ret
      exact HE.out
end Go.Proofs.Ytfdpoibmlggfbaa.R16New

/- Layer 16: names put together with commas; the way back, name by name; a limit's rounds. No program is named. -/
namespace Go.Proofs.Ytfdpoibmlggfbaa.FilterMore
open Bytes LexPure LexList PathPure ConfPure ConfBack FieldsPure BucketPure FilterPure
set_option maxRecDepth 20000
set_option linter.unusedVariables false
/-! ### names with commas ahead -/
def joinedL (s : List L) : L := s.flatMap fun x => 44 :: x
theorem joined_snoc (s : List L) (x : L) : joinedL (s ++ [x]) = joinedL s ++ 44 :: x := by unfold joinedL; rw [List.flatMap_append]; simp
/-- a name: no comma in it, no blanks about it, and not empty -/
structure Nm (x : L) : Prop where
  nc : noComma x = true
  tr : trim x = x
  ne : x ≠ []
theorem mark_nice : ∀ c : UInt8, markB c = true → blankB c = false ∧ c ≠ 44 := by
  intro c
  have : ∀ n, n < 256 → markB (UInt8.ofNat n) = true → blankB (UInt8.ofNat n) = false ∧ UInt8.ofNat n ≠ 44 := by decide +kernel
  have h := this c.toNat (UInt8.toNat_lt c)
  rwa [UInt8.ofNat_toNat] at h
theorem drop_none {s : L} (h : ∀ c ∈ s, blankB c = false) : s.dropWhile blankB = s := by
  cases s with
  | nil => rfl
  | cons c s => rw [List.dropWhile_cons_of_neg]; rw [h c List.mem_cons_self]; simp
theorem Nm.of_token {x : L} (h : token x = true) : Nm x := by
  unfold token at h
  rw [Bool.and_eq_true, List.all_eq_true] at h
  obtain ⟨h1, h2⟩ := h
  refine ⟨?_, ?_, fun e => by rw [e] at h2; cases h2⟩
  · unfold noComma
    rw [List.all_eq_true]
    intro c hc
    simpa [bne] using (mark_nice c (h1 c hc)).2
  · unfold trim
    rw [drop_none (fun c hc => (mark_nice c (h1 c hc)).1), drop_none (fun c hc => (mark_nice c (h1 c (List.mem_reverse.1 hc))).1), List.reverse_reverse]
theorem Nm.one {x : L} (h : Nm x) : LexList.one x = [x] := by
  unfold LexList.one
  rw [h.tr, if_neg]
  cases x with
  | nil => exact absurd rfl h.ne
  | cons => simp
theorem elements_joined : ∀ (s : List L), (∀ x ∈ s, Nm x) → elements (joinedL s) = s
  | [], _ => by decide
  | x :: s, h => by
    have hx := h x List.mem_cons_self
    have ih := elements_joined s (fun y hy => h y (List.mem_cons_of_mem _ hy))
    have e : joinedL (x :: s) = [] ++ 44 :: (x ++ joinedL s) := by unfold joinedL; simp
    rw [e, elements_cut (by rfl), show LexList.one ([] : L) = [] from by decide, List.nil_append]
    cases s with
    | nil => rw [show joinedL [] = [] from rfl, List.append_nil, elements_plain hx.nc, hx.one]
    | cons y s =>
      have e2 : joinedL (y :: s) = 44 :: (y ++ joinedL s) := by unfold joinedL; simp
      have e3 : joinedL (y :: s) = [] ++ 44 :: (y ++ joinedL s) := by rw [e2]; rfl
      rw [e3, elements_cut (by rfl), show LexList.one ([] : L) = [] from by decide, List.nil_append] at ih
      rw [e2, elements_cut hx.nc, hx.one, ih]
      rfl
theorem has_joined (s : List L) (h : ∀ x ∈ s, Nm x) (n : L) : hasE [([108], joinedL s)] [108] n = s.any (fun x => alike x n) := by
  unfold hasE elems
  have : [(([108] : L), joinedL s)].filter (hit [108]) = [([108], joinedL s)] := by
    rw [List.filter_cons_of_pos]
    · rfl
    · exact alike_self _
  rw [this, List.flatMap_singleton]
  show (elements (joinedL s)).any _ = _
  rw [elements_joined s h]
/-! ### the way back, name by name -/
theorem acao_nm : Nm ACAO := Nm.of_token (by decide)
theorem alike_trans {a b c : L} (h1 : alike a b = true) (h2 : alike a c = false) : alike b c = false := by
  rw [← Bool.not_eq_true] at h2 ⊢
  intro h
  apply h2
  rw [alike_iff] at *
  exact h1.trans h
theorem name_nm {f : Filt} (hf : filtB f = true) {n : L} (h : name16 f = some n) : Nm n := by
  unfold name16 at h
  by_cases h8 : f.kind = 8
  · rw [if_pos h8] at h
    injection h with h
    subst h
    unfold filtB at hf
    rw [if_pos (.inr h8)] at hf
    simp only [Bool.and_eq_true] at hf
    have := hf.1.2
    unfold nameB tokenB at this
    simp only [Bool.and_eq_true] at this
    exact Nm.of_token this.2.1
  · rw [if_neg h8] at h
    by_cases h5 : f.kind = 5
    · rw [if_pos h5] at h; injection h with h; rw [← h]; exact acao_nm
    · rw [if_neg h5] at h; cases h
/-- the names that the first i filters set, each once -/
structure SetOk (fs : List Filt) (i : Nat) (s : List L) : Prop where
  nm : ∀ x ∈ s, Nm x
  all : ∀ g ∈ fs.take i, ∀ m, name16 g = some m → ∃ x ∈ s, alike x m = true
  bare : s = [] → ∀ g ∈ fs.take i, name16 g = none
theorem SetOk.zero (fs : List Filt) : SetOk fs 0 [] where
  nm := fun x h => absurd h List.not_mem_nil
  all := fun g h => by rw [List.take_zero] at h; cases h
  bare := fun _ g h => by rw [List.take_zero] at h; cases h
theorem SetOk.skip {fs : List Filt} {i : Nat} {s : List L} (h : SetOk fs i s) (hi : i < fs.length) (hn : name16 fs[i] = none) : SetOk fs (i + 1) s := by
  refine ⟨h.nm, fun g hg m hm => ?_, fun hs g hg => ?_⟩
  · rw [List.take_succ_eq_append_getElem hi] at hg
    rcases List.mem_append.1 hg with q | q
    · exact h.all g q m hm
    · obtain rfl := List.mem_singleton.1 q; rw [hn] at hm; cases hm
  · rw [List.take_succ_eq_append_getElem hi] at hg
    rcases List.mem_append.1 hg with q | q
    · exact h.bare hs g q
    · obtain rfl := List.mem_singleton.1 q; exact hn
theorem SetOk.had {fs : List Filt} {i : Nat} {s : List L} (h : SetOk fs i s) (hi : i < fs.length) {n : L} (hn : name16 fs[i] = some n) (ha : s.any (fun x => alike x n) = true) : SetOk fs (i + 1) s := by
  rw [List.any_eq_true] at ha
  obtain ⟨y, hy, hyn⟩ := ha
  refine ⟨h.nm, fun g hg m hm => ?_, fun hs => by rw [hs] at hy; cases hy⟩
  rw [List.take_succ_eq_append_getElem hi] at hg
  rcases List.mem_append.1 hg with q | q
  · exact h.all g q m hm
  · obtain rfl := List.mem_singleton.1 q
    rw [hn] at hm
    injection hm with hm
    exact ⟨y, hy, hm ▸ hyn⟩
theorem SetOk.more {fs : List Filt} {i : Nat} {s : List L} (h : SetOk fs i s) (hi : i < fs.length) (hf : filtB fs[i] = true) {n : L} (hn : name16 fs[i] = some n) : SetOk fs (i + 1) (s ++ [n]) := by
  refine ⟨fun x hx => ?_, fun g hg m hm => ?_, fun hs => by simp at hs⟩
  · rcases List.mem_append.1 hx with q | q
    · exact h.nm x q
    · obtain rfl := List.mem_singleton.1 q; exact name_nm hf hn
  · rw [List.take_succ_eq_append_getElem hi] at hg
    rcases List.mem_append.1 hg with q | q
    · obtain ⟨x, hx, hxm⟩ := h.all g q m hm
      exact ⟨x, List.mem_append_left _ hx, hxm⟩
    · obtain rfl := List.mem_singleton.1 q
      rw [hn] at hm
      injection hm with hm
      subst hm
      exact ⟨n, List.mem_append_right _ (List.mem_singleton.2 rfl), alike_self n⟩
/-- a name that none ahead sets has its filter's value -/
theorem SetOk.word {fs : List Filt} {i : Nat} {s : List L} (h : SetOk fs i s) (hi : i < fs.length) {n : L} (hn : name16 fs[i] = some n) (ha : s.any (fun x => alike x n) = false) (G : List HField) : getN (resp16 fs G) n = 1 ∧ getV (resp16 fs G) n = fs[i].value := by
  have e : fs = fs.take i ++ fs[i] :: fs.drop (i + 1) := by rw [List.getElem_cons_drop, List.take_append_drop]
  obtain ⟨f, hf⟩ : ∃ f, f = fs[i] := ⟨_, rfl⟩
  rw [← hf] at e hn ⊢
  rw [e]
  exact resp_first (fs.take i) (fs.drop (i + 1)) f G n hn (fun g hg m hm => by
    obtain ⟨x, hx, hxm⟩ := h.all g hg m hm
    have hxn : alike x n = false := by
      rw [List.any_eq_false] at ha
      simpa using ha x hx
    exact alike_trans hxm hxn)
theorem SetOk.done {fs : List Filt} (h : SetOk fs fs.length []) (G : List HField) : resp16 fs G = G :=
  resp_none fs G (fun g hg => h.bare rfl g (by rwa [List.take_length]))
/-! ### a limit's rounds -/
def lim (n m k r t told : Int) : B := ⟨n, m, k, t, r * k, told⟩
theorem pass_at (n m k r t told now : Int) (hk : 1 ≤ k) (h0 : r * k ≤ now) (h1 : now < r * k + k) (ht : t ≤ n) : BucketPure.pass (lim n m k r t told) now = lim n m k r t now := by
  have hf : fillings (lim n m k r t told) now = 0 := (quo_iff _ _ _ hk).2 (by simp only [lim]; omega)
  unfold BucketPure.pass after
  rw [hf]
  simp only [lim]
  congr 1 <;> omega
theorem pass_next (n m k r told : Int) (hk : 1 ≤ k) (hn : 0 ≤ n) : BucketPure.pass (lim n m k r 0 told) ((r + 1) * k) = lim n m k (r + 1) (min n m) ((r + 1) * k) := by
  have e : (r + 1) * k = r * k + k := by rw [Int.add_mul]; omega
  have hf : fillings (lim n m k r 0 told) ((r + 1) * k) = 1 := (quo_iff _ _ _ hk).2 (by simp only [lim]; omega)
  unfold BucketPure.pass after
  rw [hf]
  simp only [lim]
  congr 1 <;> omega
theorem less_one (n m k r t told : Int) (h : 1 ≤ t) : can (lim n m k r t told) 1 = true ∧ less (lim n m k r t told) 1 = lim n m k r (t - 1) told := by
  have hc : can (lim n m k r t told) 1 = true := decide_eq_true ⟨Int.le_refl _, h⟩
  exact ⟨hc, by unfold less; rw [if_pos hc]; rfl⟩
theorem less_none (n m k r told : Int) : can (lim n m k r 0 told) 1 = false ∧ less (lim n m k r 0 told) 1 = lim n m k r 0 told := by
  have hc : can (lim n m k r 0 told) 1 = false := decide_eq_false (fun h => by have := h.2; simp only [lim] at this; omega)
  exact ⟨hc, by unfold less; rw [if_neg (by rw [hc]; simp)]⟩
theorem lim_ok {n m k r t told : Int} (hn : 1 ≤ n ∧ n ≤ 1000) (hm : 1 ≤ m ∧ m ≤ 1000) (hk : 1 ≤ k ∧ k ≤ 1000) (hr : 0 ≤ r) (ht : 0 ≤ t ∧ t ≤ n) (h1 : r * k ≤ told) (h2 : told ≤ 1000000) : Ok (lim n m k r t told) :=
  ⟨hn.1, by simp only [lim]; omega, hm.1, by simp only [lim]; omega, hk.1, by simp only [lim]; omega, ht.1, ht.2, Int.mul_nonneg hr (by omega), h1, by simp only [lim]; omega⟩
end Go.Proofs.Ytfdpoibmlggfbaa.FilterMore

/- An argument that is a list of texts. -/
namespace Go.Proofs.Ytfdpoibmlggfbaa.SArg
open Go.ChangeShapes Go.WideShapes Go.ChangeAt Go.RowKit Go.Deep LexPure Bytes Ret Rows1 Texts BulkOf
set_option maxRecDepth 20000
/-- what both forms have in common: the texts, each with its reading -/
theorem texts_core {H : Type} {enc : TypeId × Value → H} {W : World} {v : Value} {d : DataW H} {p : List MemPlace} {fuel : Nat}
    (hf : DataW.trod enc Try.prog W 0 (fun _ => true) true fuel 50 [v] = some (d, p)) :
    ∃ G, Texts W v G ∧ (d = .nil ∧ G = [] ∨ ∃ sp, d = .slice (G.map fun t => .lit (.string t)) sp) := by
  rcases open_slice1 Try.underlying50 (by kernel_rfl) hf with ⟨hc, hx⟩ | ⟨a, len, cap, m, n, V, D, Pl, hc, _, hlc, hcm, hm, hx, hi⟩
  · obtain rfl : v = .slice none 0 0 := by simpa using hc
    injection hx with hd _
    exact ⟨[], ⟨none, 0, rfl, Nat.zero_le _, fun h => absurd h (by simp)⟩, .inl ⟨hd, rfl⟩⟩
  · obtain rfl : v = .slice (some a) len cap := by simpa using hc
    injection hx with hd hp
    have hlm : len ≤ m := by rw [hm, if_pos rfl]; exact hlc
    unfold maxLen at hcm
    have hS : ∀ i, i < len → ∃ s : List UInt8, V i = .string (ofL s) ∧ D i = .lit (.string s) := fun i hil => by
      obtain ⟨_, t0⟩ := hi i (by omega)
      obtain ⟨s, hs, hs2, _⟩ := DataW.trod_string Try.underlying9 t0
      exact ⟨toL s, by rw [ofL_toL]; simpa using hs, by simpa using congrArg Prod.fst hs2⟩
    let f : Nat → List UInt8 := fun i => if h : i < len then (hS i h).choose else []
    have hfs : ∀ i (h : i < len), V i = .string (ofL (f i)) ∧ D i = .lit (.string (f i)) := fun i h => by
      have := (hS i h).choose_spec
      simp only [f, dif_pos h]
      exact this
    refine ⟨(List.range len).map f, ⟨some a, cap, by simp, by simp; omega, fun h0 => ?_⟩, .inr ⟨(List.range (m - len)).map fun j => D (len + j), ?_⟩⟩
    · rw [List.length_map, List.length_range] at h0
      obtain ⟨c0, _⟩ := hi 0 (by omega)
      have ha := plain_cell c0
      have hae : a = ⟨a.block, a.off, none⟩ := by
        obtain ⟨b, o, e⟩ := a
        cases e with
        | none => rfl
        | some e => simp [Addr.add] at ha
      have hblk := World.block_lt_of_cell? _ _ c0
      obtain ⟨b, o, e⟩ := a
      injection hae with _ _ e3
      subst e3
      refine ⟨b, o, rfl, by simpa [Addr.add] using hblk, fun j hj => ?_⟩
      rw [List.length_map, List.length_range] at hj
      obtain ⟨c1, _⟩ := hi j (by omega)
      rw [(hfs j hj).1] at c1
      simp only [List.getElem_map, List.getElem_range]
      rw [BulkOf.add_plain] at c1
      exact c1
    · rw [hd]
      congr 1
      rw [List.map_map]
      exact List.map_congr_left (fun i hi => (hfs i (List.mem_range.1 hi)).2)
theorem texts_upto {H : Type} {enc : TypeId × Value → H} {W : World} {base : Nat} {v : Value} {d : DataW H} {p : List MemPlace} (hv : Value.okWide Try.prog W .any base 50 v)
    (h : DataW.Trod enc Try.prog W 0 (fun _ => true) true 50 v d p) (hb : Rows.uptoBulk d ≤ 1048576) :
    ∃ G, Texts W v G ∧ (∀ t ∈ G, t.length ≤ 1048576) ∧ G.length ≤ 1048576 := by
  obtain ⟨a0, len, cap, rfl⟩ := okWide_slice Try.underlying50 hv
  obtain ⟨fuel, hf⟩ := h
  obtain ⟨G, hT, hd⟩ := texts_core (v := .slice a0 len cap) (by simpa [Value.cells] using hf)
  refine ⟨G, hT, ?_⟩
  rcases hd with ⟨_, rfl⟩ | ⟨sp, rfl⟩
  · exact ⟨fun t ht => (by cases ht), Nat.zero_le _⟩
  · rw [Rows.uptoBulk] at hb
    have hl := bulkAll_len (G.map fun t => (DataW.lit (.string t) : DataW H))
    rw [List.length_map] at hl
    refine ⟨fun t ht => ?_, by omega⟩
    have := bulkAll_mem (G.map fun t => (DataW.lit (.string t) : DataW H)) (.lit (.string t)) (List.mem_map.2 ⟨t, ht, rfl⟩)
    simp only [Rows.uptoBulk] at this
    omega
theorem texts_reach {H : Type} {enc : TypeId × Value → H} {W : World} {base : Nat} {v : Value} {d : DataW H} {p : List MemPlace} (hv : Value.okWide Try.prog W .any base 50 v)
    (h : DataW.Trod enc Try.prog W 0 (fun _ => true) true 50 v d p) (hb : (d.weights Try.prog 50).all (· ≤ reachBytes) = true) :
    ∃ G, Texts W v G ∧ (∀ t ∈ G, t.length ≤ 140737488351232) ∧ G.length ≤ 8796093022208 := by
  obtain ⟨a0, len, cap, rfl⟩ := okWide_slice Try.underlying50 hv
  obtain ⟨fuel, hf⟩ := h
  obtain ⟨G, hT, hd⟩ := texts_core (v := .slice a0 len cap) (by simpa [Value.cells] using hf)
  refine ⟨G, hT, ?_⟩
  rcases hd with ⟨_, rfl⟩ | ⟨sp, rfl⟩
  · exact ⟨fun t ht => (by cases ht), Nat.zero_le _⟩
  · simp only [DataW.weights, Try.underlying50, List.all_cons, Bool.and_eq_true, List.all_append] at hb
    refine ⟨fun t ht => ?_, ?_⟩
    · have := weightsAll_mem _ _ hb.2.1 (.lit (.string t)) (List.mem_map.2 ⟨t, ht, rfl⟩)
      simp only [DataW.weights, List.all_cons, List.all_nil, Bool.and_true] at this
      have h1 := of_decide_eq_true this
      unfold reachBytes at h1
      exact h1
    · have h1 := of_decide_eq_true hb.1
      rw [show Try.prog.bytesOf 9 = 16 by kernel_rfl, List.length_map] at h1
      unfold reachBytes at h1
      omega
end Go.Proofs.Ytfdpoibmlggfbaa.SArg

/- An argument that is a list of filters, of bulk at most 1048576. -/
namespace Go.Proofs.Ytfdpoibmlggfbaa.FiltArg
open Go.ChangeShapes Go.WideShapes Go.ChangeAt Go.RowKit Go.Deep LexPure Bytes Ret Rows1 Texts ConfPure ConfMem RowsArg
set_option maxRecDepth 100000
theorem wf_in {n : Int} (h : (Lit.int .i64 n).wf = true) : -9223372036854775808 ≤ n ∧ n ≤ 9223372036854775807 := by
  simpa [Lit.wf, IntKind.min, IntKind.max, IntKind.bits, IntKind.signed] using h
theorem gather {T : Type} {n : Nat} {R : Nat → T → Prop} (z : T) (h : ∀ i, i < n → ∃ x, R i x) : ∃ G : List T, G.length = n ∧ ∀ i, i < n → R i (G.getD i z) := by
  let f : Nat → T := fun i => if h2 : i < n then (h i h2).choose else z
  refine ⟨(List.range n).map f, by simp, fun i hi => ?_⟩
  have e : ((List.range n).map f).getD i z = f i := by simp [List.getD, hi]
  rw [e]
  have := (h i hi).choose_spec
  simp only [f, dif_pos hi]
  exact this
theorem mem_getD {T : Type} {G : List T} {z x : T} (h : x ∈ G) : ∃ i, i < G.length ∧ G.getD i z = x := by
  obtain ⟨i, hi, rfl⟩ := List.getElem_of_mem h
  exact ⟨i, hi, by simp [List.getD, List.getElem?_eq_getElem hi]⟩
section
variable {H : Type} {enc : TypeId × Value → H} {W : World}
theorem str_size {s : ByteArray} {y : DataW H × List MemPlace} {p : List MemPlace} (hx : y = (.lit (.string s.data.toList), p)) {n : Nat} (h : Rows.uptoBulk y.1 ≤ n) : s.size ≤ n := by
  subst hx
  simp only [Rows.uptoBulk, Array.length_toList] at h
  have e : s.data.size = s.size := rfl
  omega
theorem agg_bulk {H : Type} {k : Nat} {Y : Nat → DataW H × List MemPlace} {n : Nat} (h : Rows.uptoBulk (.agg ((List.range k).map fun j => (Y j).1)) ≤ n) : ∀ j, j < k → Rows.uptoBulk (Y j).1 ≤ n := fun j hj => by
  rw [Rows.uptoBulk] at h
  have := BulkOf.bulkAll_mem ((List.range k).map fun j => (Y j).1) (Y j).1 (List.mem_map.2 ⟨j, List.mem_range.2 hj, rfl⟩)
  omega
theorem slice_bulk {n k : Nat} {Y : Nat → Nat → DataW H × List MemPlace} {sp : List (DataW H)} {b : Nat} (h : Rows.uptoBulk (.slice ((List.range n).map fun i => .agg ((List.range k).map fun j => (Y i j).1)) sp) ≤ b) :
    n ≤ b ∧ ∀ i, i < n → Rows.uptoBulk (.agg ((List.range k).map fun j => (Y i j).1)) ≤ b := by
  rw [Rows.uptoBulk] at h
  refine ⟨?_, fun i hi => ?_⟩
  · have := BulkOf.bulkAll_len ((List.range n).map fun i => (.agg ((List.range k).map fun j => (Y i j).1) : DataW H))
    rw [List.length_map, List.length_range] at this
    omega
  · have := BulkOf.bulkAll_mem ((List.range n).map fun i => (.agg ((List.range k).map fun j => (Y i j).1) : DataW H)) (.agg ((List.range k).map fun j => (Y i j).1)) (List.mem_map.2 ⟨i, List.mem_range.2 hi, rfl⟩)
    omega

theorem filt_elem {N : Nat} {V : Nat → Value} {Y : Nat → DataW H × List MemPlace} (hrd : ∀ (j : Nat) (f : Field), (Try.prog.fieldsOf 29)[j]? = some f → DataW.trod enc Try.prog W 0 (fun _ => true) true N f.type [V j] = some (Y j))
    (hb : Rows.uptoBulk (.agg ((List.range 6).map fun j => (Y j).1)) ≤ 1048576) : ∃ x : Filt, (∀ j, j < 6 → V j = (filtV x).getD j undef) ∧ FitFilt x ∧ x.name.length + 5 ≤ Rows.uptoBulk (.agg ((List.range 6).map fun j => (Y j).1)) := by
  have hl : (Try.prog.fieldsOf 29).size = 6 := by kernel_rfl
  have hq : ∀ i, i < 6 → (Try.prog.fieldsOf 29)[i]? = some (Try.prog.fieldsOf 29)[i]! := fun i hi => by
    rw [getElem!_pos _ i (by rw [hl]; exact hi)]
    exact Array.getElem?_eq_getElem _
  have hbj := agg_bulk hb
  have k0 := hrd 0 _ (hq 0 (by decide))
  obtain ⟨n0, e0, x0, w0⟩ := DataW.trod_int (show Try.prog.underlying (Try.prog.fieldsOf 29)[0]!.type = some (.int .i64) by kernel_rfl) k0
  have k1 := hrd 1 _ (hq 1 (by decide))
  obtain ⟨s1, e1, x1, _⟩ := DataW.trod_string (show Try.prog.underlying (Try.prog.fieldsOf 29)[1]!.type = some .string by kernel_rfl) k1
  have k2 := hrd 2 _ (hq 2 (by decide))
  obtain ⟨s2, e2, x2, _⟩ := DataW.trod_string (show Try.prog.underlying (Try.prog.fieldsOf 29)[2]!.type = some .string by kernel_rfl) k2
  have k3 := hrd 3 _ (hq 3 (by decide))
  obtain ⟨n3, e3, x3, w3⟩ := DataW.trod_int (show Try.prog.underlying (Try.prog.fieldsOf 29)[3]!.type = some (.int .i64) by kernel_rfl) k3
  have k4 := hrd 4 _ (hq 4 (by decide))
  obtain ⟨n4, e4, x4, w4⟩ := DataW.trod_int (show Try.prog.underlying (Try.prog.fieldsOf 29)[4]!.type = some (.int .i64) by kernel_rfl) k4
  have k5 := hrd 5 _ (hq 5 (by decide))
  obtain ⟨n5, e5, x5, w5⟩ := DataW.trod_int (show Try.prog.underlying (Try.prog.fieldsOf 29)[5]!.type = some (.int .i64) by kernel_rfl) k5
  refine ⟨⟨n0, toL s1, toL s2, n3, n4, n5⟩, fun j hj => ?_, ⟨wf_in w0, by rw [toL_length]; exact str_size x1 (hbj 1 (by decide)), by rw [toL_length]; exact str_size x2 (hbj 2 (by decide)), wf_in w3, wf_in w4, wf_in w5⟩, ?_⟩
  rotate_left
  · have g1 : s1.size ≤ Rows.uptoBulk (Y 1).1 := str_size x1 (Nat.le_refl _)
    have b0 := BulkOf.bulk_pos (Y 0).1
    have b2 := BulkOf.bulk_pos (Y 2).1
    have b3 := BulkOf.bulk_pos (Y 3).1
    have b4 := BulkOf.bulk_pos (Y 4).1
    have b5 := BulkOf.bulk_pos (Y 5).1
    have e : (List.range 6).map (fun j => (Y j).1) = [(Y 0).1, (Y 1).1, (Y 2).1, (Y 3).1, (Y 4).1, (Y 5).1] := rfl
    rw [e, Rows.uptoBulk]
    simp only [Rows.uptoBulkAll]
    show (toL s1).length + 5 ≤ _
    rw [toL_length]
    omega
  have hj2 : j = 0 ∨ j = 1 ∨ j = 2 ∨ j = 3 ∨ j = 4 ∨ j = 5 := by omega
  rcases hj2 with rfl | rfl | rfl | rfl | rfl | rfl
  · simpa [filtV] using e0
  · show V 1 = .string (ofL (toL s1))
    rw [ofL_toL]; simpa using e1
  · show V 2 = .string (ofL (toL s2))
    rw [ofL_toL]; simpa using e2
  · simpa [filtV] using e3
  · simpa [filtV] using e4
  · simpa [filtV] using e5
theorem sum_bulk {A : Type} (F : A → DataW H) (f : A → Nat) : ∀ l : List A, (∀ i ∈ l, f i ≤ Rows.uptoBulk (F i)) → (l.map f).sum ≤ Rows.uptoBulkAll (l.map F)
  | [], _ => Nat.zero_le _
  | a :: l, h => by
    have h1 := sum_bulk F f l (fun i hi => h i (List.mem_cons_of_mem _ hi))
    have h2 := h a List.mem_cons_self
    rw [List.map_cons, List.map_cons, List.sum_cons, Rows.uptoBulkAll]
    omega
theorem map_getD {A : Type} (G : List A) (z : A) (g : A → Nat) : G.map g = (List.range G.length).map fun i => g (G.getD i z) := by
  apply List.ext_getElem
  · simp
  · intro i h1 h2
    simp at h1
    simp [List.getD, List.getElem?_eq_getElem h1]
/-- what the names of a list take up -/
def nameSum (G : List Filt) : Nat := (G.map fun x => x.name.length + 5).sum
theorem filts_core {v : Value} {d : DataW H} {p : List MemPlace} {fuel : Nat} (hf : DataW.trod enc Try.prog W 0 (fun _ => true) true fuel 22 [v] = some (d, p)) (hb : Rows.uptoBulk d ≤ 1048576) :
    ∃ G, Filts W v G ∧ G.length ≤ 1048576 ∧ (∀ x ∈ G, FitFilt x) ∧ nameSum G ≤ 1048576 ∧ RowsArg.Nice v G.length := by
  have he : Try.prog.underlying 29 = some (.struct (Try.prog.fieldsOf 29)) := by kernel_rfl
  obtain ⟨n, V, Y, N, hR, hni, hrd, hd⟩ := rows_core (k := 6) Try.underlying22 he (by kernel_rfl) (by kernel_rfl) (by kernel_rfl) (by decide) hf
  have hB : n ≤ 1048576 ∧ ∀ i, i < n → Rows.uptoBulk (.agg ((List.range 6).map fun j => (Y i j).1)) ≤ 1048576 := by
    rcases hd with ⟨_, rfl⟩ | ⟨sp, rfl⟩
    · exact ⟨Nat.zero_le _, fun i hi => absurd hi (by omega)⟩
    · exact slice_bulk hb
  obtain ⟨G, rfl, hG⟩ := gather zFilt (fun i hi => filt_elem (hrd i hi) (hB.2 i hi))
  refine ⟨G, hR.congr (fun i hi j hj => (hG i hi).1 j hj), hB.1, fun x hx => ?_, ?_, hni⟩
  · obtain ⟨i, hi, rfl⟩ := mem_getD (z := zFilt) hx
    exact (hG i hi).2.1
  · rcases hd with ⟨rfl, h0⟩ | ⟨sp, rfl⟩
    · have e : G = [] := List.eq_nil_of_length_eq_zero h0
      rw [e]
      exact Nat.zero_le _
    · rw [Rows.uptoBulk] at hb
      unfold nameSum
      rw [map_getD G zFilt]
      have := sum_bulk (fun i => (.agg ((List.range 6).map fun j => (Y i j).1) : DataW H)) (fun i => (G.getD i zFilt).name.length + 5) (List.range G.length) (fun i hi => (hG i (List.mem_range.1 hi)).2.2)
      omega
theorem filts_arg {base : Nat} {v : Value} {d : DataW H} {p : List MemPlace} (hv : Value.okWide Try.prog W .any base 22 v) (h : DataW.Trod enc Try.prog W 0 (fun _ => true) true 22 v d p) (hb : Rows.uptoBulk d ≤ 1048576) :
    ∃ G, Filts W v G ∧ G.length ≤ 1048576 ∧ (∀ x ∈ G, FitFilt x) ∧ nameSum G ≤ 1048576 ∧ RowsArg.Nice v G.length := by
  obtain ⟨a0, len, cap, rfl⟩ := okWide_slice Try.underlying22 hv
  obtain ⟨fuel, hf⟩ := h
  exact filts_core (by simpa [Value.cells] using hf) hb
end
end Go.Proofs.Ytfdpoibmlggfbaa.FiltArg

/- Layer 16: the way back stays short; how long the names that a law gathers get. No program is named. -/
namespace Go.Proofs.Ytfdpoibmlggfbaa.FiltBack
open Bytes LexPure PathPure ConfPure ConfBack FieldsPure FilterPure FilterMore FiltKeep FiltArg
set_option maxRecDepth 20000
set_option linter.unusedVariables false
theorem back_keep {f : Filt} (hf : filtB f = true) {G : List HField} (h : FewM G) : FewM (back16 f G) ∧ (back16 f G).length ≤ G.length + 1 := by
  obtain ⟨h1, h2⟩ := right_len hf
  unfold back16
  split
  · exact ⟨few_set h h1 h2, len_set _ _ _⟩
  split
  · exact ⟨few_set h (show ACAO.length ≤ 1048576 by decide) h2, len_set _ _ _⟩
  · exact ⟨h, by omega⟩
theorem resp_keep : ∀ (fs : List Filt) (G : List HField), (∀ f ∈ fs, filtB f = true) → FewM G → FewM (resp16 fs G) ∧ (resp16 fs G).length ≤ G.length + fs.length
  | [], G, _, h => ⟨h, Nat.le_add_right _ _⟩
  | f :: fs, G, hr, h => by
    obtain ⟨a1, a2⟩ := resp_keep fs G (fun g hg => hr g (List.mem_cons_of_mem _ hg)) h
    obtain ⟨b1, b2⟩ := back_keep (hr f List.mem_cons_self) a1
    exact ⟨b1, by have e : (f :: fs).length = fs.length + 1 := rfl; show (back16 f (resp16 fs G)).length ≤ _; omega⟩
theorem name_le {f : Filt} (hf : filtB f = true) (h : f.kind = 8) : f.name.length ≤ 32 := by
  unfold filtB at hf
  rw [if_pos (.inr h)] at hf
  simp only [Bool.and_eq_true, nameB, tokenB, decide_eq_true_eq] at hf
  exact hf.1.2.2.2
/-- how long the names are that a law gathered -/
structure Jn (fs : List Filt) (k : Nat) (s : List L) : Prop where
  ex : ∃ a b : Nat, b ≤ 1 ∧ (b = 1 → s.any (fun x => alike x ACAO) = true) ∧ (joinedL s).length + 4 * a ≤ nameSum (fs.take k) + 23 * b ∧ (joinedL s).length ≤ 33 * a + 28 * b ∧ s.length ≤ k
theorem Jn.zero (fs : List Filt) : Jn fs 0 [] := ⟨⟨0, 0, Nat.zero_le _, fun h => absurd h (by decide), Nat.zero_le _, Nat.zero_le _, Nat.le_refl _⟩⟩
theorem sum_more (fs : List Filt) (k : Nat) (hk : k < fs.length) : nameSum (fs.take (k + 1)) = nameSum (fs.take k) + (fs[k].name.length + 5) := by
  unfold nameSum
  rw [List.take_succ_eq_append_getElem hk, List.map_append, List.sum_append]
  simp
theorem sum_le (fs : List Filt) (k : Nat) : nameSum (fs.take k) ≤ nameSum fs := by
  conv => rhs; rw [← List.take_append_drop k fs]
  unfold nameSum
  rw [List.map_append, List.sum_append]
  exact Nat.le_add_right _ _
theorem Jn.skip {fs : List Filt} {k : Nat} {s : List L} (h : Jn fs k s) (hk : k < fs.length) : Jn fs (k + 1) s := by
  obtain ⟨a, b, h1, h2, h3, h4, h5⟩ := h.ex
  have := sum_more fs k hk
  exact ⟨a, b, h1, h2, by omega, h4, by omega⟩
theorem join_len (s : List L) (x : L) : (joinedL (s ++ [x])).length = (joinedL s).length + 1 + x.length := by rw [joined_snoc]; simp; omega
theorem Jn.eight {fs : List Filt} {k : Nat} {s : List L} (h : Jn fs k s) (hk : k < fs.length) (hf : filtB fs[k] = true) (h8 : fs[k].kind = 8) : Jn fs (k + 1) (s ++ [fs[k].name]) := by
  obtain ⟨a, b, h1, h2, h3, h4, h5⟩ := h.ex
  have e1 := sum_more fs k hk
  have e2 := name_le hf h8
  have e3 := join_len s fs[k].name
  exact ⟨a + 1, b, h1, fun q => by rw [List.any_append, h2 q]; rfl, by omega, by omega, by simp; omega⟩
theorem Jn.five {fs : List Filt} {k : Nat} {s : List L} (h : Jn fs k s) (hk : k < fs.length) (ha : s.any (fun x => alike x ACAO) = false) : Jn fs (k + 1) (s ++ [ACAO]) := by
  obtain ⟨a, b, h1, h2, h3, h4, h5⟩ := h.ex
  have hb : b = 0 := by
    have : b ≠ 1 := fun q => by rw [h2 q] at ha; cases ha
    omega
  have e1 := sum_more fs k hk
  have e3 := join_len s ACAO
  have e4 : ACAO.length = 27 := by decide
  exact ⟨a, 1, by decide, fun _ => by rw [List.any_append, List.any_cons, alike_self]; simp, by omega, by omega, by simp; omega⟩
theorem Jn.le {fs : List Filt} {k : Nat} {s : List L} (h : Jn fs k s) (hs : nameSum fs ≤ 1048576) : (joinedL s).length ≤ 1048576 ∧ s.length ≤ k := by
  obtain ⟨a, b, h1, h2, h3, h4, h5⟩ := h.ex
  have := sum_le fs k
  exact ⟨by omega, h5⟩
end Go.Proofs.Ytfdpoibmlggfbaa.FiltBack

/- The document's layer 16: Response. -/
namespace Go.Proofs.Ytfdpoibmlggfbaa.R16Resp
open Go.ChangeShapes Go.WideShapes Go.ChangeAt Go.RowKit Bytes LexPure ConfPure ConfMem FieldsPure Flds FilterPure FiltState FiltKeep FiltBack FiltObj L16Right RowKeep Ret Mem Step
set_option maxRecDepth 100000
set_option linter.unusedVariables false
set_option linter.unusedSimpArgs false
theorem resp_step (fs : List Filt) (k : Nat) (hk : k < fs.length) (G : List HField) : resp16 (fs.drop k) G = back16 fs[k] (resp16 (fs.drop (k + 1)) G) := by
  rw [List.drop_eq_getElem_cons hk]
  rfl
theorem own_from {w : World} {b b' n size : Nat} {e : TypeId} {v : Value} {xs : List Value} (h : w.ownsRow b e size v n xs) (hb : b' ≤ b) : w.ownsRow b' e size v n xs := by
  refine ⟨h.1, ?_⟩
  rcases h.2 with h0 | ⟨g, cap, cur, hv, h1, rest⟩
  · exact .inl h0
  · exact .inr ⟨g, cap, cur, hv, Nat.le_trans hb h1, rest⟩
set_option maxHeartbeats 3200000 in
theorem rresp_any (g : Nat) (fs : List Filt) (hr : ∀ f ∈ fs, filtB f = true) (vf : Value) (vl : Value) (G : List HField) (hG : FewM G) (hl : G.length + fs.length ≤ 16777216) (hy : FRow.Nice vl G.length) (w : World) (hc : w.cell? ⟨g, 0, none⟩ = some vf) (hFi : Filts w vf fs) (hF : FL w vl G) :
    Calls Try.prog 15 #[.pointer (some ⟨g, 0, none⟩), vl] w fun e w' => ∃ l, e = .returned l ∧ Lst w' w.heap.size l (resp16 fs G) ∧ Below w.heap.size w w' := by
  obtain ⟨pf, cf, rfl, -, -⟩ := hFi.parts
  obtain ⟨pl, cl, rfl, -, -⟩ := id hF
  have HFi := Lib.hid hFi
  have HN := Lib.hid hy
  have HR := Lib.hid hr
  have HG := Lib.hid hG
  have hg := World.block_lt_of_cell? _ _ hc
  have HC := Lib.hid (And.intro hc hg)
  have hF1 := hF.below ((Below.refl w.heap.size w).alloc (Nat.le_refl _) (.cells #[] 54))
  have hsz : w.heap.size ≤ (w.alloc (.cells #[] 54)).heap.size := by simp
  clear hFi hF hy hr hG hc hg
  go_enter Try.func15, Try.ntmps15
  go_wp2_with (at_builtin; refine FRow.wpList_append_list rfl _ _ rfl w.heap.size _ 0 [] rfl (FRow.owns_none w _ _ (Nat.le_refl _)) _ G rfl hF1 HN.out (by omega) hsz ?_; intro v6 w6 hown6 hg6; obtain ⟨hrow, hb6⟩ := FRow.copied hown6 hg6; obtain ⟨p6, c6, rfl, -⟩ := row_form hrow; have c0 : w6.cell? ⟨g, 0, none⟩ = some (.slice pf fs.length cf) := (hb6.cell (p := ⟨g, 0, none⟩) HC.out.2).trans HC.out.1)
  have HK0 : Hid (Lst w6 w.heap.size (.slice p6 G.length c6) (resp16 (fs.drop fs.length) G) ∧ Below w.heap.size w w6) := Lib.hid (by rw [List.drop_length]; exact ⟨hrow, hb6⟩)
  have HL0 : Hid ((resp16 (fs.drop fs.length) G).length = G.length) := Lib.hid (by rw [List.drop_length]; rfl)
  clear hrow hb6 hown6 hg6 hF1 hsz c0
  go_loopw [1, 5] (fun lv i wr => ∃ k : Nat, k ≤ fs.length ∧ i = .int .i64 ((k : Int) - 1) ∧ (∃ p n c, lv = .slice p n c) ∧ Hid (Lst wr w.heap.size lv (resp16 (fs.drop k) G) ∧ Below w.heap.size w wr)) (fun _ i _ => (intOf i + 1).toNat)
  case atStart => exact ⟨fs.length, Nat.le_refl _, rfl, ⟨_, _, _, rfl⟩, HK0⟩
  case round =>
    obtain ⟨k, hk, rfl, ⟨pq, nq, cq, rfl⟩, HK⟩ := hrel
    clear HK0
    cases k with
    | zero =>
      have HE : Hid (Lst wr w.heap.size (.slice pq nq cq) (resp16 fs G)) := Lib.hid HK.out.1
      go_wp2_with fail
      go_ret
      exact ⟨_, rfl, HE.out, HK.out.2⟩
    | succ k =>
      have hlt : k < fs.length := by omega
      have e1 : ((k + 1 : Nat) : Int) - 1 = (k : Int) := by omega
      rw [e1]
      have hk0 : (0 : Int) ≤ (k : Int) := by omega
      have hki : (k : Int) < (fs.length : Int) := by omega
      have c0 : wr.cell? ⟨g, 0, none⟩ = some (.slice pf fs.length cf) := (HK.out.2.cell (p := ⟨g, 0, none⟩) HC.out.2).trans HC.out.1
      obtain ⟨x, hx⟩ : ∃ x, Hid (x = fs[k]) := ⟨_, Lib.hid rfl⟩
      obtain ⟨gf, ff, rfl, m0, m1, m2, m3, m4, m5⟩ := filt_at (HFi.out.below HK.out.2) k hlt x hx.out
      obtain ⟨k1, k2⟩ := resp_keep (fs.drop (k + 1)) G (fun f hf => HR.out f (List.mem_of_mem_drop hf)) HG.out
      rw [List.length_drop] at k2
      have hfx : filtB x = true := by rw [hx.out]; exact HR.out _ (List.getElem_mem hlt)
      rcases (show (x.kind ≠ 8 ∧ x.kind ≠ 5) ∨ x.kind = 8 ∨ x.kind = 5 from by omega) with ⟨z8, z5⟩ | z8 | z5
      · have ha := (Below.refl wr.heap.size wr).alloc (Nat.le_refl _) (.cells #[.int .i64 x.kind, .string (ofL x.name), .string (ofL x.value), .int .i64 x.n, .int .i64 x.m, .int .i64 x.k] 29)
        have HK8 := Lib.hid (And.intro (row_below HK.out.1 ha) (below_chain HK.out.2 ha))
        have HQ : Hid (resp16 (fs.drop (k + 1)) G = resp16 (fs.drop k) G) := Lib.hid (by rw [resp_step fs k hlt, ← hx.out]; unfold back16; rw [if_neg z8, if_neg z5])
        rw [HQ.out] at HK8
        clear ha HK
        go_wp2_with fail
        go_roundw
        case rel => exact ⟨k, by omega, rfl, ⟨_, _, _, rfl⟩, HK8⟩
        case measure => simp [intOf]
      · have ha := (Below.refl wr.heap.size wr).alloc (Nat.le_refl _) (.cells #[.int .i64 8, .string (ofL x.name), .string (ofL x.value), .int .i64 x.n, .int .i64 x.m, .int .i64 x.k] 29)
        have hrow := row_below HK.out.1 ha
        have HB := Lib.hid (below_chain HK.out.2 ha)
        have HS := Lib.hid (R7SetBig.rset_any _ (resp16 (fs.drop (k + 1)) G) (ofL x.name) (ofL x.value) (by rw [ofL_size]; exact (right_len hfx).1) (fun j hj => k1 _ (List.getElem_mem hj)) (by omega) _ (fl_of hrow (by omega)))
        have HQ : Hid (setF (resp16 (fs.drop (k + 1)) G) (toL (ofL x.name)) (toL (ofL x.value)) = resp16 (fs.drop k) G) := Lib.hid (by rw [resp_step fs k hlt, ← hx.out, toL_ofL, toL_ofL]; unfold back16; rw [if_pos z8])
        rw [HQ.out] at HS
        rw [z8] at m0
        clear ha hrow HK
        go_wp2_with fail
        refine HS.out.mono ?_
        rintro e w8 ⟨v8, rfl, hrow8, hb8⟩
        have HK8 : Hid (Lst w8 w.heap.size v8 (resp16 (fs.drop k) G) ∧ Below w.heap.size w w8) := Lib.hid ⟨own_from hrow8 HB.out.size, below_chain HB.out hb8⟩
        have hX8 := ((Has.new wr 29 #[.int .i64 8, .string (ofL x.name), .string (ofL x.value), .int .i64 x.n, .int .i64 x.m, .int .i64 x.k]).below hb8 (by simp))
        have q0 : w8.cell? ⟨wr.heap.size, 0, none⟩ = some (.int .i64 8) := hX8.cell 0
        obtain ⟨p8, c8, rfl, -⟩ := row_form hrow8
        clear hrow8 hb8 hX8
        go_wp2_with fail
        go_roundw
        case rel => exact ⟨k, by omega, rfl, ⟨_, _, _, rfl⟩, HK8⟩
        case measure => simp [intOf]
      · have ha := (Below.refl wr.heap.size wr).alloc (Nat.le_refl _) (.cells #[.int .i64 5, .string (ofL x.name), .string (ofL x.value), .int .i64 x.n, .int .i64 x.m, .int .i64 x.k] 29)
        have hrow := row_below HK.out.1 ha
        have HB := Lib.hid (below_chain HK.out.2 ha)
        have HS := Lib.hid (R7SetBig.rset_any _ (resp16 (fs.drop (k + 1)) G) ⟨#[65, 99, 99, 101, 115, 115, 45, 67, 111, 110, 116, 114, 111, 108, 45, 65, 108, 108, 111, 119, 45, 79, 114, 105, 103, 105, 110]⟩ (ofL x.value) (by decide) (fun j hj => k1 _ (List.getElem_mem hj)) (by omega) _ (fl_of hrow (by omega)))
        have HQ : Hid (setF (resp16 (fs.drop (k + 1)) G) (toL ⟨#[65, 99, 99, 101, 115, 115, 45, 67, 111, 110, 116, 114, 111, 108, 45, 65, 108, 108, 111, 119, 45, 79, 114, 105, 103, 105, 110]⟩) (toL (ofL x.value)) = resp16 (fs.drop k) G) := Lib.hid (by rw [resp_step fs k hlt, ← hx.out, show toL ⟨#[65, 99, 99, 101, 115, 115, 45, 67, 111, 110, 116, 114, 111, 108, 45, 65, 108, 108, 111, 119, 45, 79, 114, 105, 103, 105, 110]⟩ = ACAO from rfl, toL_ofL]; unfold back16; rw [if_neg (by omega), if_pos z5])
        rw [HQ.out] at HS
        rw [z5] at m0
        clear ha hrow HK
        go_wp2_with fail
        refine HS.out.mono ?_
        rintro e w8 ⟨v8, rfl, hrow8, hb8⟩
        have HK8 : Hid (Lst w8 w.heap.size v8 (resp16 (fs.drop k) G) ∧ Below w.heap.size w w8) := Lib.hid ⟨own_from hrow8 HB.out.size, below_chain HB.out hb8⟩
        have hX8 := ((Has.new wr 29 #[.int .i64 5, .string (ofL x.name), .string (ofL x.value), .int .i64 x.n, .int .i64 x.m, .int .i64 x.k]).below hb8 (by simp))
        have q0 : w8.cell? ⟨wr.heap.size, 0, none⟩ = some (.int .i64 5) := hX8.cell 0
        obtain ⟨p8, c8, rfl, -⟩ := row_form hrow8
        clear hrow8 hb8 hX8
        go_wp2_with fail
        go_roundw
        case rel => exact ⟨k, by omega, rfl, ⟨_, _, _, rfl⟩, HK8⟩
        case measure => simp [intOf]
end Go.Proofs.Ytfdpoibmlggfbaa.R16Resp
