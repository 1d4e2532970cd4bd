/- Texts of this seat, one behind another: FiltFirst, FilterFirstW. -/
import Derived.Handy
import Derived.Deep.DeepCutAuto
import Derived.BigQuiet
import Derived.Deep.QuietTactic
import Derived.Test.YtfdpoibmlggfbaaG
import Derived.Test.YtfdpoibmlggfbaaFV
import Derived.Test.YtfdpoibmlggfbaaB
import Derived.Test.YtfdpoibmlggfbaaR2
/- Layer 16: what FilterFirst asks: a chain of two halves. No program is named. -/
namespace Go.Proofs.Ytfdpoibmlggfbaa.FiltFirst
open Bytes LexPure PathPure ConfPure ConfBack FieldsPure BucketPure FilterPure FiltState L16Copy
set_option maxRecDepth 20000
set_option linter.unusedVariables false
section
variable {dv dn : Int → Int}
theorem halves (fs gs : List Filt) (h7 : ∀ f ∈ fs ++ gs, f.kind ≠ 7) (d now : Int) (h0 : 0 ≤ now) (h1 : now ≤ 1099511627776) (m : L) (size : Int) (G : List HField) :
    (req16 dv dn (start16 (fs ++ gs) d) now m size G).1 = if (req16 dv dn (start16 fs d) now m size G).1.stop then (req16 dv dn (start16 fs d) now m size G).1 else (req16 dv dn (start16 gs d) now m size (req16 dv dn (start16 fs d) now m size G).1.pass).1 := by
  rw [FiltGuard.fresh (fs ++ gs) d now h0 h1, FiltGuard.fresh fs d now h0 h1, FiltGuard.fresh gs d now h0 h1]
  dsimp only
  rw [List.map_append, run_append fs gs (fs.map bk16) (gs.map bk16) d G (by simp)]
  split
  · rfl
  · exact run_dice gs _ _ d _ (fun f hf => h7 f (List.mem_append_right _ hf))
end
theorem encFi_append (a b : List Filt) : encFi (a ++ b) = encFi a ++ encFi b := by unfold encFi; rw [List.flatMap_append]
end Go.Proofs.Ytfdpoibmlggfbaa.FiltFirst

/- What stands behind the filter that replies changes nothing of the reply, and a request that is let through goes through both halves of a chain: FilterFirst returns true, for what comes in of bulk at most 1048576. -/
namespace Go.Proofs.Ytfdpoibmlggfbaa.FilterFirstW
open Go.ChangeShapes Go.WideShapes Go.ChangeAt Go.RowKit Bytes LexPure ConfPure ConfMem FieldsPure Flds FilterPure FiltState FiltKeep FiltObj L16Anchor L16Right L16Copy RowsArg RouStep RowKeep Texts Ret Mem Step FiltFirst
set_option maxRecDepth 100000
set_option linter.unusedVariables false
set_option linter.unusedSimpArgs false
theorem few_m {G : List HField} (h : Few G) : FewM G := fun f hf => by
  obtain ⟨j, hj, rfl⟩ := List.mem_iff_getElem.1 hf
  exact h j hj
/-- a chain that a law holds, its blocks from lo on and below hi -/
structure Hc (lo hi : Nat) (F : Nat → Prop) (g : Nat) (s : Cn) (W : World) : Prop where
  ch : Ch W F g s
  lo : ∀ k, F k → lo ≤ k
  hi : ∀ k, F k → k < hi
theorem Hc.call {lo hi : Nat} {F : Nat → Prop} {g : Nat} {s : Cn} {W W' : World} (h : Hc lo hi F g s W) (hb : Below W.heap.size W W') : Hc lo hi F g s W' := ⟨h.ch.step (Step.of_below hb (fun _ => False)) (fun _ _ h => h), h.lo, h.hi⟩
theorem Hc.other {lo hi lo2 hi2 : Nat} {F F2 F2' : Nat → Prop} {g g2 : Nat} {s s2 : Cn} {W W' : World} (h : Hc lo hi F g s W) (h2 : Hc lo2 hi2 F2 g2 s2 W) (hs : Step W W' F2 F2') (ha : hi ≤ lo2 ∨ hi2 ≤ lo) : Hc lo hi F g s W' :=
  ⟨h.ch.step hs (fun k hk hk2 => by have := h.lo k hk; have := h.hi k hk; have := h2.lo k hk2; have := h2.hi k hk2; omega), h.lo, h.hi⟩
theorem Hc.below {lo hi : Nat} {F F' : Nat → Prop} {g : Nat} {s : Cn} {w W W' : World} (h : Hc lo hi F g s W) (hb : Below w.heap.size w W) (hl : w.heap.size ≤ lo) (hs : Step W W' F F') : Below w.heap.size w W' := hb.trans (hs.below hb.size (fun k hk => Nat.le_trans hl (h.lo k hk)))
theorem lst_step {lo hi base : Nat} {F F' : Nat → Prop} {g : Nat} {s : Cn} {W W' : World} {v : Value} {X : List HField} (h : Hc lo hi F g s W) (hl : Lst W base v X) (hb : hi ≤ base) (hs : Step W W' F F') : Lst W' base v X := hs.row hl (fun b hb2 hF => by have := (hl.lt b hb2).1; have := h.hi b hF; omega)
theorem new_hc {W W' : World} {e : Ending} {s : Cn} {g : Nat} {F : Nat → Prop} (hch : Ch W' F g s) (hlo : ∀ k, F k → W.heap.size ≤ k) : Hc W.heap.size W'.heap.size F g s W' := ⟨hch, hlo, hch.lt⟩
/-- the two verdicts at last -/
structure Fin (w wx : World) (g1 g2 : Nat) (V W : Verd) (fl1 pl1 fl2 pl2 : Value) : Prop where
  a : Has wx g1 38 (vrdA V fl1 pl1)
  b : Has wx g2 38 (vrdA W fl2 pl2)
  f1 : FL wx fl1 V.fields
  p1 : FL wx pl1 V.pass
  f2 : FL wx fl2 W.fields
  p2 : FL wx pl2 W.pass
  below : Below w.heap.size w wx
theorem Fin.call {w wx wy : World} {g1 g2 : Nat} {V W : Verd} {fl1 pl1 fl2 pl2 : Value} (h : Fin w wx g1 g2 V W fl1 pl1 fl2 pl2) (hb : Below wx.heap.size wx wy) : Fin w wy g1 g2 V W fl1 pl1 fl2 pl2 :=
  ⟨h.a.below hb h.a.lt, h.b.below hb h.b.lt, h.f1.below hb, h.p1.below hb, h.f2.below hb, h.p2.below hb, below_chain h.below hb⟩
theorem Fin.drewN {w wx : World} {g1 g2 : Nat} {V W : Verd} {fl1 pl1 fl2 pl2 : Value} (h : Fin w wx g1 g2 V W fl1 pl1 fl2 pl2) (n : Nat) : Fin w (wx.drewN n) g1 g2 V W fl1 pl1 fl2 pl2 :=
  h.call ⟨rfl, rfl, rfl, Nat.le_refl _, fun _ _ => rfl⟩
theorem req_keep (fs : List Filt) (hr : ∀ f ∈ fs, filtB f = true) (d now : Int) (method : L) (size : Int) (G : List HField) (hG : FewM G) :
    FewM (req16 dv16 dn16 (start16 fs d) now method size G).1.pass ∧ (req16 dv16 dn16 (start16 fs d) now method size G).1.fields.length ≤ 2 ∧ (req16 dv16 dn16 (start16 fs d) now method size G).1.pass.length ≤ G.length + fs.length := by
  unfold req16
  split
  · exact ⟨fun f hf => (by cases hf), Nat.zero_le _, Nat.zero_le _⟩
  · have := run_keep (dv := dv16) (dn := dn16) (now := now) (method := method) (size := size) fs (fs.map bk16) d G hr hG
    exact ⟨this.2.2.1, this.2.1, this.2.2.2⟩
set_option maxHeartbeats 12800000 in
theorem walkIn (fs gs : List Filt) (vl vm : Value) (hx : ∀ x ∈ fs, FitFilt x) (hx2 : ∀ x ∈ gs, FitFilt x) (hfl : fs.length ≤ 1048576) (hgs : gs.length ≤ 1048576) (hfn : RowsArg.Nice vl fs.length) (hgn2 : RowsArg.Nice vm gs.length) (now : Int) (mt : ByteArray) (vg : Value) (size : Int) (back : Bool) (G : List HField) (w : World) (hFi : Filts w vl fs) (hFm : Filts w vm gs) (hc : CallArg.CallOk w now mt vg size G) :
    Calls Try.prog 8 #[vl, vm, .agg #[.int .i64 now, .string mt, vg, .int .i64 size, .bool back]] w fun e w' => e = .returned (.bool true) ∧ Below w.heap.size w w' := by
  obtain ⟨hnw, hmt, hsi, hF, hG, hgl, hgn⟩ := hc
  obtain ⟨i0, hi, hz0, hz1, hz2⟩ := info_parts infoFi
  have HAn := Lib.hid (fun w => anchor_any w)
  have HRi := Lib.hid (fun w h => right_any fs hx vl w h)
  have HRj := Lib.hid (fun w h => right_any gs hx2 vm w h)
  obtain ⟨pf, cf, rfl, -, -⟩ := hFi.parts
  obtain ⟨pm, cm, rfl, -, -⟩ := hFm.parts
  obtain ⟨pg, cg, rfl, -, -⟩ := id hF
  have HFi := Lib.hid (fun W (hb : Below w.heap.size w W) => hFi.below hb)
  have HFm := Lib.hid (fun W (hb : Below w.heap.size w W) => hFm.below hb)
  have HFf := Lib.hid (fun W (hb : Below w.heap.size w W) => hF.below hb)
  have HN1 := Lib.hid hfn
  have HN2 := Lib.hid hgn2
  have HG := Lib.hid (few_m hG)
  obtain ⟨b, hb⟩ : ∃ b, b = fs.all filtB := ⟨_, rfl⟩
  rw [← hb] at HRi
  have HBb := Lib.hid hb
  obtain ⟨c, hcb⟩ : ∃ b, b = gs.all filtB := ⟨_, rfl⟩
  rw [← hcb] at HRj
  have HBc := Lib.hid hcb
  have ha0 := (Below.refl w.heap.size w).alloc (Nat.le_refl _) (.cells #[.int .i64 now, .string mt, .slice pg G.length cg, .int .i64 size, .bool back] 34)
  have HB0 := Lib.hid ha0
  have HC0 := Lib.hid (Has.new w 34 #[.int .i64 now, .string mt, .slice pg G.length cg, .int .i64 size, .bool back])
  clear hFi hFm hF hx hx2 hfn hgn2 hgn hG hb hcb ha0
  go_enter Try.func8, Try.ntmps8
  go_wp2_with fail
  refine (HAn.out _).mono ?_
  rintro e w1 ⟨rfl, hb1⟩
  have HB1 := Lib.hid (below_chain HB0.out hb1)
  have HC1 := Lib.hid (HC0.out.below hb1 HC0.out.lt)
  clear hb1 HAn HB0 HC0
  go_wp2_with fail
  refine (HRi.out w1 (HFi.out w1 HB1.out)).mono ?_
  rintro e w2 ⟨rfl, hb2⟩
  have HB2 := Lib.hid (below_chain HB1.out hb2)
  have HC2 := Lib.hid (HC1.out.below hb2 HC1.out.lt)
  clear hb2 HRi HB1 HC1
  cases b
  · go_wp2_with fail
    go_ret
    exact ⟨rfl, HB2.out⟩
  go_wp2_with fail
  refine (HRj.out w2 (HFm.out w2 HB2.out)).mono ?_
  rintro e w3 ⟨rfl, hb3⟩
  have HB3 := Lib.hid (below_chain HB2.out hb3)
  have HC3 := Lib.hid (HC2.out.below hb3 HC2.out.lt)
  clear hb3 HRj HB2 HC2
  have d0 : w3.cell? ⟨w.heap.size, 0, none⟩ = some (.int .i64 now) := HC3.out.cell 0
  cases c
  · go_wp2_with fail
    go_ret
    exact ⟨rfl, HB3.out⟩
  by_cases hn0 : now < 0
  · go_wp2_with fail
    go_ret
    exact ⟨rfl, HB3.out⟩
  by_cases hn1 : 1099511627776 < now
  · go_wp2_with fail
    go_ret
    exact ⟨rfl, HB3.out⟩
  have HR : Hid (∀ f ∈ fs, filtB f = true) := Lib.hid (List.all_eq_true.1 HBb.out.symm)
  have HS : Hid (∀ f ∈ gs, filtB f = true) := Lib.hid (List.all_eq_true.1 HBc.out.symm)
  have hbE := (Below.refl w3.heap.size w3).alloc (Nat.le_refl _) (.cells #[] 29)
  have hF4 := HFi.out _ (below_chain HB3.out hbE)
  have hsz : w3.heap.size ≤ (w3.alloc (.cells #[] 29)).heap.size := by simp
  have hown := ownsFi_none w3 w3.heap.size (Nat.le_refl _)
  obtain ⟨hs, hh⟩ : ∃ hs, Hid (hs = fs ++ gs) := ⟨_, Lib.hid rfl⟩
  have hlen5 : fs.length + gs.length = hs.length := by rw [hh.out, List.length_append]
  go_wp2_with (at_builtin; first
    | (refine wpList_append_rows rfl (.tmp 42) (.tmp 43) 22 rfl 29 i0 (.agg #[.int .i64 0, .string .empty, .string .empty, .int .i64 0, .int .i64 0, .int .i64 0]) 6 64 Try.underlying22 hi hz0 hz1 hz2 rfl (by decide) w3.heap.size v4 fs.length (encFi fs) rfl hown4 (.slice pm gs.length cm) gs.length _ rfl hF5 HN2.out (encFi gs) (fi_len gs) (fun i hi j hj => fi_get gs i hi j hj) (fi_cells gs) (by unfold maxLen; omega) (by omega) hs4 ?_; intro v5 w5 hown5 hg5 _; have hb5 : Below w3.heap.size w3 w5 := hb4.grown hg5 hs4 (fun k e => (hown4.lt k e).1); rw [hlen5] at hown5; obtain ⟨p5, c5, rfl, -⟩ := RowKeep.row_form hown5; clear hown4 hg5 hlen5)
    | (refine wpList_append_rows rfl (.tmp 40) (.tmp 41) 22 rfl 29 i0 (.agg #[.int .i64 0, .string .empty, .string .empty, .int .i64 0, .int .i64 0, .int .i64 0]) 6 64 Try.underlying22 hi hz0 hz1 hz2 rfl (by decide) w3.heap.size (.slice (some ⟨w3.heap.size, 0, none⟩) 0 0) 0 [] rfl hown (.slice pf fs.length cf) fs.length _ rfl hF4 HN1.out (encFi fs) (fi_len fs) (fun i hi j hj => fi_get fs i hi j hj) (fi_cells fs) (by unfold maxLen; omega) (by omega) hsz ?_; intro v4 w4 hown4 hg4 _; rw [Nat.zero_add, List.nil_append] at hown4; have hb4 : Below w3.heap.size w3 w4 := hbE.grown hg4 hsz (fun k e => by have e2 : some w3.heap.size = some k := e; injection e2 with e2; omega); have hF5 := HFm.out w4 (below_chain HB3.out hb4); have hs4 := hb4.size; clear hown hg4))
  have hlen5 : fs.length + gs.length = hs.length := by rw [hh.out, List.length_append]
  have HV5 : Hid (Filts w5 (.slice p5 hs.length c5) hs) := Lib.hid (filts_of (by rw [← encFi_append, ← hh.out] at hown5; exact hown5))
  have HB5 := Lib.hid (below_chain HB3.out hb5)
  have HC5 := Lib.hid (HC3.out.below hb5 HC3.out.lt)
  have hmm : hs.length ≤ 2097152 := by omega
  clear hown5 hb4 hb5 hs4 hF4 hF5 hsz hbE HB3 HC3 d0 hlen5
  go_wp2_with fail
  go_loopw [46] (fun i wr => ∃ k : Nat, k ≤ hs.length ∧ i = .int .i64 k ∧ Hid (∀ f ∈ hs.take k, f.kind ≠ 7) ∧ Hid (Filts wr (.slice p5 hs.length c5) hs) ∧ Hid (Below w.heap.size w wr) ∧ Hid (Has wr w.heap.size 34 #[.int .i64 now, .string mt, .slice pg G.length cg, .int .i64 size, .bool back])) (fun i _ => hs.length - (intOf i).toNat)
  case atStart => exact ⟨0, Nat.zero_le _, rfl, Lib.hid (fun f hf => by simp at hf), HV5, HB5, HC5⟩
  case round =>
    obtain ⟨k, hk, rfl, HK, HV, HB, HC⟩ := hrel
    clear HV5 HB5 HC5
    by_cases hlt : k < hs.length
    · have hki : (k : Int) < (hs.length : Int) := by omega
      obtain ⟨x, hx⟩ : ∃ x, x = hs[k] := ⟨_, rfl⟩
      obtain ⟨g0, o0, rfl, e0, e1, e2, e3, e4, e5⟩ := filt_at HV.out k hlt x hx
      have hb1 := (Below.refl wr.heap.size wr).alloc (Nat.le_refl _) (.cells #[.int .i64 x.kind, .string (ofL x.name), .string (ofL x.value), .int .i64 x.n, .int .i64 x.m, .int .i64 x.k] 29)
      have HV1 := Lib.hid (HV.out.below hb1)
      have HB1 := Lib.hid (below_chain HB.out hb1)
      have HC1 := Lib.hid (HC.out.below hb1 HC.out.lt)
      clear HV HB HC hb1
      by_cases h7 : x.kind = 7
      · have t7 : ((x.kind : Int) == 7) = true := by rw [h7]; rfl
        clear h7 hx
        go_wp2_with fail
        go_ret
        exact ⟨rfl, HB1.out⟩
      · have t7 : ((x.kind : Int) == 7) = false := by rw [beq_eq_false_iff_ne]; exact h7
        have HK1 : Hid (∀ f ∈ hs.take (k + 1), f.kind ≠ 7) := Lib.hid (fun f hf => by
          rw [List.take_succ_eq_append_getElem hlt] at hf
          rcases List.mem_append.1 hf with q | q
          · exact HK.out f q
          · rw [List.mem_singleton.1 q, ← hx]; exact h7)
        clear h7 hx HK
        go_wp2_with fail
        go_roundw
        case rel => exact ⟨k + 1, by omega, by go_num, HK1, HV1, HB1, HC1⟩
        case measure => simp [intOf]; omega
    · have H7 : Hid (∀ f ∈ hs, f.kind ≠ 7) := Lib.hid (fun f hf => HK.out f (by rw [List.take_of_length_le (by omega)]; exact hf))
      clear HK HV
      rename World => w6
      have hbEa := (Below.refl w6.heap.size w6).alloc (Nat.le_refl _) (.cells #[] 29)
      have hFa := HFi.out _ (below_chain HB.out hbEa)
      have hsza : w6.heap.size ≤ (w6.alloc (.cells #[] 29)).heap.size := by simp
      have howna := ownsFi_none w6 w6.heap.size (Nat.le_refl _)
      go_wp2_with (at_builtin; first
        | (refine wpList_append_rows rfl (.tmp 54) (.tmp 55) 22 rfl 29 i0 (.agg #[.int .i64 0, .string .empty, .string .empty, .int .i64 0, .int .i64 0, .int .i64 0]) 6 64 Try.underlying22 hi hz0 hz1 hz2 rfl (by decide) w6.heap.size (.slice (some ⟨w6.heap.size, 0, none⟩) 0 0) 0 [] rfl howna (.slice pf fs.length cf) fs.length _ rfl hFa HN1.out (encFi fs) (fi_len fs) (fun i hi j hj => fi_get fs i hi j hj) (fi_cells fs) (by unfold maxLen; omega) (by omega) hsza ?_; intro va wa hown_va hg_va _; rw [Nat.zero_add, List.nil_append] at hown_va; have hba : Below w6.heap.size w6 wa := hbEa.grown hg_va hsza (fun k e => by have e2 : some w6.heap.size = some k := e; injection e2 with e2; omega); clear hg_va))
      obtain ⟨pa, ca, rfl, -⟩ := RowKeep.row_form hown_va
      have HVa := Lib.hid (filts_of hown_va)
      have HB7 := Lib.hid (below_chain HB.out hba)
      have HC7 := Lib.hid (HC.out.below hba HC.out.lt)
      have hba6 := hba.size
      have hcc6 := HC.out.lt
      clear hown_va hba hbEa hFa hsza howna HB HC hlt hk
      refine (pnew16 fs HR.out (by omega) 3 ⟨by decide, by decide⟩ _ wa HVa.out).mono ?_
      rintro e w7 ⟨⟨ga, Fa, rfl, hcha, hloa⟩, hbw7⟩
      have HCa := Lib.hid (new_hc (e := .returned (.bool true)) hcha hloa)
      have hwa7 : wa.heap.size ≤ w7.heap.size := hbw7.size
      have HB8 := Lib.hid (below_chain HB7.out hbw7)
      have HC8 := Lib.hid (HC7.out.below hbw7 HC7.out.lt)
      have hlo_a : w.heap.size ≤ wa.heap.size := HB7.out.size
      have hwa6 : w6.heap.size ≤ wa.heap.size := hba6
      have hcl6 : w.heap.size < w6.heap.size := hcc6
      clear hcha hloa hbw7 HVa HB7 HC7
      have hbEb := (Below.refl w7.heap.size w7).alloc (Nat.le_refl _) (.cells #[] 29)
      have hFb := HFm.out _ (below_chain HB8.out hbEb)
      have hszb : w7.heap.size ≤ (w7.alloc (.cells #[] 29)).heap.size := by simp
      have hownb := ownsFi_none w7 w7.heap.size (Nat.le_refl _)
      go_wp2_with (at_builtin; first
        | (refine wpList_append_rows rfl (.tmp 58) (.tmp 59) 22 rfl 29 i0 (.agg #[.int .i64 0, .string .empty, .string .empty, .int .i64 0, .int .i64 0, .int .i64 0]) 6 64 Try.underlying22 hi hz0 hz1 hz2 rfl (by decide) w7.heap.size (.slice (some ⟨w7.heap.size, 0, none⟩) 0 0) 0 [] rfl hownb (.slice pm gs.length cm) gs.length _ rfl hFb HN2.out (encFi gs) (fi_len gs) (fun i hi j hj => fi_get gs i hi j hj) (fi_cells gs) (by unfold maxLen; omega) (by omega) hszb ?_; intro vb wb hown_vb hg_vb _; rw [Nat.zero_add, List.nil_append] at hown_vb; have hbb : Below w7.heap.size w7 wb := hbEb.grown hg_vb hszb (fun k e => by have e2 : some w7.heap.size = some k := e; injection e2 with e2; omega); clear hg_vb))
      obtain ⟨pb, cb, rfl, -⟩ := RowKeep.row_form hown_vb
      have HVb := Lib.hid (filts_of hown_vb)
      have HB9 := Lib.hid (below_chain HB8.out hbb)
      have HC9 := Lib.hid (HC8.out.below hbb HC8.out.lt)
      have HCa9 := Lib.hid (HCa.out.call hbb)
      have hab : w7.heap.size ≤ wb.heap.size := hbb.size
      clear hown_vb hbb hbEb hFb hszb hownb HB8 HC8 HCa
      refine (pnew16 gs HS.out (by omega) 3 ⟨by decide, by decide⟩ _ wb HVb.out).mono ?_
      rintro e w8 ⟨⟨gb, Fb, rfl, hchb, hlob⟩, hbw8⟩
      have HCb := Lib.hid (new_hc (e := .returned (.bool true)) hchb hlob)
      have hb78 : wb.heap.size ≤ w8.heap.size := hbw8.size
      have HCa10 := Lib.hid (HCa9.out.call hbw8)
      have HB10 := Lib.hid (below_chain HB9.out hbw8)
      have HC10 := Lib.hid (HC9.out.below hbw8 HC9.out.lt)
      clear hchb hlob hbw8 HVb HB9 HC9 HCa9
      have hbEc := (Below.refl w8.heap.size w8).alloc (Nat.le_refl _) (.cells #[] 29)
      have hFc := HFi.out _ (below_chain HB10.out hbEc)
      have hszc : w8.heap.size ≤ (w8.alloc (.cells #[] 29)).heap.size := by simp
      have hownc := ownsFi_none w8 w8.heap.size (Nat.le_refl _)
      go_wp2_with (at_builtin; first
        | (refine wpList_append_rows rfl (.tmp 64) (.tmp 65) 22 rfl 29 i0 (.agg #[.int .i64 0, .string .empty, .string .empty, .int .i64 0, .int .i64 0, .int .i64 0]) 6 64 Try.underlying22 hi hz0 hz1 hz2 rfl (by decide) w8.heap.size vc fs.length (encFi fs) rfl hown_vc (.slice pm gs.length cm) gs.length _ rfl hFd HN2.out (encFi gs) (fi_len gs) (fun i hi j hj => fi_get gs i hi j hj) (fi_cells gs) (by unfold maxLen; omega) (by omega) hsd ?_; intro vd wd hown_vd hg_vd _; have hbd : Below w8.heap.size w8 wd := hbc.grown hg_vd hsd (fun k e => (hown_vc.lt k e).1); clear hown_vc hg_vd)
        | (refine wpList_append_rows rfl (.tmp 62) (.tmp 63) 22 rfl 29 i0 (.agg #[.int .i64 0, .string .empty, .string .empty, .int .i64 0, .int .i64 0, .int .i64 0]) 6 64 Try.underlying22 hi hz0 hz1 hz2 rfl (by decide) w8.heap.size (.slice (some ⟨w8.heap.size, 0, none⟩) 0 0) 0 [] rfl hownc (.slice pf fs.length cf) fs.length _ rfl hFc HN1.out (encFi fs) (fi_len fs) (fun i hi j hj => fi_get fs i hi j hj) (fi_cells fs) (by unfold maxLen; omega) (by omega) hszc ?_; intro vc wc hown_vc hg_vc _; rw [Nat.zero_add, List.nil_append] at hown_vc; have hbc : Below w8.heap.size w8 wc := hbEc.grown hg_vc hszc (fun k e => by have e2 : some w8.heap.size = some k := e; injection e2 with e2; omega); have hFd := HFm.out wc (below_chain HB10.out hbc); have hsd := hbc.size; clear hownc hg_vc))
      obtain ⟨pd, cd, rfl, -⟩ := RowKeep.row_form hown_vd
      have hlend : fs.length + gs.length = hs.length := by rw [hh.out, List.length_append]
      have HVd : Hid (Filts wd (.slice pd hs.length cd) hs) := Lib.hid (filts_of (by rw [hlend, ← encFi_append, ← hh.out] at hown_vd; exact hown_vd))
      rw [hlend]
      have HB11 := Lib.hid (below_chain HB10.out hbd)
      have HC11 := Lib.hid (HC10.out.below hbd HC10.out.lt)
      have HCa11 := Lib.hid (HCa10.out.call hbd)
      have HCb11 := Lib.hid (HCb.out.call hbd)
      have hbc2 : w8.heap.size ≤ wd.heap.size := hbd.size
      clear hown_vd hbd hbEc hFc hszc hbc hFd hsd HB10 HC10 HCa10 HCb hlend
      refine (pnew16 hs (fun f hf => by rw [hh.out] at hf; exact (List.mem_append.1 hf).elim (HR.out f) (HS.out f)) (by omega) 3 ⟨by decide, by decide⟩ _ wd HVd.out).mono ?_
      rintro e w9 ⟨⟨gc, Fc, rfl, hchc, hloc⟩, hbw9⟩
      have HCc := Lib.hid (new_hc (e := .returned (.bool true)) hchc hloc)
      have hwd9X : wd.heap.size ≤ w9.heap.size := hbw9.size
      have HCa12 := Lib.hid (HCa11.out.call hbw9)
      have HCb12 := Lib.hid (HCb11.out.call hbw9)
      have HB12 := Lib.hid (below_chain HB11.out hbw9)
      have HCc12 := HCc
      clear HCc
      have h8b : w8.heap.size ≤ wd.heap.size := hbc2
      have h78 : wb.heap.size ≤ w8.heap.size := hb78
      have HC12 := Lib.hid (HC11.out.below hbw9 HC11.out.lt)
      clear hchc hloc hbw9 HVd HB11 HC11 HCa11 HCb11 hi hz0 hz1 hz2
      obtain ⟨V1, hV1⟩ : ∃ V, Hid (V = (req16 dv16 dn16 (start16 fs (seed16 3)) now (toL mt) size G).1) := ⟨_, Lib.hid rfl⟩
      obtain ⟨V2, hV2⟩ : ∃ V, Hid (V = (req16 dv16 dn16 (start16 hs (seed16 3)) now (toL mt) size G).1) := ⟨_, Lib.hid rfl⟩
      have HE1 : req16 dv16 dn16 (start16 fs (seed16 3)) now (toL mt) size G = (V1, 0) := by rw [hV1.out, FiltGuard.fresh fs _ now (by omega) (by omega)]
      have HE2 : req16 dv16 dn16 (start16 hs (seed16 3)) now (toL mt) size G = (V2, 0) := by rw [hV2.out, FiltGuard.fresh hs _ now (by omega) (by omega)]
      have HRs : ∀ f ∈ hs, filtB f = true := fun f hf => by rw [hh.out] at hf; exact (List.mem_append.1 hf).elim (HR.out f) (HS.out f)
      have K1 : Hid (FewM V1.pass ∧ V1.fields.length ≤ 2 ∧ V1.pass.length ≤ 2097152) := Lib.hid (by rw [hV1.out]; have := req_keep fs HR.out (seed16 3) now (toL mt) size G HG.out; exact ⟨this.1, this.2.1, by omega⟩)
      have K2 : Hid (V2.fields.length ≤ 2 ∧ V2.pass.length ≤ 4194304) := Lib.hid (by rw [hV2.out]; have := req_keep hs HRs (seed16 3) now (toL mt) size G HG.out; exact ⟨this.2.1, by omega⟩)
      have HQ1 := preq16 Fa ga (start16 fs (seed16 3)) now ⟨by omega, by omega⟩ mt (by omega) size hsi (.slice pg G.length cg) G HG.out (by show G.length + fs.length ≤ 16777216; omega) w9 HCa12.out.ch (HFf.out w9 HB12.out)
      rw [HE1] at HQ1
      replace HQ1 := Lib.hid HQ1
      have HQ2 : Hid (∀ X, Below w.heap.size w X → Hc wd.heap.size w9.heap.size Fc gc (start16 hs (seed16 3)) X → Calls Try.prog 16 #[.pointer (some ⟨gc, 0, none⟩), .int .i64 now, .string mt, .slice pg G.length cg, .int .i64 size] X fun e w' => ReqC X w' e Fc gc (V2, 0) (nxt16 dv16 dn16 (start16 hs (seed16 3)) now (toL mt) size G)) := Lib.hid (fun X hb hc => by
        have := preq16 Fc gc (start16 hs (seed16 3)) now ⟨by omega, by omega⟩ mt (by omega) size hsi (.slice pg G.length cg) G HG.out (by show G.length + hs.length ≤ 16777216; omega) X hc.ch (HFf.out X hb)
        rw [HE2] at this
        exact this)
      have hlt_a : w.heap.size < wa.heap.size := Nat.lt_of_lt_of_le hcl6 hwa6
      have hwd9 : wd.heap.size ≤ w9.heap.size := hwd9X
      have d0 : w9.cell? ⟨w.heap.size, 0, none⟩ = some (.int .i64 now) := HC12.out.cell 0
      have d1 : w9.cell? ⟨w.heap.size, 1, none⟩ = some (.string mt) := HC12.out.cell 1
      have d2 : w9.cell? ⟨w.heap.size, 2, none⟩ = some (.slice pg G.length cg) := HC12.out.cell 2
      have d3 : w9.cell? ⟨w.heap.size, 3, none⟩ = some (.int .i64 size) := HC12.out.cell 3
      clear HE1 HE2
      go_wp2_with fail
      refine HQ1.out.mono ?_
      rintro e w10 ⟨fl1, pl1, Fa2, rfl, hfl1, hpl1, -, -, -, hst1⟩
      obtain ⟨f1, cf1, rfl, -⟩ := RowKeep.row_form hfl1
      obtain ⟨q1, cq1, rfl, -⟩ := RowKeep.row_form hpl1
      have hba := (Below.refl w10.heap.size w10).alloc (Nat.le_refl _) (.cells (vrdA V1 (.slice f1 V1.fields.length cf1) (.slice q1 V1.pass.length cq1)) 38)
      have HB13 := Lib.hid (below_chain (HCa12.out.below HB12.out hlo_a hst1) hba)
      have HC13 := Lib.hid ((hst1.has HC12.out (fun hk => by have := HCa12.out.lo _ hk; omega)).alloc (.cells (vrdA V1 (.slice f1 V1.fields.length cf1) (.slice q1 V1.pass.length cq1)) 38))
      have HCb13 := Lib.hid ((HCb12.out.other HCa12.out hst1 (.inr hab)).call hba)
      have HCc13 := Lib.hid ((HCc12.out.other HCa12.out hst1 (.inr (by omega))).call hba)
      have HX13 := Lib.hid (Has.new w10 38 (vrdA V1 (.slice f1 V1.fields.length cf1) (.slice q1 V1.pass.length cq1)))
      have HF13 : Hid (Lst (w10.alloc (.cells (vrdA V1 (.slice f1 V1.fields.length cf1) (.slice q1 V1.pass.length cq1)) 38)) w9.heap.size (.slice f1 V1.fields.length cf1) V1.fields) := Lib.hid (RowKeep.row_below hfl1 hba)
      have HP13 : Hid (Lst (w10.alloc (.cells (vrdA V1 (.slice f1 V1.fields.length cf1) (.slice q1 V1.pass.length cq1)) 38)) w9.heap.size (.slice q1 V1.pass.length cq1) V1.pass) := Lib.hid (RowKeep.row_below hpl1 hba)
      have h910 : w9.heap.size ≤ w10.heap.size := hst1.size
      have d0 : (w10.alloc (.cells (vrdA V1 (.slice f1 V1.fields.length cf1) (.slice q1 V1.pass.length cq1)) 38)).cell? ⟨w.heap.size, 0, none⟩ = some (.int .i64 now) := HC13.out.cell 0
      have d1 : (w10.alloc (.cells (vrdA V1 (.slice f1 V1.fields.length cf1) (.slice q1 V1.pass.length cq1)) 38)).cell? ⟨w.heap.size, 1, none⟩ = some (.string mt) := HC13.out.cell 1
      have d2 : (w10.alloc (.cells (vrdA V1 (.slice f1 V1.fields.length cf1) (.slice q1 V1.pass.length cq1)) 38)).cell? ⟨w.heap.size, 2, none⟩ = some (.slice pg G.length cg) := HC13.out.cell 2
      have d3 : (w10.alloc (.cells (vrdA V1 (.slice f1 V1.fields.length cf1) (.slice q1 V1.pass.length cq1)) 38)).cell? ⟨w.heap.size, 3, none⟩ = some (.int .i64 size) := HC13.out.cell 3
      unfold vrdA at d0 d1 d2 d3
      clear hba hst1 hfl1 hpl1 HB12 HC12 HCa12 HCb12 HCc12 HQ1
      dsimp only [vrdA]
      go_wp2_with fail
      have HQ3 := Lib.hid (HQ2.out _ HB13.out HCc13.out)
      clear HQ2 d0 d1 d2 d3
      refine HQ3.out.mono ?_
      rintro e w12 ⟨fl2, pl2, Fc2, rfl, hfl2, hpl2, -, -, -, hst2⟩
      obtain ⟨f2, cf2, rfl, -⟩ := RowKeep.row_form hfl2
      obtain ⟨q2, cq2, rfl, -⟩ := RowKeep.row_form hpl2
      have hbc := (Below.refl w12.heap.size w12).alloc (Nat.le_refl _) (.cells (vrdA V2 (.slice f2 V2.fields.length cf2) (.slice q2 V2.pass.length cq2)) 38)
      have HB14 := Lib.hid (below_chain (HCc13.out.below HB13.out (by omega) hst2) hbc)
      have HC14 := Lib.hid ((hst2.has HC13.out (fun hk => by have := HCc13.out.lo _ hk; omega)).alloc (.cells (vrdA V2 (.slice f2 V2.fields.length cf2) (.slice q2 V2.pass.length cq2)) 38))
      have HCb14 := Lib.hid ((HCb13.out.other HCc13.out hst2 (.inl (by omega))).call hbc)
      have HX14 := Lib.hid ((hst2.has HX13.out (fun hk => by have := HCc13.out.hi _ hk; omega)).alloc (.cells (vrdA V2 (.slice f2 V2.fields.length cf2) (.slice q2 V2.pass.length cq2)) 38))
      have HF14 := Lib.hid (RowKeep.row_below (lst_step HCc13.out HF13.out (Nat.le_refl _) hst2) hbc)
      have HP14 := Lib.hid (RowKeep.row_below (lst_step HCc13.out HP13.out (Nat.le_refl _) hst2) hbc)
      have HY14 := Lib.hid (Has.new w12 38 (vrdA V2 (.slice f2 V2.fields.length cf2) (.slice q2 V2.pass.length cq2)))
      have hbase2 : w10.heap.size ≤ (w10.alloc (.cells (vrdA V1 (.slice f1 V1.fields.length cf1) (.slice q1 V1.pass.length cq1)) 38)).heap.size := by simp
      have HG14 := Lib.hid (show Lst _ _ _ V2.fields from RowKeep.row_mono (RowKeep.row_below hfl2 hbc) hbase2)
      have HH14 := Lib.hid (show Lst _ _ _ V2.pass from RowKeep.row_mono (RowKeep.row_below hpl2 hbc) hbase2)
      have h1012 : w10.heap.size < w12.heap.size := by have := hst2.size; simp at this; omega
      clear hbc hst2 hfl2 hpl2 HB13 HC13 HCb13 HCc13 HQ3 HX13 HF13 HP13
      dsimp only [vrdA]
      have hpair : w12.heap.size < (w12.alloc (.cells (vrdA V2 (.slice f2 V2.fields.length cf2) (.slice q2 V2.pass.length cq2)) 38)).heap.size := by simp
      have HV : Hid (V2 = if V1.stop then V1 else (req16 dv16 dn16 (start16 gs (seed16 3)) now (toL mt) size V1.pass).1) := Lib.hid (by
        rw [hV2.out, hV1.out, hh.out]
        exact halves fs gs (fun f hf => H7.out f (by rw [hh.out]; exact hf)) (seed16 3) now (by omega) (by omega) (toL mt) size G)
      have h9w : w.heap.size ≤ w9.heap.size := by omega
      have k0 : (w12.alloc (.cells (vrdA V2 (.slice f2 V2.fields.length cf2) (.slice q2 V2.pass.length cq2)) 38)).cell? ⟨w10.heap.size, 0, none⟩ = some (.bool V1.stop) := HX14.out.cell 0
      have d0 : (w12.alloc (.cells (vrdA V2 (.slice f2 V2.fields.length cf2) (.slice q2 V2.pass.length cq2)) 38)).cell? ⟨w.heap.size, 0, none⟩ = some (.int .i64 now) := HC14.out.cell 0
      have d1 : (w12.alloc (.cells (vrdA V2 (.slice f2 V2.fields.length cf2) (.slice q2 V2.pass.length cq2)) 38)).cell? ⟨w.heap.size, 1, none⟩ = some (.string mt) := HC14.out.cell 1
      have d3 : (w12.alloc (.cells (vrdA V2 (.slice f2 V2.fields.length cf2) (.slice q2 V2.pass.length cq2)) 38)).cell? ⟨w.heap.size, 3, none⟩ = some (.int .i64 size) := HC14.out.cell 3
      have d4 : (w12.alloc (.cells (vrdA V2 (.slice f2 V2.fields.length cf2) (.slice q2 V2.pass.length cq2)) 38)).cell? ⟨w10.heap.size, 4, none⟩ = some (.slice q1 V1.pass.length cq1) := HX14.out.cell 4
      unfold vrdA at k0 d0 d1 d3 d4
      go_upto_if 112 with fail
      go_cut [13] (fun s13 wx => ∃ fl1 pl1, s13 = .int .i64 0 ∧ Hid (Fin w wx w10.heap.size w12.heap.size V2 V2 fl1 pl1 (.slice f2 V2.fields.length cf2) (.slice q2 V2.pass.length cq2)))
      case first =>
        cases hst : V1.stop
        · rw [hst] at k0 HV
          have HV3 : Hid ((req16 dv16 dn16 (start16 gs (seed16 3)) now (toL mt) size V1.pass) = (V2, 0)) := Lib.hid (by
            have e := HV.out
            rw [if_neg (by decide)] at e
            rw [e, FiltGuard.fresh gs _ now (by omega) (by omega)])
          have hQ := preq16 Fb gb (start16 gs (seed16 3)) now ⟨by omega, by omega⟩ mt (by omega) size hsi (.slice q1 V1.pass.length cq1) V1.pass K1.out.1 (by show V1.pass.length + gs.length ≤ 16777216; have := K1.out.2.2; omega) _ HCb14.out.ch (fl_of HP14.out (by have := K1.out.2.2; omega))
          rw [HV3.out] at hQ
          have HQ := Lib.hid hQ
          clear hQ HV HV3
          go_wp2_with fail
          refine HQ.out.mono ?_
          rintro e w15 ⟨fl3, pl3, Fb2, rfl, hfl3, hpl3, -, -, -, hst3⟩
          obtain ⟨f3, cf3, rfl, -⟩ := RowKeep.row_form hfl3
          obtain ⟨q3, cq3, rfl, -⟩ := RowKeep.row_form hpl3
          have Z15 := hst3.has HX14.out (fun hk => by have := HCb14.out.hi _ hk; omega)
          have Y15 := hst3.has HY14.out (fun hk => by have := HCb14.out.hi _ hk; omega)
          have sset : Step w15 (w15.setRow w10.heap.size (vrdA V2 (.slice f3 V2.fields.length cf3) (.slice q3 V2.pass.length cq3))) (fun k => k = w10.heap.size) (fun k => k = w10.heap.size) := step_set _ rfl
          have srow : ∀ {base : Nat} {v : Value} {X : List HField}, Lst w15 base v X → Lst (w15.setRow w10.heap.size (vrdA V2 (.slice f3 V2.fields.length cf3) (.slice q3 V2.pass.length cq3))) base v X := fun h => sset.row h (fun q hq e => row_ne h Z15 (by decide) (by rw [hq, e]))
          have HFin := Lib.hid (show Fin w (w15.setRow w10.heap.size (vrdA V2 (.slice f3 V2.fields.length cf3) (.slice q3 V2.pass.length cq3))) w10.heap.size w12.heap.size V2 V2 (.slice f3 V2.fields.length cf3) (.slice q3 V2.pass.length cq3) (.slice f2 V2.fields.length cf2) (.slice q2 V2.pass.length cq2) from
            ⟨has_set Z15 _, has_other Y15 _ (by omega), fl_of (srow hfl3) (by have := K2.out.1; omega), fl_of (srow hpl3) (by have := K2.out.2; omega),
             fl_of (srow (lst_step HCb14.out HG14.out (by omega) hst3)) (by have := K2.out.1; omega), fl_of (srow (lst_step HCb14.out HH14.out (by omega) hst3)) (by have := K2.out.2; omega),
             (HCb14.out.below HB14.out (by omega) hst3).trans (sset.below (by have := HB14.out.size; have := hst3.size; omega) (fun k hk => by omega))⟩)
          clear Y15 sset srow hst3 hfl3 hpl3 HQ d0 d1 d3 d4 k0
          unfold vrdA at Z15 HFin ⊢
          dsimp only
          go_wp2_with (refine store_whole rfl 38 5 pverd_size _ _ rfl w10.heap.size _ _ Z15 rfl rfl (by simp [Value.oneCell']) rfl rfl ?_)
          go_meet
          exact ⟨_, _, rfl, HFin⟩
        · rw [hst] at k0 HV
          have e : V2 = V1 := by rw [HV.out, if_pos rfl]
          have HFin := Lib.hid (show Fin w _ w10.heap.size w12.heap.size V2 V2 _ _ (.slice f2 V2.fields.length cf2) (.slice q2 V2.pass.length cq2) from ⟨by have h := HX14.out; rw [← e] at h; exact h, HY14.out, by have h := HF14.out; rw [← e] at h; exact fl_of h (by have := K2.out.1; omega), by have h := HP14.out; rw [← e] at h; exact fl_of h (by have := K2.out.2; omega), fl_of HG14.out (by have := K2.out.1; omega), fl_of HH14.out (by have := K2.out.2; omega), HB14.out⟩)
          clear e HV d0 d1 d3 d4
          go_wp2_with fail
          go_meet
          exact ⟨_, _, rfl, HFin⟩
      case rest =>
        obtain ⟨fl1, pl1, rfl, HF⟩ := hcut
        rename World => wx
        obtain ⟨p1, c1, rfl, -, -⟩ := id HF.out.f1
        obtain ⟨q1', c1', rfl, -, -⟩ := id HF.out.p1
        have k0 : wx.cell? ⟨w10.heap.size, 0, none⟩ = some (.bool V2.stop) := HF.out.a.cell 0
        have k1 : wx.cell? ⟨w10.heap.size, 1, none⟩ = some (.int .i64 V2.status) := HF.out.a.cell 1
        have k2 : wx.cell? ⟨w10.heap.size, 2, none⟩ = some (.slice p1 V2.fields.length c1) := HF.out.a.cell 2
        have k3 : wx.cell? ⟨w10.heap.size, 3, none⟩ = some (.string (ofL V2.body)) := HF.out.a.cell 3
        have k4 : wx.cell? ⟨w10.heap.size, 4, none⟩ = some (.slice q1' V2.pass.length c1') := HF.out.a.cell 4
        have l0 : wx.cell? ⟨w12.heap.size, 0, none⟩ = some (.bool V2.stop) := HF.out.b.cell 0
        have l1 : wx.cell? ⟨w12.heap.size, 1, none⟩ = some (.int .i64 V2.status) := HF.out.b.cell 1
        have l2 : wx.cell? ⟨w12.heap.size, 2, none⟩ = some (.slice f2 V2.fields.length cf2) := HF.out.b.cell 2
        have l3 : wx.cell? ⟨w12.heap.size, 3, none⟩ = some (.string (ofL V2.body)) := HF.out.b.cell 3
        have l4 : wx.cell? ⟨w12.heap.size, 4, none⟩ = some (.slice q2 V2.pass.length cq2) := HF.out.b.cell 4
        have kf := K2.out.1
        have kp := K2.out.2
        clear K1 K2 HV HX14 HF14 HP14 HY14 HG14 HH14 HB14 HC14 HCb14 H7 hV1 hV2 HFi HFm HFf HG HR HS
        have t0 : (V2.stop != V2.stop) = false := bne_self_eq_false _
        have t1 : ((V2.status : Int) != V2.status) = false := bne_self_eq_false _
        have t3 : ((ofL V2.body).toList != (ofL V2.body).toList) = false := bne_self_eq_false _
        have t4 : ((ofL V2.body).toList == (ofL V2.body).toList) = true := beq_self_eq_true _
        go_wp2_with fail
        clear k0 k1 k2 k3 l0 l1 l3
        go_loopw [168] (fun i wr => ∃ k : Nat, k ≤ V2.fields.length ∧ i = .int .i64 k ∧ Hid (Fin w wr w10.heap.size w12.heap.size V2 V2 (.slice p1 V2.fields.length c1) (.slice q1' V2.pass.length c1') (.slice f2 V2.fields.length cf2) (.slice q2 V2.pass.length cq2))) (fun i _ => V2.fields.length - (intOf i).toNat)
        case atStart => exact ⟨0, Nat.zero_le _, rfl, HF⟩
        case round =>
          obtain ⟨k, hk, rfl, HK⟩ := hrel
          rename World => wr
          clear HF
          by_cases hlt : k < V2.fields.length
          · have hki : (k : Int) < (V2.fields.length : Int) := by omega
            obtain ⟨p8, c8, e8, _, hc8⟩ := HK.out.f1
            obtain ⟨g8, o8, ep8, _, hcell8⟩ := hc8 (by omega)
            obtain ⟨p9, c9, e9, _, hc9⟩ := HK.out.f2
            obtain ⟨g9, o9, ep9, _, hcell9⟩ := hc9 (by omega)
            injection e8 with e8a _ e8c
            injection e9 with e9a _ e9c
            subst e8c e9c
            subst ep8 ep9
            subst e8a e9a
            obtain ⟨x1, x2⟩ := hcell8 k hlt
            obtain ⟨y1, y2⟩ := hcell9 k hlt
            have hnq := fun w => R7Same.neqF (ofL V2.fields[k].1) (ofL V2.fields[k].2) (ofL V2.fields[k].1) (ofL V2.fields[k].2) true true (beq_self_eq_true _) (beq_self_eq_true _) w
            have hb := (Below.refl wr.heap.size wr).alloc (Nat.le_refl _) (.cells #[.string (ofL V2.fields[k].1), .string (ofL V2.fields[k].2)] 54)
            have HK2 := Lib.hid (HK.out.call hb)
            have z2 : (wr.alloc (.cells #[.string (ofL V2.fields[k].1), .string (ofL V2.fields[k].2)] 54)).cell? ⟨w12.heap.size, 2, none⟩ = some (.slice (some ⟨g9, o9, none⟩) V2.fields.length cf2) := HK2.out.b.cell 2
            have y1' : (wr.alloc (.cells #[.string (ofL V2.fields[k].1), .string (ofL V2.fields[k].2)] 54)).cell? ⟨g9, o9 + k * 2, none⟩ = some (.string (ofL V2.fields[k].1)) := (hb.cell (p := ⟨g9, o9 + k * 2, none⟩) (World.block_lt_of_cell? _ _ y1)).trans y1
            have y2' : (wr.alloc (.cells #[.string (ofL V2.fields[k].1), .string (ofL V2.fields[k].2)] 54)).cell? ⟨g9, o9 + k * 2 + 1, none⟩ = some (.string (ofL V2.fields[k].2)) := (hb.cell (p := ⟨g9, o9 + k * 2 + 1, none⟩) (World.block_lt_of_cell? _ _ y2)).trans y2
            have hX := Has.new wr 54 #[.string (ofL V2.fields[k].1), .string (ofL V2.fields[k].2)]
            have b1 : (wr.alloc (.cells #[.string (ofL V2.fields[k].1), .string (ofL V2.fields[k].2)] 54)).cell? ⟨wr.heap.size, 0, none⟩ = some (.string (ofL V2.fields[k].1)) := hX.cell 0
            have b2 : (wr.alloc (.cells #[.string (ofL V2.fields[k].1), .string (ofL V2.fields[k].2)] 54)).cell? ⟨wr.heap.size, 1, none⟩ = some (.string (ofL V2.fields[k].2)) := hX.cell 1
            clear hc8 hc9 hcell8 hcell9 hb hX y1 y2
            generalize ofL V2.fields[k].1 = s1 at *
            generalize ofL V2.fields[k].2 = s2 at *
            clear HK
            go_wp2_with fail
            go_quiet (fail)
            have HK3 := Lib.hid (HK2.out.drewN nq)
            clear z2 y1' y2' b1 b2 x1 x2 HK2
            generalize (World.drewN _ nq) = W9 at *
            go_wp2_with fail
            go_roundw
            case rel => exact ⟨k + 1, by omega, by go_num, HK3⟩
            case measure => simp [intOf]; omega
          · have HF := HK
            have k4 : wr.cell? ⟨w10.heap.size, 4, none⟩ = some (.slice q1' V2.pass.length c1') := HF.out.a.cell 4
            clear HK
            go_wp2_with fail
            go_loopw [184] (fun i wr => ∃ k : Nat, k ≤ V2.pass.length ∧ i = .int .i64 k ∧ Hid (Fin w wr w10.heap.size w12.heap.size V2 V2 (.slice p1 V2.fields.length c1) (.slice q1' V2.pass.length c1') (.slice f2 V2.fields.length cf2) (.slice q2 V2.pass.length cq2))) (fun i _ => V2.pass.length - (intOf i).toNat)
            case atStart => exact ⟨0, Nat.zero_le _, rfl, HF⟩
            case round =>
              obtain ⟨k, hk, rfl, HK⟩ := hrel
              rename World => wr
              clear HF
              by_cases hlt : k < V2.pass.length
              · have hki : (k : Int) < (V2.pass.length : Int) := by omega
                obtain ⟨p8, c8, e8, _, hc8⟩ := HK.out.p1
                obtain ⟨g8, o8, ep8, _, hcell8⟩ := hc8 (by omega)
                obtain ⟨p9, c9, e9, _, hc9⟩ := HK.out.p2
                obtain ⟨g9, o9, ep9, _, hcell9⟩ := hc9 (by omega)
                injection e8 with e8a _ e8c
                injection e9 with e9a _ e9c
                subst e8c e9c
                subst ep8 ep9
                subst e8a e9a
                obtain ⟨x1, x2⟩ := hcell8 k hlt
                obtain ⟨y1, y2⟩ := hcell9 k hlt
                have hnq := fun w => R7Same.neqF (ofL V2.pass[k].1) (ofL V2.pass[k].2) (ofL V2.pass[k].1) (ofL V2.pass[k].2) true true (beq_self_eq_true _) (beq_self_eq_true _) w
                have hb := (Below.refl wr.heap.size wr).alloc (Nat.le_refl _) (.cells #[.string (ofL V2.pass[k].1), .string (ofL V2.pass[k].2)] 54)
                have HK2 := Lib.hid (HK.out.call hb)
                have z2 : (wr.alloc (.cells #[.string (ofL V2.pass[k].1), .string (ofL V2.pass[k].2)] 54)).cell? ⟨w12.heap.size, 4, none⟩ = some (.slice (some ⟨g9, o9, none⟩) V2.pass.length cq2) := HK2.out.b.cell 4
                have y1' : (wr.alloc (.cells #[.string (ofL V2.pass[k].1), .string (ofL V2.pass[k].2)] 54)).cell? ⟨g9, o9 + k * 2, none⟩ = some (.string (ofL V2.pass[k].1)) := (hb.cell (p := ⟨g9, o9 + k * 2, none⟩) (World.block_lt_of_cell? _ _ y1)).trans y1
                have y2' : (wr.alloc (.cells #[.string (ofL V2.pass[k].1), .string (ofL V2.pass[k].2)] 54)).cell? ⟨g9, o9 + k * 2 + 1, none⟩ = some (.string (ofL V2.pass[k].2)) := (hb.cell (p := ⟨g9, o9 + k * 2 + 1, none⟩) (World.block_lt_of_cell? _ _ y2)).trans y2
                have hX := Has.new wr 54 #[.string (ofL V2.pass[k].1), .string (ofL V2.pass[k].2)]
                have b1 : (wr.alloc (.cells #[.string (ofL V2.pass[k].1), .string (ofL V2.pass[k].2)] 54)).cell? ⟨wr.heap.size, 0, none⟩ = some (.string (ofL V2.pass[k].1)) := hX.cell 0
                have b2 : (wr.alloc (.cells #[.string (ofL V2.pass[k].1), .string (ofL V2.pass[k].2)] 54)).cell? ⟨wr.heap.size, 1, none⟩ = some (.string (ofL V2.pass[k].2)) := hX.cell 1
                clear hc8 hc9 hcell8 hcell9 hb hX y1 y2
                generalize ofL V2.pass[k].1 = s1 at *
                generalize ofL V2.pass[k].2 = s2 at *
                clear HK
                go_wp2_with fail
                go_quiet (fail)
                have HK3 := Lib.hid (HK2.out.drewN nq)
                clear z2 y1' y2' b1 b2 x1 x2 HK2
                generalize (World.drewN _ nq) = W9 at *
                go_wp2_with fail
                go_roundw
                case rel => exact ⟨k + 1, by omega, by go_num, HK3⟩
                case measure => simp [intOf]; omega
              · go_wp2_with fail
                go_ret
                exact ⟨rfl, HK.out.below⟩
theorem walk {H : Type} {enc : TypeId × Value → H} {W : World} {base : Nat} (v : Value) (d : DataW H) (p : List MemPlace) (hv : Value.okWide Try.prog W .any base 22 v) (hd : DataW.Trod enc Try.prog W 0 (fun _ => true) true 22 v d p) (hl : ∀ x ∈ p, x.block < W.heap.size) (hb : Rows.uptoBulk d ≤ 1048576)
    (v1 : Value) (d1 : DataW H) (p1 : List MemPlace) (hv1 : Value.okWide Try.prog W .any base 22 v1) (hd1 : DataW.Trod enc Try.prog W 0 (fun _ => true) true 22 v1 d1 p1) (hl1 : ∀ x ∈ p1, x.block < W.heap.size) (hb1 : Rows.uptoBulk d1 ≤ 1048576)
    (v2 : Value) (d2 : DataW H) (p2 : List MemPlace) (hv2 : Value.okWide Try.prog W .any base 34 v2) (hd2 : DataW.Trod enc Try.prog W 0 (fun _ => true) true 34 v2 d2 p2) (hl2 : ∀ x ∈ p2, x.block < W.heap.size) (hb2 : Rows.uptoBulk d2 ≤ 1048576) :
    Calls Try.prog 8 #[v, v1, v2] W fun e w' => e = .returned (.bool true) ∧ Below W.heap.size W w' := by
  obtain ⟨fs, hF, hf1, hx, hs, hn⟩ := FiltArg.filts_arg hv hd hb
  obtain ⟨gs, hF2, hg1, hx2, hs2, hn2⟩ := FiltArg.filts_arg hv1 hd1 hb1
  obtain ⟨now, mt, vg, size, back, G, rfl, hc⟩ := CallArg.call_arg hv2 hd2 hb2
  exact walkIn fs gs v v1 hx hx2 hf1 hg1 hn hn2 now mt vg size back G W hF hF2 hc
end Go.Proofs.Ytfdpoibmlggfbaa.FilterFirstW
