/- Texts of this seat, one behind another: CallArg, FiltGuard, FiltCap, FilterGuardsW. -/
import Derived.Handy
import Derived.Deep.RegionHeld3
import Derived.Deep.DeepCutAuto
import Derived.Test.YtfdpoibmlggfbaaFV
import Derived.Test.YtfdpoibmlggfbaaA1
import Derived.Test.YtfdpoibmlggfbaaA4
import Derived.Test.YtfdpoibmlggfbaaB
import Derived.Test.YtfdpoibmlggfbaaR2
import Derived.Test.YtfdpoibmlggfbaaA2
/- An argument that is a law's Call (the time, the method, the fields, the size, back), of bulk at most 1048576. -/
namespace Go.Proofs.Ytfdpoibmlggfbaa.CallArg
open Go.ChangeShapes Go.WideShapes Go.ChangeAt Go.RowKit Go.Deep LexPure Bytes Ret FieldsPure Flds FiltArg FiltObj
set_option maxRecDepth 100000
/-- a call as it lies -/
def callV (now : Int) (m : ByteArray) (vf : Value) (size : Int) (back : Bool) : Value := .agg #[.int .i64 now, .string m, vf, .int .i64 size, .bool back]
structure CallOk (W : World) (now : Int) (m : ByteArray) (vf : Value) (size : Int) (G : List HField) : Prop where
  now : inI now
  m : m.size ≤ 1048576
  size : inI size
  fl : FL W vf G
  few : Few G
  len : G.length ≤ 1048576
  nice : FArg.Nice vf G.length
section
variable {H : Type} {enc : TypeId × Value → H} {W : World}
theorem call_arg {base : Nat} {v : Value} {d : DataW H} {p : List MemPlace} (hv : Value.okWide Try.prog W .any base 34 v)
    (h : DataW.Trod enc Try.prog W 0 (fun _ => true) true 34 v d p) (hb : Rows.uptoBulk d ≤ 1048576) :
    ∃ (now : Int) (m : ByteArray) (vf : Value) (size : Int) (back : Bool) (G : List HField), v = callV now m vf size back ∧ CallOk W now m vf size G := by
  have he : Try.prog.underlying 34 = some (.struct (Try.prog.fieldsOf 34)) := by kernel_rfl
  have hC : Try.prog.cellsOf 34 = 5 := by kernel_rfl
  have hone := hone_of (show oneCellFields Try.prog (Try.prog.fieldsOf 34) = true by kernel_rfl)
  obtain ⟨cs, rfl, hsz⟩ := okWide_struct he hv
  obtain ⟨l⟩ := cs
  match l, hsz.trans hC with
  | [c0, c1, c2, c3, c4], _ =>
    obtain ⟨fuel, hf⟩ := h
    obtain ⟨xs, n, _, hx, _, hlen, hg⟩ := DataW.trod_struct he hf
    have hl6 : (Try.prog.fieldsOf 34).size = 5 := by kernel_rfl
    match xs, hlen.trans hl6 with
    | [y0, y1, y2, y3, y4], _ =>
      have key : ∀ i (hi : i < 5), DataW.trod enc Try.prog W 0 (fun _ => true) true n (Try.prog.fieldsOf 34)[i]!.type [[c0, c1, c2, c3, c4][i]] = some [y0, y1, y2, y3, y4][i] := fun i hi => by
        have hq : (Try.prog.fieldsOf 34)[i]? = some (Try.prog.fieldsOf 34)[i]! := by
          rw [getElem!_pos _ i (by rw [hl6]; exact hi)]
          exact Array.getElem?_eq_getElem _
        have h1 := hg i _ hq
        obtain ⟨o1, k1⟩ := hone i _ hq
        rw [o1, k1] at h1
        have h2 : ((Value.agg ⟨[c0, c1, c2, c3, c4]⟩).cells.toList.drop i).take 1 = [[c0, c1, c2, c3, c4][i]] := by
          rw [show (Value.agg ⟨[c0, c1, c2, c3, c4]⟩).cells.toList = [c0, c1, c2, c3, c4] from rfl, List.drop_eq_getElem_cons (by simpa using hi)]
          rfl
        rw [h2] at h1
        rw [h1, List.getElem?_eq_getElem (by simpa using hi)]
      obtain ⟨n0, e0, x0, w0⟩ := DataW.trod_int (show Try.prog.underlying (Try.prog.fieldsOf 34)[0]!.type = some (.int .i64) by kernel_rfl) (key 0 (by decide))
      obtain ⟨s1, e1, x1, _⟩ := DataW.trod_string (show Try.prog.underlying (Try.prog.fieldsOf 34)[1]!.type = some .string by kernel_rfl) (key 1 (by decide))
      have k2 := key 2 (by decide)
      rw [show (Try.prog.fieldsOf 34)[2]!.type = 32 by kernel_rfl] at k2
      obtain ⟨n3, e3, x3, w3⟩ := DataW.trod_int (show Try.prog.underlying (Try.prog.fieldsOf 34)[3]!.type = some (.int .i64) by kernel_rfl) (key 3 (by decide))
      obtain ⟨b4, e4, x4⟩ := DataW.trod_bool (show Try.prog.underlying (Try.prog.fieldsOf 34)[4]!.type = some .bool by kernel_rfl) (key 4 (by decide))
      have hd : d = .agg [y0.1, y1.1, y2.1, y3.1, y4.1] := by simpa using congrArg Prod.fst hx
      rw [hd] at hb
      simp only [Rows.uptoBulk, Rows.uptoBulkAll] at hb
      obtain ⟨G, hF, hG, hl, hy⟩ := FArg.fields_core (d := y2.1) (p := y2.2) k2 (by omega)
      have hs1 : s1.size ≤ 1048576 := str_size (y := y1) x1 (by omega)
      refine ⟨n0, s1, c2, n3, b4, G, ?_, ⟨wf_in w0, hs1, wf_in w3, hF, hG, hl, hy⟩⟩
      unfold callV
      obtain rfl : c0 = .int .i64 n0 := by simpa using e0
      obtain rfl : c1 = .string s1 := by simpa using e1
      obtain rfl : c3 = .int .i64 n3 := by simpa using e3
      obtain rfl : c4 = .bool b4 := by simpa using e4
      rfl
end
end Go.Proofs.Ytfdpoibmlggfbaa.CallArg

/- Layer 16: what FilterGuards asks, over the state of a fresh chain. No program is named. -/
namespace Go.Proofs.Ytfdpoibmlggfbaa.FiltGuard
open Bytes LexPure PathPure ConfPure ConfBack FieldsPure BucketPure FilterPure FiltState
set_option maxRecDepth 20000
set_option linter.unusedVariables false
section
variable {dv dn : Int → Int}
theorem fresh (fs : List Filt) (d now : Int) (h0 : 0 ≤ now) (h1 : now ≤ 1099511627776) (method : L) (size : Int) (G : List HField) :
    req16 dv dn (start16 fs d) now method size G = ((run16 dv dn now method size fs (fs.map bk16) d G).1, 0) := by
  unfold req16
  rw [if_neg (by unfold refused start16; show ¬ (now < 0 ∨ _); omega)]
  rfl
theorem fresh_stop (fs : List Filt) (hr : ∀ f ∈ fs, filtB f = true) (d now : Int) (h0 : 0 ≤ now) (h1 : now ≤ 1099511627776) (method : L) (size : Int) (G : List HField) (hs : (req16 dv dn (start16 fs d) now method size G).1.stop = true) :
    (req16 dv dn (start16 fs d) now method size G).1.pass = [] ∧ (((req16 dv dn (start16 fs d) now method size G).1.status = 200 ∧ method = OPTIONS) ∨ (400 ≤ (req16 dv dn (start16 fs d) now method size G).1.status ∧ (req16 dv dn (start16 fs d) now method size G).1.status ≤ 599)) := by
  rw [fresh fs d now h0 h1] at hs ⊢
  exact guards_stop fs _ d G hr hs
/-- whether a filter behind sets fields -/
def later (fs : List Filt) (i : Nat) : Bool := (fs.drop (i + 1)).any fun g => decide (g.kind = 1)
theorem later_none {fs : List Filt} {i : Nat} (h : later fs i = false) : ∀ g ∈ fs.drop (i + 1), g.kind ≠ 1 := fun g hg e => by
  unfold later at h
  rw [List.any_eq_false] at h
  exact h g hg (by rw [e]; rfl)
theorem fresh_pass (hd : ∀ s, 0 ≤ dv s ∧ dv s < 100) (fs : List Filt) (d now : Int) (h0 : 0 ≤ now) (h1 : now ≤ 1099511627776) (method : L) (size : Int) (G : List HField) (hs : (req16 dv dn (start16 fs d) now method size G).1.stop = false) :
    ((req16 dv dn (start16 fs d) now method size G).1.status = 0 ∧ (req16 dv dn (start16 fs d) now method size G).1.body = [] ∧ (req16 dv dn (start16 fs d) now method size G).1.fields = []) ∧
    ∀ i (hi : i < fs.length), (fs[i].kind = 6 → size ≤ fs[i].n) ∧ (fs[i].kind = 7 → fs[i].n ≠ 100) ∧ ((fs[i].kind = 2 ∨ fs[i].kind = 4) → later fs i = false → getN (req16 dv dn (start16 fs d) now method size G).1.pass fs[i].name = 0) := by
  rw [fresh fs d now h0 h1] at hs ⊢
  obtain ⟨a1, a2⟩ := guards_pass hd fs (fs.map bk16) d G (by simp) hs
  exact ⟨a1, fun i hi => ⟨(a2 i hi).1, (a2 i hi).2.1, fun h hl => (a2 i hi).2.2 h (later_none hl)⟩⟩
/-- a step of the law's inner loop: the first j of those behind -/
theorem later_step (fs : List Filt) (j : Nat) (hj : j < fs.length) : (fs.take (j + 1)).any (fun g => decide (g.kind = 1)) = ((fs.take j).any (fun g => decide (g.kind = 1)) || decide (fs[j].kind = 1)) := by
  rw [List.take_succ_eq_append_getElem hj, List.any_append]
  simp
end
end Go.Proofs.Ytfdpoibmlggfbaa.FiltGuard

/- An argument that is a list of filters: it has room for what it holds. -/
namespace Go.Proofs.Ytfdpoibmlggfbaa.FiltCap
open Go.ChangeShapes Go.WideShapes Go.ChangeAt Go.RowKit Go.Deep LexPure Bytes Ret ConfMem
set_option maxRecDepth 100000
section
variable {H : Type} {enc : TypeId × Value → H} {W : World}
theorem cap_core {t e : TypeId} {v : Value} {d : DataW H} {p : List MemPlace} {fuel : Nat} (ht : Try.prog.underlying t = some (.slice e)) (hf : DataW.trod enc Try.prog W 0 (fun _ => true) true fuel t [v] = some (d, p)) : CapOk v := by
  intro q n cap hv
  subst hv
  rcases open_slice ht hf with ⟨h0, _⟩ | ⟨a, len, cap2, m, n2, D, Pl, hcs, hb, hl, hm, hmm, hx, hi⟩
  · injection h0 with h0
    injection h0 with h1 h2 h3
    omega
  · injection hcs with h0
    injection h0 with h1 h2 h3
    omega
theorem filts_cap {base : Nat} {v : Value} {d : DataW H} {p : List MemPlace} (hv : Value.okWide Try.prog W .any base 22 v) (h : DataW.Trod enc Try.prog W 0 (fun _ => true) true 22 v d p) : CapOk v := by
  obtain ⟨a0, len, cap, rfl⟩ := okWide_slice Try.underlying22 hv
  obtain ⟨fuel, hf⟩ := h
  exact cap_core Try.underlying22 (by simpa [Value.cells] using hf)
end
end Go.Proofs.Ytfdpoibmlggfbaa.FiltCap

/- What goes on behind a chain has passed every guard in it: FilterGuards returns true, for what comes in of bulk at most 1048576. -/
namespace Go.Proofs.Ytfdpoibmlggfbaa.FilterGuardsW
open Go.ChangeShapes Go.WideShapes Go.ChangeAt Go.RowKit Bytes LexPure ConfPure ConfMem FieldsPure Flds FilterPure FilterMore FiltState FiltKeep FiltObj L16Anchor L16Right L16Copy FiltBack RowsArg RouStep RowKeep Texts Ret Mem Step
set_option maxRecDepth 100000
set_option linter.unusedVariables false
set_option linter.unusedSimpArgs false
/-- what a law was handed, and stays -/
structure Hd (w : World) (vl : Value) (fs : List Filt) (vg : Value) (G : List HField) (W : World) : Prop where
  fi : Filts W vl fs
  fl : FL W vg G
  below : Below w.heap.size w W
theorem Hd.call {w W W' : World} {vl vg : Value} {fs : List Filt} {G : List HField} (x : Hd w vl fs vg G W) (hb : Below W.heap.size W W') : Hd w vl fs vg G W' := ⟨x.fi.below hb, x.fl.below hb, below_chain x.below hb⟩
theorem hd_of {w W : World} {vl vg : Value} {fs : List Filt} {G : List HField} (h1 : Filts w vl fs) (h2 : FL w vg G) (hb : Below w.heap.size w W) : Hd w vl fs vg G W := ⟨h1.below hb, h2.below hb, hb⟩
theorem own_lt {w : World} {base n size : Nat} {e : TypeId} {v : Value} {xs : List Value} (h : w.ownsRow base e size v n xs) (j : Nat) (hj : v.ownBlock = some j) : j < w.heap.size ∧ base ≤ j := by
  rcases h.2 with ⟨hv, _⟩ | ⟨g, cap, cur, hv, hb, hg, _⟩
  · rw [hv] at hj; cases hj
  · rw [hv] at hj
    have e : g = j := by simpa [Value.ownBlock] using hj
    subst e
    exact ⟨(Array.getElem?_eq_some_iff.1 hg).1, hb⟩
theorem fl_two (w : World) (a : ByteArray) (b : L) : FL (w.alloc (.cells #[.string a, .string (ofL b)] 54)) (.slice (some ⟨w.heap.size, 0, none⟩) 1 1) [(toL a, b)] :=
  ⟨_, _, rfl, Nat.le_of_ble_eq_true rfl, fun _ => ⟨w.heap.size, 0, rfl, by simp, fun j hj => by
    obtain rfl : j = 0 := by have : j < 1 := hj; omega
    rw [(Has.new w _ _).cell, (Has.new w _ _).cell]
    exact ⟨by show some (Value.string a) = some (.string (ofL (toL a))); rw [ofL_toL], rfl⟩⟩⟩
theorem few_two {b : L} (h : b.length ≤ 1048576) : Few [([108], b)] := fun j hj => by
  obtain rfl : j = 0 := by have : j < 1 := hj; omega
  exact ⟨by show 1 ≤ 1048576; decide, h⟩
structure Rp (w : World) (vl : Value) (fs : List Filt) (cb : Array Value) (V : Verd) (gv : Nat) (fl pl : Value) (wx : World) : Prop where
  vb : Has wx gv 38 (vrdA V fl pl)
  fl : ∃ p c, fl = .slice p V.fields.length c
  pl : FL wx pl V.pass
  fi : Filts wx vl fs
  cb : Has wx w.heap.size 34 cb
  below : Below w.heap.size w wx
theorem run_store_row {W : World} {r : Nat} {T : TypeId} {old : Array Value} (cs : Array Value) (h : Has W r T old) (hs : old.size = cs.size) (hcs : cs.all (·.oneCell') = true) : (storeCells ⟨r, 0, none⟩ cs.toList).run Try.prog W = .ok () (W.setRow r cs) := by
  have := run_storeCells_from (P := Try.prog) r T cs.toList 0 old W h.at_ (by simp; omega) (fun v hv => (Array.all_eq_true_iff_forall_mem.1 hcs) v (by simpa using hv))
  simpa using this
theorem vrd_cells (V : Verd) (p q : Option Addr) (n c m d : Nat) : (vrdA V (.slice p n c) (.slice q m d)).all (·.oneCell') = true := by simp [vrdA, Value.oneCell']
theorem Rp.call {w X Y : World} {vl : Value} {fs : List Filt} {cb : Array Value} {V : Verd} {gv : Nat} {fl pl : Value} (h : Rp w vl fs cb V gv fl pl X) (hb : Below X.heap.size X Y) : Rp w vl fs cb V gv fl pl Y :=
  ⟨h.vb.below hb h.vb.lt, h.fl, h.pl.below hb, h.fi.below hb, h.cb.below hb h.cb.lt, below_chain h.below hb⟩
theorem fl_step {X X' : World} {v : Value} {G : List HField} {P P' : Nat → Prop} (h : FL X v G) (hs : Step X X' P P') (hn : ∀ b, v.ownBlock = some b → ¬ P b) : FL X' v G := by
  obtain ⟨p, cap, hv, hle, hc⟩ := h
  refine ⟨p, cap, hv, hle, fun h0 => ?_⟩
  obtain ⟨g, o, hp, hlt, hcell⟩ := hc h0
  have hnb : ¬ P g := hn g (by rw [hv, hp]; rfl)
  exact ⟨g, o, hp, Nat.lt_of_lt_of_le hlt hs.size, fun j hj => ⟨(hs.cell hlt hnb).trans (hcell j hj).1, (hs.cell hlt hnb).trans (hcell j hj).2⟩⟩
theorem few_m {G : List HField} (h : Few G) : FewM G := fun f hf => by
  obtain ⟨j, hj, rfl⟩ := List.mem_iff_getElem.1 hf
  exact h j hj
theorem few_f {G : List HField} (h : FewM G) : Few G := fun j hj => h _ (List.getElem_mem hj)
theorem req_keep (fs : List Filt) (hr : ∀ f ∈ fs, filtB f = true) (d now : Int) (method : L) (size : Int) (G : List HField) (hG : FewM G) : (req16 dv16 dn16 (start16 fs d) now method size G).1.pass.length ≤ G.length + fs.length := by
  unfold req16
  split
  · exact Nat.zero_le _
  · exact (run_keep fs _ d G hr hG).2.2.2
set_option maxHeartbeats 6400000 in
theorem walkIn (fs : List Filt) (vl : Value) (hx : ∀ x ∈ fs, FitFilt x) (hfl : fs.length ≤ 1048576) (hfn : RowsArg.Nice vl fs.length) (hcap : CapOk vl) (seed : Int) (hsd : inI seed) (now : Int) (mt : ByteArray) (vg : Value) (size : Int) (back : Bool) (G : List HField) (w : World) (hFi : Filts w vl fs) (hc : CallArg.CallOk w now mt vg size G) :
    Calls Try.prog 4 #[vl, .int .i64 seed, .agg #[.int .i64 now, .string mt, vg, .int .i64 size, .bool back]] w fun e w' => e = .returned (.bool true) ∧ Below w.heap.size w w' := by
  obtain ⟨hnw, hmt, hsi, hF, hG, hgl, hgn⟩ := hc
  obtain ⟨i0, hi, hz0, hz1, hz2⟩ := info_parts infoFi
  have HAn := Lib.hid (fun w => anchor_any w)
  have HRi := Lib.hid (fun w h => right_any fs hx vl w h)
  have HB := Lib.hid (show Hd w vl fs vg G w from ⟨hFi, hF, Below.refl _ _⟩)
  obtain ⟨pf, cf, rfl, -, -⟩ := hFi.parts
  obtain ⟨pg, cg, rfl, -, -⟩ := id hF
  have hcf : fs.length ≤ cf := hcap _ _ _ rfl
  clear hcap
  have HX := Lib.hid hx
  have HF0 := Lib.hid (fun W hb => hd_of (W := W) hFi hF hb)
  have HN1 := Lib.hid hfn
  have HN2 := Lib.hid hgn
  have HG := Lib.hid hG
  clear hFi hF hx hfn hgn hG
  obtain ⟨b, hb⟩ : ∃ b, b = fs.all filtB := ⟨_, rfl⟩
  rw [← hb] at HRi
  have HBb := Lib.hid hb
  clear hb
  have ha0 := (Below.refl w.heap.size w).alloc (Nat.le_refl _) (.cells #[.int .i64 now, .string mt, .slice pg G.length cg, .int .i64 size, .bool back] 34)
  have HB0 := Lib.hid (HB.out.call ha0)
  have HC0 := Lib.hid (Has.new w 34 #[.int .i64 now, .string mt, .slice pg G.length cg, .int .i64 size, .bool back])
  clear ha0 HB
  go_enter Try.func4, Try.ntmps4
  go_wp2_with fail
  refine (HAn.out _).mono ?_
  rintro e w1 ⟨rfl, hb1⟩
  have HB1 := Lib.hid (HB0.out.call hb1)
  have HC1 := Lib.hid (HC0.out.below hb1 HC0.out.lt)
  clear hb1 HAn HB0 HC0
  go_wp2_with fail
  refine (HRi.out w1 HB1.out.fi).mono ?_
  rintro e w2 ⟨rfl, hb2⟩
  have HB2 := Lib.hid (HB1.out.call hb2)
  have HC2 := Lib.hid (HC1.out.below hb2 HC1.out.lt)
  have d0 : w2.cell? ⟨w.heap.size, 0, none⟩ = some (.int .i64 now) := HC2.out.cell 0
  clear hb2 HRi HB1 HC1
  cases b
  · go_wp2_with fail
    go_ret
    exact ⟨rfl, HB2.out.below⟩
  by_cases hn0 : now < 0
  · go_wp2_with fail
    go_ret
    exact ⟨rfl, HB2.out.below⟩
  by_cases hn1 : 1099511627776 < now
  · go_wp2_with fail
    go_ret
    exact ⟨rfl, HB2.out.below⟩
  have HR : Hid (∀ f ∈ fs, filtB f = true) := Lib.hid (List.all_eq_true.1 HBb.out.symm)
  have hF2 := (HB2.out.call ((Below.refl w2.heap.size w2).alloc (Nat.le_refl _) (.cells #[] 29))).fi
  have hsz : w2.heap.size ≤ (w2.alloc (.cells #[] 29)).heap.size := by simp
  have hown := ownsFi_none w2 w2.heap.size (Nat.le_refl _)
  go_wp2_with (at_builtin; refine wpList_append_rows rfl _ _ 22 rfl 29 i0 (.agg #[.int .i64 0, .string .empty, .string .empty, .int .i64 0, .int .i64 0, .int .i64 0]) 6 64 Try.underlying22 hi hz0 hz1 hz2 rfl (by decide) w2.heap.size (.slice (some ⟨w2.heap.size, 0, none⟩) 0 0) 0 [] rfl hown (.slice pf fs.length cf) fs.length _ rfl hF2 HN1.out (encFi fs) (fi_len fs) (fun i hi j hj => fi_get fs i hi j hj) (fi_cells fs) (by unfold maxLen; omega) (by omega) hsz ?_; intro v4 w4 hown4 hg4 _)
  obtain ⟨hrow, hb4⟩ := copiedFi hown4 hg4
  have HV := Lib.hid (filts_of hrow)
  have HB4 := Lib.hid (HB2.out.call hb4)
  have HC4 := Lib.hid (HC2.out.below hb4 HC2.out.lt)
  obtain ⟨p4, c4, rfl, -, -⟩ := HV.out.parts
  clear hrow hb4 hown4 hg4 hF2 hsz hown HB2 HC2 d0 hi hz0 hz1 hz2
  go_wp2_with fail
  refine (pnew16 fs HR.out (by omega) seed hsd _ w4 HV.out).mono ?_
  rintro e w5 ⟨⟨g, F, rfl, hch, hlo⟩, hb5⟩
  obtain ⟨s0, hs0⟩ : ∃ s0, Hid (s0 = start16 fs (seed16 seed)) := ⟨_, Lib.hid rfl⟩
  rw [← hs0.out] at hch
  have HLn : Hid (s0.fs = fs) := Lib.hid (by rw [hs0.out]; rfl)
  have L5 := Lib.hid (show Lc w F g s0 w5 from ⟨hch, fun k hk => Nat.le_trans HB4.out.below.size (hlo k hk), (HB4.out.call hb5).below⟩)
  have HC5 := Lib.hid (HC4.out.below hb5 HC4.out.lt)
  obtain ⟨V, hV⟩ : ∃ V, Hid (V = (req16 dv16 dn16 s0 now (toL mt) size G).1) := ⟨_, Lib.hid rfl⟩
  have HE0 : Hid (req16 dv16 dn16 s0 now (toL mt) size G = (V, 0)) := Lib.hid (by rw [hV.out, hs0.out, FiltGuard.fresh fs _ now (by omega) (by omega)])
  have HFew := Lib.hid (few_m HG.out)
  have HLO : Hid (∀ k, F k → w4.heap.size ≤ k) := Lib.hid hlo
  have hbw4 : w.heap.size < w4.heap.size := HC4.out.lt
  have hbw5 : w4.heap.size ≤ w5.heap.size := hb5.size
  have HL5 := Lib.hid L5.out.ch.lt
  clear hch hlo hb5 HB4 HV HC4
  have HPL : Hid (V.pass.length ≤ 4398046511104) := Lib.hid (by rw [hV.out, hs0.out]; have := req_keep fs HR.out (seed16 seed) now (toL mt) size G HFew.out; omega)
  have HBel : Hid (Below w.heap.size w w5) := Lib.hid L5.out.below
  have HSS : Hid (∀ X, Has X w.heap.size 34 #[.int .i64 now, .string mt, .slice pg G.length cg, .int .i64 size, .bool back] → X.cell? ⟨w.heap.size, 0, none⟩ = some (.int .i64 now) ∧ X.cell? ⟨w.heap.size, 1, none⟩ = some (.string mt) ∧ X.cell? ⟨w.heap.size, 2, none⟩ = some (.slice pg G.length cg) ∧ X.cell? ⟨w.heap.size, 3, none⟩ = some (.int .i64 size)) := Lib.hid (fun X h => ⟨h.cell 0, h.cell 1, h.cell 2, h.cell 3⟩)
  have HFX : Hid (∀ X, Below w5.heap.size w5 X → Filts X (.slice pf fs.length cf) fs ∧ FL X (.slice pg G.length cg) G ∧ Below w.heap.size w X) := Lib.hid (fun X h => by have hb := below_chain HBel.out h; have := HF0.out X hb; exact ⟨this.fi, this.fl, hb⟩)
  have HCX : Hid (∀ X, Below w5.heap.size w5 X → Has X w.heap.size 34 #[.int .i64 now, .string mt, .slice pg G.length cg, .int .i64 size, .bool back]) := Lib.hid (fun X h => HC5.out.below h HC5.out.lt)
  have HRQ : Hid (∀ X v, Below w5.heap.size w5 X → X.ownsRow w5.heap.size 54 2 v G.length (encFs G) → Calls Try.prog 16 #[.pointer (some ⟨g, 0, none⟩), .int .i64 now, .string mt, v, .int .i64 size] X fun e w' => ReqC X w' e F g (V, 0) (nxt16 dv16 dn16 s0 now (toL mt) size G)) := Lib.hid (fun X v hb hr => by
    have h := preq16 F g s0 now ⟨by omega, by omega⟩ mt (by omega) size hsi v G HFew.out (by rw [HLn.out]; omega) X (L5.out.call hb).ch (fl_of hr (by omega))
    rw [HE0.out] at h
    exact h)
  have HDone : Hid (∀ X Y fl pl F', Below w5.heap.size w5 X → Lst Y X.heap.size fl V.fields → Lst Y X.heap.size pl V.pass → Step X Y F F' → ∀ gv, w5.heap.size ≤ gv → Has Y gv 38 zV16 → Rp w (.slice pf fs.length cf) fs #[.int .i64 now, .string mt, .slice pg G.length cg, .int .i64 size, .bool back] V gv fl pl (Y.setRow gv (vrdA V fl pl))) := Lib.hid (fun X Y fl pl F' hb hl1 hl2 hs gv hgv hz => by
    obtain ⟨f1, f2, f3⟩ := HFX.out X hb
    have hF : ∀ k, F k → w4.heap.size ≤ k ∧ k < w5.heap.size := fun k hk => ⟨HLO.out k hk, HL5.out k hk⟩
    have hbXY : Below w.heap.size X Y := hs.below (Nat.le_trans HBel.out.size hb.size) (fun k hk => by have := (hF k hk).1; omega)
    have s5 : Step Y (Y.setRow gv (vrdA V fl pl)) (fun k => k = gv) (fun k => k = gv) := step_set _ rfl
    have hbE : Below w.heap.size w (Y.setRow gv (vrdA V fl pl)) := (f3.trans hbXY).trans (s5.below (Nat.le_trans f3.size hbXY.size) (fun k hk => by omega))
    obtain ⟨p1, c1, e1, -⟩ := RowKeep.row_form hl1
    refine ⟨has_set hz _, ⟨p1, c1, e1⟩, ?_, ?_, has_other (hs.has (HCX.out X hb) (fun hk => by have := (hF _ hk).1; omega)) _ (by omega), hbE⟩
    · refine fl_step (fl_of hl2 HPL.out) s5 (fun b hb2 e2 => ?_)
      exact row_ne hl2 hz (by decide) (by rw [hb2, e2])
    · exact (HF0.out _ hbE).fi)
  have sz5 : (w5.alloc (.cells #[] 54)).heap.size = w5.heap.size + 1 := World.size_alloc _ _
  have sz6 : (w5.alloc (.cells #[.bool false, .int .i64 0, .slice none 0 0, .string ⟨#[]⟩, .slice none 0 0] 38)).heap.size = w5.heap.size + 1 := World.size_alloc _ _
  have HNice := HN2
  clear HX HN1
  go_upto_region 8 with fail
  go_cut [8, 9] (fun s8 s9 wx => ∃ gv fl pl, s8 = .pointer (some ⟨gv, 0, none⟩) ∧ s9 = .int .i64 0 ∧ Hid (Rp w (.slice pf fs.length cf) fs #[.int .i64 now, .string mt, .slice pg G.length cg, .int .i64 size, .bool back] V gv fl pl wx))
  case first =>
    have bE : Below w5.heap.size w5 (w5.alloc (.cells #[] 54)).drew := ((Below.refl w5.heap.size w5).alloc (Nat.le_refl _) (.cells #[] 54)).drew
    have bZ : Below w5.heap.size w5 (w5.alloc (.cells #[.bool false, .int .i64 0, .slice none 0 0, .string ⟨#[]⟩, .slice none 0 0] 38)).drew := ((Below.refl w5.heap.size w5).alloc (Nat.le_refl _) (.cells #[.bool false, .int .i64 0, .slice none 0 0, .string ⟨#[]⟩, .slice none 0 0] 38)).drew
    have bEZ : Below w5.heap.size w5 ((w5.alloc (.cells #[] 54)).alloc (.cells #[.bool false, .int .i64 0, .slice none 0 0, .string ⟨#[]⟩, .slice none 0 0] 38)).drew := (((Below.refl w5.heap.size w5).alloc (Nat.le_refl _) (.cells #[] 54)).alloc (by rw [sz5]; omega) (.cells #[.bool false, .int .i64 0, .slice none 0 0, .string ⟨#[]⟩, .slice none 0 0] 38)).drew
    have bZE : Below w5.heap.size w5 ((w5.alloc (.cells #[.bool false, .int .i64 0, .slice none 0 0, .string ⟨#[]⟩, .slice none 0 0] 38)).alloc (.cells #[] 54)).drew := (((Below.refl w5.heap.size w5).alloc (Nat.le_refl _) (.cells #[.bool false, .int .i64 0, .slice none 0 0, .string ⟨#[]⟩, .slice none 0 0] 38)).alloc (by rw [sz6]; omega) (.cells #[] 54)).drew
    have s0 := HSS.out _ (HC5.out.drew)
    have sE := HSS.out _ (HCX.out _ bE)
    have sZ := HSS.out _ (HCX.out _ bZ)
    have sEZ := HSS.out _ (HCX.out _ bEZ)
    have sZE := HSS.out _ (HCX.out _ bZE)
    have oE : (w5.alloc (.cells #[] 54)).drew.ownsRow w5.heap.size 54 2 (.slice (some ⟨w5.heap.size, 0, none⟩) 0 0) 0 [] := FRow.owns_none w5 _ _ (Nat.le_refl _)
    have oEZ : ((w5.alloc (.cells #[] 54)).alloc (.cells #[.bool false, .int .i64 0, .slice none 0 0, .string ⟨#[]⟩, .slice none 0 0] 38)).drew.ownsRow w5.heap.size 54 2 (.slice (some ⟨w5.heap.size, 0, none⟩) 0 0) 0 [] := RowKeep.row_below (FRow.owns_none w5 54 _ (Nat.le_refl _)) ((Below.refl _ _).alloc (Nat.le_refl _) (.cells #[.bool false, .int .i64 0, .slice none 0 0, .string ⟨#[]⟩, .slice none 0 0] 38)).drew
    have oZE : ((w5.alloc (.cells #[.bool false, .int .i64 0, .slice none 0 0, .string ⟨#[]⟩, .slice none 0 0] 38)).alloc (.cells #[] 54)).drew.ownsRow w5.heap.size 54 2 (.slice (some ⟨w5.heap.size + 1, 0, none⟩) 0 0) 0 [] := by have := FRow.owns_none (w5.alloc (.cells #[.bool false, .int .i64 0, .slice none 0 0, .string ⟨#[]⟩, .slice none 0 0] 38)) 54 w5.heap.size (by rw [sz6]; omega); rw [sz6] at this; exact this
    have zEZ : Has ((w5.alloc (.cells #[] 54)).alloc (.cells #[.bool false, .int .i64 0, .slice none 0 0, .string ⟨#[]⟩, .slice none 0 0] 38)).drew (w5.heap.size + 1) 38 zV16 := by have := (Has.new (w5.alloc (.cells #[] 54)) 38 zV16).drew; rw [sz5] at this; exact this
    have zZE : Has ((w5.alloc (.cells #[.bool false, .int .i64 0, .slice none 0 0, .string ⟨#[]⟩, .slice none 0 0] 38)).alloc (.cells #[] 54)).drew w5.heap.size 38 zV16 := ((Has.new w5 38 zV16).alloc (.cells #[] 54)).drew
    clear HBel L5 HC5 HLn
    go_region_held3 (fun w' => w'.cell? ⟨w.heap.size, 0, none⟩ = some (.int .i64 now) ∧ w'.cell? ⟨w.heap.size, 1, none⟩ = some (.string mt) ∧ w'.cell? ⟨w.heap.size, 2, none⟩ = some (.slice pg G.length cg) ∧ w'.cell? ⟨w.heap.size, 3, none⟩ = some (.int .i64 size)) (first | exact s9 | exact s8 | exact s8a | exact s7 | exact s7z | exact sE | exact sZ | exact sEZ | exact sZE | exact s0)
        (first
          | (refine step_append_list (by rfl) (.tmp 45) (.tmp 47) (by rfl) w5.heap.size (.slice (some ⟨w5.heap.size, 0, none⟩) 0 0) 0 [] (by rfl) oE (.slice pg G.length cg) G (by rfl) (HFX.out _ bE).2.1 HNice.out (by omega) bE.size ?_; intro v7 w7 ho7 hg7
             rw [Nat.zero_add, List.nil_append] at ho7
             have bel7 : Below w5.heap.size w5 w7 := bE.grown hg7 bE.size (fun k e => by have e2 : some (w5.heap.size) = some k := e; injection e2 with e2; omega)
             obtain ⟨p7, c7, rfl, -⟩ := RowKeep.row_form ho7
             have s7 := HSS.out _ (HCX.out _ bel7)
             have bel7z : Below w5.heap.size w5 (w7.alloc (.cells #[.bool false, .int .i64 0, .slice none 0 0, .string ⟨#[]⟩, .slice none 0 0] 38)) := bel7.alloc bel7.size (.cells #[.bool false, .int .i64 0, .slice none 0 0, .string ⟨#[]⟩, .slice none 0 0] 38)
             have o7z := RowKeep.row_below ho7 ((Below.refl w7.heap.size w7).alloc (Nat.le_refl _) (.cells #[.bool false, .int .i64 0, .slice none 0 0, .string ⟨#[]⟩, .slice none 0 0] 38))
             have z7z := Has.new w7 38 zV16
             have s7z := HSS.out _ (HCX.out _ bel7z)
             have hz7 : w5.heap.size ≤ w7.heap.size := bel7.size
             clear hg7)
          | (refine step_append_list (by rfl) (.tmp 45) (.tmp 47) (by rfl) w5.heap.size (.slice (some ⟨w5.heap.size, 0, none⟩) 0 0) 0 [] (by rfl) oEZ (.slice pg G.length cg) G (by rfl) (HFX.out _ bEZ).2.1 HNice.out (by omega) bEZ.size ?_; intro v7 w7 ho7 hg7
             rw [Nat.zero_add, List.nil_append] at ho7
             have bel7 : Below w5.heap.size w5 w7 := bEZ.grown hg7 bEZ.size (fun k e => by have e2 : some (w5.heap.size) = some k := e; injection e2 with e2; omega)
             obtain ⟨p7, c7, rfl, -⟩ := RowKeep.row_form ho7
             have s7 := HSS.out _ (HCX.out _ bel7)
             have z7b := zEZ.grown hg7 (fun e => by have e2 : some (w5.heap.size + 1) = some w5.heap.size := e; injection e2 with e2; omega)
             clear hg7)
          | (refine step_append_list (by rfl) (.tmp 45) (.tmp 47) (by rfl) w5.heap.size (.slice (some ⟨w5.heap.size + 1, 0, none⟩) 0 0) 0 [] (by rfl) oZE (.slice pg G.length cg) G (by rfl) (HFX.out _ bZE).2.1 HNice.out (by omega) bZE.size ?_; intro v7 w7 ho7 hg7
             rw [Nat.zero_add, List.nil_append] at ho7
             have bel7 : Below w5.heap.size w5 w7 := bZE.grown hg7 bZE.size (fun k e => by have e2 : some (w5.heap.size + 1) = some k := e; injection e2 with e2; omega)
             obtain ⟨p7, c7, rfl, -⟩ := RowKeep.row_form ho7
             have s7 := HSS.out _ (HCX.out _ bel7)
             have z7c := zZE.grown hg7 (fun e => by have e2 : some w5.heap.size = some (w5.heap.size + 1) := e; injection e2 with e2; omega)
             clear hg7)
          | (go_at_call 16; (with_reducible refine (HRQ.out _ _ bel7z o7z).mono ?_); rintro e w8 ⟨fl, pl, F8, rfl, hfl, hpl, -, -, -, hst⟩
             obtain ⟨p8, c8, rfl, -⟩ := RowKeep.row_form hfl
             obtain ⟨q8, d8, rfl, -⟩ := RowKeep.row_form hpl
             have m8 := hst.has (HCX.out _ bel7z) (fun hk => by have := HLO.out _ hk; omega)
             have s8 := HSS.out _ m8
             have z8 := hst.has z7z (fun hk => by have := HL5.out _ hk; omega)
             have s9 := HSS.out _ (has_other (r := w7.heap.size) m8 (vrdA V (.slice p8 V.fields.length c8) (.slice q8 V.pass.length d8)) (by omega))
             have hsto := run_store_row (vrdA V (.slice p8 V.fields.length c8) (.slice q8 V.pass.length d8)) z8 rfl (vrd_cells ..)
             have HE := Lib.hid (HDone.out (w7.alloc (.cells #[.bool false, .int .i64 0, .slice none 0 0, .string ⟨#[]⟩, .slice none 0 0] 38)) w8 (.slice p8 V.fields.length c8) (.slice q8 V.pass.length d8) F8 bel7z hfl hpl hst w7.heap.size (by omega) z8)
             clear hst hfl hpl m8)
          | (go_at_call 16; (with_reducible refine (HRQ.out _ _ bel7 ho7).mono ?_); rintro e w8 ⟨fl, pl, F8, rfl, hfl, hpl, -, -, -, hst⟩
             obtain ⟨p8, c8, rfl, -⟩ := RowKeep.row_form hfl
             obtain ⟨q8, d8, rfl, -⟩ := RowKeep.row_form hpl
             have m8 := hst.has (HCX.out _ bel7) (fun hk => by have := HLO.out _ hk; omega)
             have s8 := HSS.out _ m8
             have z8 := hst.has z7b (fun hk => by have := HL5.out _ hk; omega)
             have s9 := HSS.out _ (has_other (r := (w5.heap.size + 1)) m8 (vrdA V (.slice p8 V.fields.length c8) (.slice q8 V.pass.length d8)) (by omega))
             have hsto := run_store_row (vrdA V (.slice p8 V.fields.length c8) (.slice q8 V.pass.length d8)) z8 rfl (vrd_cells ..)
             have HE := Lib.hid (HDone.out w7 w8 (.slice p8 V.fields.length c8) (.slice q8 V.pass.length d8) F8 bel7 hfl hpl hst (w5.heap.size + 1) (by omega) z8)
             clear hst hfl hpl m8)
          | (go_at_call 16; (with_reducible refine (HRQ.out _ _ bel7 ho7).mono ?_); rintro e w8 ⟨fl, pl, F8, rfl, hfl, hpl, -, -, -, hst⟩
             obtain ⟨p8, c8, rfl, -⟩ := RowKeep.row_form hfl
             obtain ⟨q8, d8, rfl, -⟩ := RowKeep.row_form hpl
             have m8 := hst.has (HCX.out _ bel7) (fun hk => by have := HLO.out _ hk; omega)
             have s8 := HSS.out _ m8
             have z8 := hst.has z7c (fun hk => by have := HL5.out _ hk; omega)
             have s9 := HSS.out _ (has_other (r := w5.heap.size) m8 (vrdA V (.slice p8 V.fields.length c8) (.slice q8 V.pass.length d8)) (by omega))
             have hsto := run_store_row (vrdA V (.slice p8 V.fields.length c8) (.slice q8 V.pass.length d8)) z8 rfl (vrd_cells ..)
             have HE := Lib.hid (HDone.out w7 w8 (.slice p8 V.fields.length c8) (.slice q8 V.pass.length d8) F8 bel7 hfl hpl hst w5.heap.size (by omega) z8)
             clear hst hfl hpl m8)
          | (go_at_call 16; (with_reducible refine (HRQ.out _ _ bel7 ho7).mono ?_); rintro e w8 ⟨fl, pl, F8, rfl, hfl, hpl, -, -, -, hst⟩
             obtain ⟨p8, c8, rfl, -⟩ := RowKeep.row_form hfl
             obtain ⟨q8, d8, rfl, -⟩ := RowKeep.row_form hpl
             have m8 := hst.has (HCX.out _ bel7) (fun hk => by have := HLO.out _ hk; omega)
             have s8 := HSS.out _ m8
             have m8a := m8.alloc (.cells #[.bool false, .int .i64 0, .slice none 0 0, .string ⟨#[]⟩, .slice none 0 0] 38)
             have s8a := HSS.out _ m8a
             have z8 := Has.new w8 38 zV16
             have hs8 : w5.heap.size ≤ w8.heap.size := Nat.le_trans bel7.size hst.size
             have s9 := HSS.out _ (has_other (r := w8.heap.size) m8a (vrdA V (.slice p8 V.fields.length c8) (.slice q8 V.pass.length d8)) (Nat.ne_of_lt (Nat.lt_of_lt_of_le (Nat.lt_of_lt_of_le hbw4 hbw5) hs8)))
             have hsto := run_store_row (vrdA V (.slice p8 V.fields.length c8) (.slice q8 V.pass.length d8)) z8 rfl (vrd_cells ..)
             have hbz := (Below.refl w8.heap.size w8).alloc (Nat.le_refl _) (.cells #[.bool false, .int .i64 0, .slice none 0 0, .string ⟨#[]⟩, .slice none 0 0] 38)
             have HE := Lib.hid (HDone.out w7 (w8.alloc (.cells #[.bool false, .int .i64 0, .slice none 0 0, .string ⟨#[]⟩, .slice none 0 0] 38)) (.slice p8 V.fields.length c8) (.slice q8 V.pass.length d8) F8 bel7 (RowKeep.row_below hfl hbz) (RowKeep.row_below hpl hbz) (hst.trans (Step.of_below hbz F8)) w8.heap.size hs8 z8)
             clear hst hfl hpl m8 m8a hbz))
    all_goals
      go_wp2_with fail
      go_meet
      exact ⟨_, _, _, rfl, rfl, HE⟩
  case rest =>
    obtain ⟨gv, fl, pl, rfl, rfl, HRp⟩ := hcut
    rename World => wx
    clear HSS HFX HCX HRQ HDone HBel HLO HL5 HF0
    obtain ⟨p8, c8, rfl⟩ := HRp.out.fl
    obtain ⟨q8, d8, rfl, -, -⟩ := id HRp.out.pl
    have hd16 : ∀ s, 0 ≤ dv16 s ∧ dv16 s < 100 := fun s => by
      have := DiceObj.belowI_bd s 100
      exact ⟨this.1, this.2.1 (by decide)⟩
    cases hs : V.stop
    · obtain ⟨⟨e1, e2, e3⟩, hall⟩ := FiltGuard.fresh_pass (dn := dn16) hd16 fs (seed16 seed) now (by omega) (by omega) (toL mt) size G (by rw [← hs0.out, ← hV.out]; exact hs)
      rw [← hs0.out, ← hV.out] at e1 e2 e3
      have HA : Hid (∀ i (hi : i < fs.length), (fs[i].kind = 6 → size ≤ fs[i].n) ∧ (fs[i].kind = 7 → fs[i].n ≠ 100) ∧ ((fs[i].kind = 2 ∨ fs[i].kind = 4) → FiltGuard.later fs i = false → getN V.pass fs[i].name = 0)) := Lib.hid (fun i hi => by have := hall i hi; rw [← hs0.out, ← hV.out] at this; exact this)
      have k0 : wx.cell? ⟨gv, 0, none⟩ = some (.bool false) := (HRp.out.vb.cell 0).trans (by show some (Value.bool V.stop) = _; rw [hs])
      have k1 : wx.cell? ⟨gv, 1, none⟩ = some (.int .i64 0) := (HRp.out.vb.cell 1).trans (by show some (Value.int .i64 V.status) = _; rw [e1])
      have k2 : wx.cell? ⟨gv, 2, none⟩ = some (.slice p8 0 c8) := (HRp.out.vb.cell 2).trans (by show some (Value.slice p8 V.fields.length c8) = _; rw [e3]; rfl)
      have k3 : wx.cell? ⟨gv, 3, none⟩ = some (.string ⟨#[]⟩) := (HRp.out.vb.cell 3).trans (by show some (Value.string (ofL V.body)) = _; rw [e2]; rfl)
      have HPassF : Hid (Few V.pass) := Lib.hid (by
        have := (run_keep (dv := dv16) (dn := dn16) (now := now) (method := toL mt) (size := size) fs (fs.map bk16) (seed16 seed) G HR.out HFew.out).2.2.1
        rw [hV.out, hs0.out, FiltGuard.fresh fs _ now (by omega) (by omega)]
        exact few_f this)
      clear e1 e2 e3 hall hs hd16
      have HR0 := HRp
      clear HRp
      go_wp2_with fail
      go_loopw [109] (fun i wr => ∃ k : Nat, k ≤ fs.length ∧ i = .int .i64 k ∧ Hid (Rp w (.slice pf fs.length cf) fs #[.int .i64 now, .string mt, .slice pg G.length cg, .int .i64 size, .bool back] V gv (.slice p8 V.fields.length c8) (.slice q8 V.pass.length d8) wr)) (fun i _ => fs.length - (intOf i).toNat)
      case atStart => exact ⟨0, Nat.zero_le _, rfl, HR0⟩
      case round =>
        obtain ⟨k, hk, rfl, HRp⟩ := hrel
        clear HR0 k0 k1 k2 k3
        by_cases hlt : k < fs.length
        · have hki : (k : Int) < (fs.length : Int) := by omega
          obtain ⟨x, hx⟩ : ∃ x, x = fs[k] := ⟨_, rfl⟩
          obtain ⟨g0, o0, rfl, e0, e1, e2, e3, e4, e5⟩ := filt_at HRp.out.fi k hlt x hx
          have HAk := HA.out k hlt
          rw [← hx] at HAk
          obtain ⟨a6, a7, a24⟩ := HAk
          have HXF := Lib.hid (HR.out x (by rw [hx]; exact List.getElem_mem hlt))
          have HXk := Lib.hid hx
          have hb1 := (Below.refl wr.heap.size wr).alloc (Nat.le_refl _) (.cells #[.int .i64 x.kind, .string (ofL x.name), .string (ofL x.value), .int .i64 x.n, .int .i64 x.m, .int .i64 x.k] 29)
          have HR1 := Lib.hid (HRp.out.call hb1)
          have k3 : (wr.alloc (.cells #[.int .i64 x.kind, .string (ofL x.name), .string (ofL x.value), .int .i64 x.n, .int .i64 x.m, .int .i64 x.k] 29)).cell? ⟨w.heap.size, 3, none⟩ = some (.int .i64 size) := HR1.out.cb.cell 3
          have HB1 := Lib.hid (Has.new wr 29 #[.int .i64 x.kind, .string (ofL x.name), .string (ofL x.value), .int .i64 x.n, .int .i64 x.m, .int .i64 x.k])
          have hz : (((x.kind : Int) == 6) = true ∧ ((x.kind : Int) == 7) = false ∧ ¬ x.n < size) ∨ (((x.kind : Int) == 6) = false ∧ ((x.kind : Int) == 7) = true ∧ ((x.n : Int) == 100) = false) ∨ (((x.kind : Int) == 6) = false ∧ ((x.kind : Int) == 7) = false ∧ True) := by
            by_cases q6 : x.kind = 6
            · have := a6 q6
              exact .inl ⟨by rw [q6]; rfl, by rw [q6]; rfl, by omega⟩
            · by_cases q7 : x.kind = 7
              · exact .inr (.inl ⟨by rw [q7]; rfl, by rw [q7]; rfl, by rw [beq_eq_false_iff_ne]; exact a7 q7⟩)
              · exact .inr (.inr ⟨by rw [beq_eq_false_iff_ne]; exact q6, by rw [beq_eq_false_iff_ne]; exact q7, trivial⟩)
          have HA24 := Lib.hid a24
          have k1 : k + 1 ≤ fs.length := hlt
          have k2 : ((k : Int) + 1) ≤ (fs.length : Int) := by omega
          have k4 : ((k : Int) + 1).toNat = k + 1 := by omega
          clear a6 a7 a24 hb1 hx
          have HLt : Hid (FiltGuard.later fs k = ((fs.drop (k + 1)).take (fs.length - (k + 1))).any fun g => decide (g.kind = 1)) := Lib.hid (by unfold FiltGuard.later; rw [List.take_of_length_le (by rw [List.length_drop]; omega)])
          have hz2 : Hid (cf = k + 1) ∨ (k + 1 < cf ∧ ((cf : Int) == (k : Int) + 1) = false ∧ (cf == k + 1) = false) := by
            by_cases q : cf = k + 1
            · exact .inl (Lib.hid q)
            · exact .inr ⟨by omega, by rw [beq_eq_false_iff_ne]; omega, by rw [beq_eq_false_iff_ne]; omega⟩
          rcases hz with ⟨t6, t7, t8⟩ | ⟨t6, t7, t8⟩ | ⟨t6, t7, -⟩
          all_goals
            rcases hz2 with q | ⟨q1, q2, q3⟩
            · obtain rfl := q.out
              go_wp2_with fail
              clear t6 t7 e0 e1 e2 e3 e4 e5 k3
              generalize hBx : wr.heap.size = Bx at *
              generalize (wr.alloc _) = W1 at *
              go_loopw [139, 12] (fun j l wi => j = .int .i64 0 ∧ l = .bool false ∧ Hid (Rp w (.slice (some ⟨g0, o0, none⟩) fs.length (k + 1)) fs #[.int .i64 now, .string mt, .slice pg G.length cg, .int .i64 size, .bool back] V gv (.slice p8 V.fields.length c8) (.slice q8 V.pass.length d8) wi) ∧ Hid (Has wi Bx 29 #[.int .i64 x.kind, .string (ofL x.name), .string (ofL x.value), .int .i64 x.n, .int .i64 x.m, .int .i64 x.k])) (fun _ _ _ => 0)
              case atStart => exact ⟨rfl, rfl, HR1, HB1⟩
              case round =>
                obtain ⟨rfl, rfl, HRY, HBY⟩ := hrel
                clear HR1 HB1
                rename World => W4
                have HLo := 0
                have HLB : Hid (false = FiltGuard.later fs k) := Lib.hid (by rw [HLt.out, List.take_eq_nil_of_eq_nil (by rw [List.drop_eq_nil_iff]; omega)]; rfl)
                clear HLo
                have kp : W4.cell? ⟨gv, 4, none⟩ = some (.slice q8 V.pass.length d8) := HRY.out.vb.cell 4
                have kn : W4.cell? ⟨Bx, 1, none⟩ = some (.string (ofL x.name)) := HBY.out.cell 1
                go_wp2_with fail
                refine (R7Get.rget_any _ V.pass (ofL x.name) (by rw [ofL_size]; exact (right_len HXF.out).1) HPassF.out _ HRY.out.pl).mono ?_
                rintro e w9 ⟨rfl, hb9⟩
                rw [toL_ofL]
                have HR9 := Lib.hid (HRY.out.call hb9)
                have kk : w9.cell? ⟨Bx, 0, none⟩ = some (.int .i64 x.kind) := (HBY.out.below hb9 HBY.out.lt).cell 0
                clear hb9 HRY HBY kp kn
                have hfin : Hid (getN V.pass x.name = 0) ∨ (0 < getN V.pass x.name ∧ ((x.kind : Int) == 2) = false ∧ ((x.kind : Int) == 4) = false) := by
                  by_cases n0 : getN V.pass x.name = 0
                  · exact .inl (Lib.hid n0)
                  · refine .inr ⟨by omega, ?_, ?_⟩
                    · rw [beq_eq_false_iff_ne]; exact fun e => n0 (HA24.out (.inl e) HLB.out.symm)
                    · rw [beq_eq_false_iff_ne]; exact fun e => n0 (HA24.out (.inr e) HLB.out.symm)
                clear HLB HA24
                obtain ⟨nn, hnn⟩ : ∃ nn, Hid (nn = getN V.pass x.name) := ⟨_, Lib.hid rfl⟩
                obtain ⟨vn, hvn⟩ : ∃ vn, Hid (vn = getV V.pass x.name) := ⟨_, Lib.hid rfl⟩
                rw [← hnn.out] at hfin ⊢
                rw [← hvn.out]
                rcases hfin with n0 | ⟨n0, h2, h3⟩
                · obtain rfl := n0.out
                  go_wp2_with fail
                  go_roundw
                  case rel => exact ⟨k + 1, by omega, by go_num, HR9⟩
                  case measure => simp [intOf]; omega
                · go_wp2_with fail
                  go_roundw
                  case rel => exact ⟨k + 1, by omega, by go_num, HR9⟩
                  case measure => simp [intOf]; omega
            · skip
              go_wp2_with fail
              clear t6 t7 e0 e1 e2 e3 e4 e5 k3
              generalize hBx : wr.heap.size = Bx at *
              generalize (wr.alloc _) = W1 at *
              go_loopw [139, 12] (fun i l wi => ∃ j : Nat, j ≤ fs.length - (k + 1) ∧ i = .int .i64 j ∧ l = .bool (((fs.drop (k + 1)).take j).any fun g => decide (g.kind = 1)) ∧ Hid (Rp w (.slice (some ⟨g0, o0, none⟩) fs.length cf) fs #[.int .i64 now, .string mt, .slice pg G.length cg, .int .i64 size, .bool back] V gv (.slice p8 V.fields.length c8) (.slice q8 V.pass.length d8) wi) ∧ Hid (Has wi Bx 29 #[.int .i64 x.kind, .string (ofL x.name), .string (ofL x.value), .int .i64 x.n, .int .i64 x.m, .int .i64 x.k])) (fun i _ _ => (fs.length - (k + 1)) - (intOf i).toNat)
              case atStart => exact ⟨0, Nat.zero_le _, rfl, rfl, HR1, HB1⟩
              case round =>
                obtain ⟨j, hj, rfl, rfl, HRY, HBY⟩ := hrel
                clear HR1 HB1
                rename World => W4
                obtain ⟨LB, hLB⟩ : ∃ LB, Hid (LB = ((fs.drop (k + 1)).take j).any fun g => decide (g.kind = 1)) := ⟨_, Lib.hid rfl⟩
                rw [← hLB.out]
                by_cases hjl : j < fs.length - (k + 1)
                · have hji : (j : Int) < ((fs.length - (k + 1) : Nat) : Int) := by omega
                  obtain ⟨y, hy⟩ : ∃ y, y = fs[k + 1 + j]'(by omega) := ⟨_, rfl⟩
                  obtain ⟨g1, o1, eq1, y0, y1, y2, y3, y4, y5⟩ := filt_at HRY.out.fi (k + 1 + j) (by omega) y hy
                  injection eq1 with eq1
                  injection eq1 with eqa eqb
                  subst eqa eqb
                  have ea : o0 + (k + 1 + j) * 6 = o0 + (k + 1) * 6 + j * 6 := by omega
                  rw [ea] at y0 y1 y2 y3 y4 y5
                  have HLs : Hid (((fs.drop (k + 1)).take (j + 1)).any (fun g => decide (g.kind = 1)) = (LB || decide (y.kind = 1))) := Lib.hid (by
                    rw [FiltGuard.later_step (fs.drop (k + 1)) j (by rw [List.length_drop]; omega), hLB.out]
                    congr 2
                    rw [hy, List.getElem_drop])
                  have hb5 := (Below.refl W4.heap.size W4).alloc (Nat.le_refl _) (.cells #[.int .i64 y.kind, .string (ofL y.name), .string (ofL y.value), .int .i64 y.n, .int .i64 y.m, .int .i64 y.k] 29)
                  have HRZ := Lib.hid (HRY.out.call hb5)
                  have HBZ := Lib.hid (HBY.out.alloc (.cells #[.int .i64 y.kind, .string (ofL y.name), .string (ofL y.value), .int .i64 y.n, .int .i64 y.m, .int .i64 y.k] 29))
                  have hyk : ((y.kind : Int) == 1) = decide (y.kind = 1) := by
                    by_cases q : y.kind = 1
                    · rw [q]; rfl
                    · rw [decide_eq_false q, beq_eq_false_iff_ne]; exact q
                  clear ea hy hb5 HRY HBY hLB
                  cases hyb : decide (y.kind = 1)
                  all_goals
                    rw [hyb] at hyk HLs
                    clear hyb
                    cases LB
                    all_goals
                      go_wp2_with fail
                      go_roundw
                      case rel => exact ⟨j + 1, by omega, by go_num, by rw [HLs.out]; rfl, HRZ, HBZ⟩
                      case measure => simp [intOf]; omega
                · obtain rfl : j = fs.length - (k + 1) := by omega
                  have HLo := 0
                  have HLB : Hid (LB = FiltGuard.later fs k) := Lib.hid (by rw [HLt.out, hLB.out])
                  clear hLB
                  clear HLo
                  have kp : W4.cell? ⟨gv, 4, none⟩ = some (.slice q8 V.pass.length d8) := HRY.out.vb.cell 4
                  have kn : W4.cell? ⟨Bx, 1, none⟩ = some (.string (ofL x.name)) := HBY.out.cell 1
                  go_wp2_with fail
                  refine (R7Get.rget_any _ V.pass (ofL x.name) (by rw [ofL_size]; exact (right_len HXF.out).1) HPassF.out _ HRY.out.pl).mono ?_
                  rintro e w9 ⟨rfl, hb9⟩
                  rw [toL_ofL]
                  have HR9 := Lib.hid (HRY.out.call hb9)
                  have kk : w9.cell? ⟨Bx, 0, none⟩ = some (.int .i64 x.kind) := (HBY.out.below hb9 HBY.out.lt).cell 0
                  clear hb9 HRY HBY kp kn
                  have hfin : Hid (getN V.pass x.name = 0) ∨ (0 < getN V.pass x.name ∧ LB = true) ∨ (0 < getN V.pass x.name ∧ LB = false ∧ ((x.kind : Int) == 2) = false ∧ ((x.kind : Int) == 4) = false) := by
                    by_cases n0 : getN V.pass x.name = 0
                    · exact .inl (Lib.hid n0)
                    · cases hl : LB
                      · refine .inr (.inr ⟨by omega, rfl, ?_, ?_⟩)
                        · rw [beq_eq_false_iff_ne]; exact fun e => n0 (HA24.out (.inl e) (by rw [← hl]; exact HLB.out.symm))
                        · rw [beq_eq_false_iff_ne]; exact fun e => n0 (HA24.out (.inr e) (by rw [← hl]; exact HLB.out.symm))
                      · exact .inr (.inl ⟨by omega, rfl⟩)
                  clear HLB HA24
                  obtain ⟨nn, hnn⟩ : ∃ nn, Hid (nn = getN V.pass x.name) := ⟨_, Lib.hid rfl⟩
                  obtain ⟨vn, hvn⟩ : ∃ vn, Hid (vn = getV V.pass x.name) := ⟨_, Lib.hid rfl⟩
                  rw [← hnn.out] at hfin ⊢
                  rw [← hvn.out]
                  rcases hfin with n0 | ⟨n0, h1⟩ | ⟨n0, h1, h2, h3⟩
                  · obtain rfl := n0.out
                    go_wp2_with fail
                    go_roundw
                    case rel => exact ⟨k + 1, by omega, by go_num, HR9⟩
                    case measure => simp [intOf]; omega
                  · subst h1
                    go_wp2_with fail
                    go_roundw
                    case rel => exact ⟨k + 1, by omega, by go_num, HR9⟩
                    case measure => simp [intOf]; omega
                  · subst h1
                    go_wp2_with fail
                    go_roundw
                    case rel => exact ⟨k + 1, by omega, by go_num, HR9⟩
                    case measure => simp [intOf]; omega
        · go_wp2_with fail
          go_ret
          exact ⟨rfl, HRp.out.below⟩
    · obtain ⟨hp, hst⟩ := FiltGuard.fresh_stop (dv := dv16) (dn := dn16) fs HR.out (seed16 seed) now (by omega) (by omega) (toL mt) size G (by rw [← hs0.out, ← hV.out]; exact hs)
      rw [← hs0.out, ← hV.out] at hp hst
      have k0 : wx.cell? ⟨gv, 0, none⟩ = some (.bool true) := (HRp.out.vb.cell 0).trans (by show some (Value.bool V.stop) = _; rw [hs])
      have k1 : wx.cell? ⟨gv, 1, none⟩ = some (.int .i64 V.status) := HRp.out.vb.cell 1
      have k4 : wx.cell? ⟨gv, 4, none⟩ = some (.slice q8 0 d8) := (HRp.out.vb.cell 4).trans (by show some (Value.slice q8 V.pass.length d8) = _; rw [hp]; rfl)
      have k5 : wx.cell? ⟨w.heap.size, 1, none⟩ = some (.string mt) := HRp.out.cb.cell 1
      have HB9 := Lib.hid HRp.out.below
      obtain ⟨st, hst2⟩ : ∃ st, st = V.status := ⟨_, rfl⟩
      rw [← hst2] at k1 hst
      have hx : (((st : Int) == 200) = true ∧ (mt.toList == [79, 80, 84, 73, 79, 78, 83]) = true) ∨ (((st : Int) == 200) = false ∧ 400 ≤ st ∧ st ≤ 599) := by
        rcases hst with ⟨a, b⟩ | ⟨a, b⟩
        · refine .inl ⟨by rw [a]; rfl, ?_⟩
          rw [ByteArray.toList_eq, beq_iff_eq]; exact b
        · exact .inr ⟨by rw [beq_eq_false_iff_ne]; omega, a, b⟩
      clear hst hs hp hd16 hst2
      rcases hx with ⟨t1, t2⟩ | ⟨t1, t2, t3⟩
      · go_wp2_with fail
        go_ret
        exact ⟨rfl, HB9.out⟩
      · go_wp2_with fail
        go_ret
        exact ⟨rfl, HB9.out⟩
theorem walk {H : Type} {enc : TypeId × Value → H} {W : World} {base : Nat} (v : Value) (d : DataW H) (p : List MemPlace) (hv : Value.okWide Try.prog W .any base 22 v) (hd : DataW.Trod enc Try.prog W 0 (fun _ => true) true 22 v d p) (hl : ∀ x ∈ p, x.block < W.heap.size) (hb : Rows.uptoBulk d ≤ 1048576)
    (seed : Int) (hw : (Lit.int .i64 seed).wf = true)
    (v2 : Value) (d2 : DataW H) (p2 : List MemPlace) (hv2 : Value.okWide Try.prog W .any base 34 v2) (hd2 : DataW.Trod enc Try.prog W 0 (fun _ => true) true 34 v2 d2 p2) (hl2 : ∀ x ∈ p2, x.block < W.heap.size) (hb2 : Rows.uptoBulk d2 ≤ 1048576) :
    Calls Try.prog 4 #[v, .int .i64 seed, v2] W fun e w' => e = .returned (.bool true) ∧ Below W.heap.size W w' := by
  obtain ⟨fs, hF, hl1, hx, hs, hn⟩ := FiltArg.filts_arg hv hd hb
  have hcap := FiltCap.filts_cap hv hd
  obtain ⟨now, mt, vg, size, back, G, rfl, hc⟩ := CallArg.call_arg hv2 hd2 hb2
  exact walkIn fs v hx hl1 hn hcap seed (FiltArg.wf_in hw) now mt vg size back G W hF hc
end Go.Proofs.Ytfdpoibmlggfbaa.FilterGuardsW
