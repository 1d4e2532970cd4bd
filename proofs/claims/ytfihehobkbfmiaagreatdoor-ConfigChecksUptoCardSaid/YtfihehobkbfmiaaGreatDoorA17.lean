/- Texts of this seat, one behind another: PCfgZ, ConfObj. -/
import Derived.Test.YtfihehobkbfmiaaGreatDoorRows
import Derived.MakeChecks
import Derived.LaidSub
import Derived.Lib.LaidTab
import Derived.Test.YtfihehobkbfmiaaGreatDoorA16
import Derived.Test.YtfihehobkbfmiaaGreatDoorA15
import Derived.Test.YtfihehobkbfmiaaGreatDoorA9
/- Layer 14 of the program: Print, of a right config. -/
namespace Go.Proofs.YtfihehobkbfmiaaGreatDoor.PCfgZ
open Go.ChangeShapes Go.WideShapes Go.ChangeAt Go.RowKit Bytes LexPure EmitPure ConfPure ConfBack ConfLines ConfMem Ret Mem PBuildK PCfgLib PCfgT PCfgW PCfgX
set_option maxRecDepth 100000
set_option linter.unusedVariables false
set_option linter.unusedSimpArgs false
abbrev CT : TypeId := 26
/-- the config's box and the builder -/
structure Pn (w W0 : World) (c : Conf) (vf vc vv : Value) (acc : L) (W : World) : Prop where
  b0 : Has W0 w.heap.size CT (confV c vf vc vv)
  c0 : CF W0 vf vc vv c
  p0 : PCfgLib.Pow W0
  l0 : Below w.heap.size w W0
  bk : Bk W0 W0.heap.size acc W
section
variable {w W0 W W' : World} {c : Conf} {vf vc vv : Value} {acc : L}
theorem Pn.box (x : Pn w W0 c vf vc vv acc W) : Has W w.heap.size CT (confV c vf vc vv) := x.b0.below x.bk.2 x.b0.lt
theorem Pn.pw (x : Pn w W0 c vf vc vv acc W) : PCfgLib.Pow W := x.p0.below x.bk.2
theorem Pn.below (x : Pn w W0 c vf vc vv acc W) : Below w.heap.size w W := below_chain x.l0 x.bk.2
theorem Pn.call (x : Pn w W0 c vf vc vv acc W) (hb : Below W.heap.size W W') : Pn w W0 c vf vc vv acc W' := ⟨x.b0, x.c0, x.p0, x.l0, x.bk.keep hb⟩
theorem Pn.drew (x : Pn w W0 c vf vc vv acc W) : Pn w W0 c vf vc vv acc W.drew := x.call (below_drew (Below.refl _ _))
theorem Pn.text {acc' : L} (x : Pn w W0 c vf vc vv acc W) (hb : Bk W0 W0.heap.size acc' W') : Pn w W0 c vf vc vv acc' W' := ⟨x.b0, x.c0, x.p0, x.l0, hb⟩
theorem Pn.start {w : World} (hC : CF w vf vc vv c) (hp : PCfgLib.Pow w) : Pn w (w.alloc (.cells (confV c vf vc vv) CT)) c vf vc vv [] ((w.alloc (.cells (confV c vf vc vv) CT)).alloc (.cells #[.pointer none, .slice none 0 0] 63)) :=
  have ha := (Below.refl w.heap.size w).alloc (Nat.le_refl _) (.cells (confV c vf vc vv) CT)
  ⟨Has.new w _ _, hC.below ha, hp.below ha, ha, Bk.start _⟩
theorem ncells (x : Pn w W0 c vf vc vv acc W) : W.cell? ⟨w.heap.size, 0, none⟩ = some (.int .i64 c.conns) ∧ W.cell? ⟨w.heap.size, 1, none⟩ = some (.int .i64 c.body) ∧ W.cell? ⟨w.heap.size, 2, none⟩ = some (.int .i64 c.idle) ∧ W.cell? ⟨w.heap.size, 3, none⟩ = some (.int .i64 c.grace) ∧ W.cell? ⟨w.heap.size, 4, none⟩ = some (.int .i64 c.budget) ∧ W.cell? ⟨w.heap.size, 5, none⟩ = some (.int .i64 c.seed) :=
  have h := x.box
  ⟨h.cell 0, h.cell 1, h.cell 2, h.cell 3, h.cell 4, h.cell 5⟩
/-- and an item's box -/
structure Pi (w W0 : World) (c : Conf) (vf vc vv : Value) (acc : L) (gi : Nat) (t : TypeId) (cs : Array Value) (W : World) : Prop where
  pn : Pn w W0 c vf vc vv acc W
  it : Has W gi t cs
  hi : W0.heap.size < gi
variable {gi : Nat} {t : TypeId} {cs : Array Value}
theorem Pi.start (x : Pn w W0 c vf vc vv acc W) (t : TypeId) (cs : Array Value) : Pi w W0 c vf vc vv acc W.heap.size t cs (W.alloc (.cells cs t)) := ⟨x.call ((Below.refl _ _).alloc (Nat.le_refl _) _), Has.new _ _ _, x.bk.lt⟩
theorem Pi.call (x : Pi w W0 c vf vc vv acc gi t cs W) (hb : Below W.heap.size W W') : Pi w W0 c vf vc vv acc gi t cs W' := ⟨x.pn.call hb, x.it.below hb x.it.lt, x.hi⟩
theorem Pi.drew (x : Pi w W0 c vf vc vv acc gi t cs W) : Pi w W0 c vf vc vv acc gi t cs W.drew := x.call (below_drew (Below.refl _ _))
theorem Pi.text {acc' : L} (x : Pi w W0 c vf vc vv acc gi t cs W) (hb : Bk W0 W0.heap.size acc' W') (hk : Lib.OthersKept 5 (some W0.heap.size) W W') (ht : t ≠ 5) : Pi w W0 c vf vc vv acc' gi t cs W' := ⟨x.pn.text hb, has_others x.it hk (by have := x.hi; omega) ht, x.hi⟩
end
theorem fcells {w W0 W : World} {c : Conf} {vf vc vv : Value} {acc : L} {gi : Nat} {x : Filt} (h : Pi w W0 c vf vc vv acc gi 49 #[.int .i64 x.kind, .string (ofL x.name), .string (ofL x.value), .int .i64 x.n, .int .i64 x.m, .int .i64 x.k] W) : W.cell? ⟨gi, 0, none⟩ = some (.int .i64 x.kind) ∧ W.cell? ⟨gi, 1, none⟩ = some (.string (ofL x.name)) ∧ W.cell? ⟨gi, 2, none⟩ = some (.string (ofL x.value)) ∧ W.cell? ⟨gi, 3, none⟩ = some (.int .i64 x.n) ∧ W.cell? ⟨gi, 4, none⟩ = some (.int .i64 x.m) ∧ W.cell? ⟨gi, 5, none⟩ = some (.int .i64 x.k) :=
  ⟨h.it.cell 0, h.it.cell 1, h.it.cell 2, h.it.cell 3, h.it.cell 4, h.it.cell 5⟩
set_option maxHeartbeats 12800000 in
theorem pprint_any (c : Conf) (vf vc vv : Value) (hx : FitConf c) (hk : check14 c = 0) (w : World) (hp : PCfgLib.Pow w) (hC : CF w vf vc vv c) :
    Calls Tryz.prog 12 #[.agg (confV c vf vc vv)] w fun e w' => e = .returned (.string (ofL (print14 c))) ∧ Below w.heap.size w w' := by
  have hr := right_of hk
  have HX := Lib.hid hx
  have HR := Lib.hid hr
  have HN0 := Lib.hid (Pn.start hC hp)
  obtain ⟨⟨pf, cf, rfl⟩, ⟨pc, cc, rfl⟩, ⟨pv, cv, rfl⟩⟩ := R14Bnd.CF.vals hC
  have hfl := hx.filters.1
  have hcl := hx.clusters.1
  have hvl := hx.vhosts.1
  have hl0 : (textL [lineW LISTEN (listenW c)]).length ≤ 90000000000 := R14Print.part_len (B := c.filters.map (fun f => lineW FILTER (filtW f)) ++ (c.clusters.map (fun x => lineW CLUSTER (clusW x)) ++ c.vhosts.flatMap vhosLs)) hx hr rfl
  have hl1 : (lineW LISTEN (listenW c) ++ [10]).length ≤ 90000000000 := by simpa [textL] using hl0
  have hll : (lineW LISTEN (listenW c)).length ≤ 90000000000 := by rw [List.length_append] at hl1; omega
  have H0 := Lib.hid (fun w h => pdecimal_any c.conns hx.conns.1 hx.conns.2 w h)
  have H1 := Lib.hid (fun w h => pdecimal_any c.body hx.body.1 hx.body.2 w h)
  have H2 := Lib.hid (fun w h => pdecimal_any c.idle hx.idle.1 hx.idle.2 w h)
  have H3 := Lib.hid (fun w h => pdecimal_any c.grace hx.grace.1 hx.grace.2 w h)
  have H4 := Lib.hid (fun w h => pdecimal_any c.budget hx.budget.1 hx.budget.2 w h)
  have H5 := Lib.hid (fun w h => pdecimal_any c.seed hx.seed.1 hx.seed.2 w h)
  have HL : Hid (∀ W : World, Calls Tryz.prog 30 #[.slice (some ⟨W.heap.size, 0, none⟩) 7 7] (W.alloc (.cells #[.string ⟨#[108, 105, 115, 116, 101, 110]⟩, .string (ofL (decZ c.conns)), .string (ofL (decZ c.body)), .string (ofL (decZ c.idle)), .string (ofL (decZ c.grace)), .string (ofL (decZ c.budget)), .string (ofL (decZ c.seed))] 9)) fun e w' => e = .returned (.string (ofL (lineW LISTEN (listenW c) ++ [10]))) ∧ Below W.heap.size W w') := Lib.hid (fun W => pline_new LISTEN (listenW c) (by omega) (show 6 ≤ 1048000 by decide) W)
  have HV : Hid (textL [lineW LISTEN (listenW c)] = lineW LISTEN (listenW c) ++ [10]) := Lib.hid (by simp [textL])
  obtain ⟨LN, hLN⟩ : ∃ LN, LN = lineW LISTEN (listenW c) ++ [10] := ⟨_, rfl⟩
  rw [← hLN] at HL HV hl1
  obtain ⟨A0, hA0⟩ : ∃ A0, A0 = ofL (decZ c.conns) := ⟨_, rfl⟩
  rw [← hA0] at H0 HL
  obtain ⟨A1, hA1⟩ : ∃ A1, A1 = ofL (decZ c.body) := ⟨_, rfl⟩
  rw [← hA1] at H1 HL
  obtain ⟨A2, hA2⟩ : ∃ A2, A2 = ofL (decZ c.idle) := ⟨_, rfl⟩
  rw [← hA2] at H2 HL
  obtain ⟨A3, hA3⟩ : ∃ A3, A3 = ofL (decZ c.grace) := ⟨_, rfl⟩
  rw [← hA3] at H3 HL
  obtain ⟨A4, hA4⟩ : ∃ A4, A4 = ofL (decZ c.budget) := ⟨_, rfl⟩
  rw [← hA4] at H4 HL
  obtain ⟨A5, hA5⟩ : ∃ A5, A5 = ofL (decZ c.seed) := ⟨_, rfl⟩
  rw [← hA5] at H5 HL
  clear hA0 hA1 hA2 hA3 hA4 hA5 hx hr hk hC hp hl0 hll hLN
  obtain ⟨g, hg⟩ : ∃ g, g = w.heap.size := ⟨_, rfl⟩
  have HG := Lib.hid hg
  unfold confV at HN0 ⊢
  unfold CT at HN0
  generalize hW0 : w.alloc (.cells #[.int .i64 c.conns, .int .i64 c.body, .int .i64 c.idle, .int .i64 c.grace, .int .i64 c.budget, .int .i64 c.seed, .slice pf c.filters.length cf, .slice pc c.clusters.length cc, .slice pv c.vhosts.length cv] 26) = W0 at HN0
  have HW0 := Lib.hid hW0
  obtain ⟨b, hb⟩ : ∃ b, b = W0.heap.size := ⟨_, rfl⟩
  have HBb := Lib.hid hb
  have HB1 : Hid (w.heap.size + 1 = b) := Lib.hid (by rw [hb, ← hW0]; simp)
  clear hg hW0 hb
  go_enter Tryz.func12, Tryz.ntmps12
  go_wp2_with fail
  rw [HW0.out, HB1.out, ← HG.out]
  generalize (W0.alloc (.cells #[.pointer none, .slice none 0 0] 63)) = W1 at HN0 ⊢
  have P0 := HN0.out.drew
  have s0 := ncells P0
  rw [← HG.out] at s0
  go_region_held3 (fun w' => w'.cell? ⟨g, 0, none⟩ = some (.int .i64 c.conns) ∧ w'.cell? ⟨g, 1, none⟩ = some (.int .i64 c.body) ∧ w'.cell? ⟨g, 2, none⟩ = some (.int .i64 c.idle) ∧ w'.cell? ⟨g, 3, none⟩ = some (.int .i64 c.grace) ∧ w'.cell? ⟨g, 4, none⟩ = some (.int .i64 c.budget) ∧ w'.cell? ⟨g, 5, none⟩ = some (.int .i64 c.seed)) (first | exact s8 | exact s7 | exact (HG.out ▸ ncells (P6.call ((Below.refl _ _).alloc (Nat.le_refl _) _))) | exact s6 | exact s5 | exact s4 | exact s3 | exact s2 | exact s1 | exact s0)
    (first
      | (go_at_call 31; refine (H0.out _ P0.pw).mono ?_; rintro e v0 ⟨rfl, hb0⟩
         have P1 := P0.call hb0
         have s1 := ncells P1
         rw [← HG.out] at s1
         clear H0)
      | (go_at_call 31; refine (H1.out _ P1.pw).mono ?_; rintro e v1 ⟨rfl, hb1⟩
         have P2 := P1.call hb1
         have s2 := ncells P2
         rw [← HG.out] at s2
         clear H1)
      | (go_at_call 31; refine (H2.out _ P2.pw).mono ?_; rintro e v2 ⟨rfl, hb2⟩
         have P3 := P2.call hb2
         have s3 := ncells P3
         rw [← HG.out] at s3
         clear H2)
      | (go_at_call 31; refine (H3.out _ P3.pw).mono ?_; rintro e v3 ⟨rfl, hb3⟩
         have P4 := P3.call hb3
         have s4 := ncells P4
         rw [← HG.out] at s4
         clear H3)
      | (go_at_call 31; refine (H4.out _ P4.pw).mono ?_; rintro e v4 ⟨rfl, hb4⟩
         have P5 := P4.call hb4
         have s5 := ncells P5
         rw [← HG.out] at s5
         clear H4)
      | (go_at_call 31; refine (H5.out _ P5.pw).mono ?_; rintro e v5 ⟨rfl, hb5⟩
         have P6 := P5.call hb5
         have s6 := ncells P6
         rw [← HG.out] at s6
         clear H5)
      | (go_at_call 30; refine (HL.out _).mono ?_; rintro e v6 ⟨rfl, hb6⟩
         have P7 := P6.call hb6
         have s7 := ncells P7
         rw [← HG.out] at s7)
      | (go_at_call 29; rw [HBb.out]; refine (bk_text P7.bk LN (by simp; omega)).mono ?_; rintro e v7 ⟨rfl, hb7, _⟩
         have P8 := P7.text hb7
         have s8 := ncells P8
         rw [← HG.out] at s8))
  have K2 := Lib.hid P8
  rw [List.nil_append] at K2
  clear HL hl1 HN0 P0 s0 P1 s1 P2 s2 P3 s3 P4 s4 P5 s5 P6 s6 P7 s7 P8 s8 hb0 hb1 hb2 hb3 hb4 hb5 hb6 hb7
  have hc0 : (c.filters.length : Int) ≤ 1048576 := by omega
  have b6 : v7.cell? ⟨g, 6, none⟩ = some (.slice pf c.filters.length cf) := by
    have := K2.out.box.cell 6
    rw [← HG.out] at this
    exact this
  go_wp2_with fail
  clear b6
  go_loopw [36] (fun i2 wr => ∃ k : Nat, k ≤ c.filters.length ∧ i2 = .int .i64 k ∧ Hid (Pn w W0 c (.slice pf c.filters.length cf) (.slice pc c.clusters.length cc) (.slice pv c.vhosts.length cv) (textL (lineW LISTEN (listenW c) :: (c.filters.take k).map (fun f => lineW FILTER (filtW f)))) wr)) (fun i2 _ => c.filters.length - (intOf i2).toNat)
  case atStart => exact ⟨0, Nat.zero_le _, rfl, by rw [List.take_zero, List.map_nil, HV.out]; exact K2⟩
  case round =>
    obtain ⟨k, hk, rfl, HJ⟩ := hrel
    clear K2
    by_cases hlt : k < c.filters.length
    · have hki : (k : Int) < (c.filters.length : Int) := by omega
      have hk0 : (0 : Int) ≤ (k : Int) := by omega
      obtain ⟨gf, of, rfl, hxc⟩ := R14Check.filts_at HJ.out.c0.filters k hlt
      obtain ⟨x, hxx⟩ : ∃ x, x = c.filters[k] := ⟨_, rfl⟩
      obtain ⟨m0, m1, m2, m3, m4, m5⟩ := hxc x hxx
      have hup := HJ.out.bk.2
      replace m0 := cell_up hup m0
      replace m1 := cell_up hup m1
      replace m2 := cell_up hup m2
      replace m3 := cell_up hup m3
      replace m4 := cell_up hup m4
      replace m5 := cell_up hup m5
      have hfx : FitFilt x := by rw [hxx]; exact HX.out.filters.2 _ (List.getElem_mem hlt)
      have HS : Hid (textL (lineW LISTEN (listenW c) :: (c.filters.take (k + 1)).map (fun f => lineW FILTER (filtW f))) = textL (lineW LISTEN (listenW c) :: (c.filters.take k).map (fun f => lineW FILTER (filtW f))) ++ (lineW FILTER (filtW x) ++ [10])) := Lib.hid (by
        rw [List.take_succ_eq_append_getElem hlt, List.map_append, hxx, ← List.cons_append, textL_append]
        simp [textL])
      have hY1 : (textL (lineW LISTEN (listenW c) :: (c.filters.take (k + 1)).map (fun f => lineW FILTER (filtW f)))).length ≤ 90000000000 := by
        refine R14Print.part_len (B := (c.filters.drop (k + 1)).map (fun f => lineW FILTER (filtW f)) ++ (c.clusters.map (fun x => lineW CLUSTER (clusW x)) ++ c.vhosts.flatMap vhosLs)) HX.out HR.out ?_
        have e : c.filters.map (fun f => lineW FILTER (filtW f)) = (c.filters.take (k + 1)).map (fun f => lineW FILTER (filtW f)) ++ (c.filters.drop (k + 1)).map (fun f => lineW FILTER (filtW f)) := by rw [← List.map_append, List.take_append_drop]
        unfold linesC
        rw [e]
        simp only [List.cons_append, List.append_assoc]
      rw [HS.out, List.length_append] at hY1
      have hll : (lineW FILTER (filtW x)).length ≤ 90000000000 := by rw [List.length_append] at hY1; omega
      have H0 := Lib.hid (fun w h => pdecimal_any x.kind hfx.kind.1 hfx.kind.2 w h)
      have H1 := Lib.hid (fun w => pword_any (ofL x.name) (by rw [ofL_size]; have := hfx.name; omega) w)
      rw [toL_ofL] at H1
      have H2 := Lib.hid (fun w => pword_any (ofL x.value) (by rw [ofL_size]; have := hfx.value; omega) w)
      rw [toL_ofL] at H2
      have H3 := Lib.hid (fun w h => pdecimal_any x.n hfx.n.1 hfx.n.2 w h)
      have H4 := Lib.hid (fun w h => pdecimal_any x.m hfx.m.1 hfx.m.2 w h)
      have H5 := Lib.hid (fun w h => pdecimal_any x.k hfx.k.1 hfx.k.2 w h)
      have HL : Hid (∀ W : World, Calls Tryz.prog 30 #[.slice (some ⟨W.heap.size, 0, none⟩) 7 7] (W.alloc (.cells #[.string ⟨#[102, 105, 108, 116, 101, 114]⟩, .string (ofL (decZ x.kind)), .string (ofL (word x.name)), .string (ofL (word x.value)), .string (ofL (decZ x.n)), .string (ofL (decZ x.m)), .string (ofL (decZ x.k))] 9)) fun e w' => e = .returned (.string (ofL (lineW FILTER (filtW x) ++ [10]))) ∧ Below W.heap.size W w') := Lib.hid (fun W => pline_new FILTER (filtW x) (by omega) (show 6 ≤ 1048000 by decide) W)
      obtain ⟨LN2, hLN2⟩ : ∃ LN, LN = lineW FILTER (filtW x) ++ [10] := ⟨_, rfl⟩
      rw [← hLN2] at HL HS hY1
      have HY := Lib.hid hY1
      obtain ⟨A0, hA0⟩ : ∃ A0, A0 = ofL (decZ x.kind) := ⟨_, rfl⟩
      rw [← hA0] at H0 HL
      obtain ⟨A1, hA1⟩ : ∃ A1, A1 = ofL (word x.name) := ⟨_, rfl⟩
      rw [← hA1] at H1 HL
      obtain ⟨A2, hA2⟩ : ∃ A2, A2 = ofL (word x.value) := ⟨_, rfl⟩
      rw [← hA2] at H2 HL
      obtain ⟨A3, hA3⟩ : ∃ A3, A3 = ofL (decZ x.n) := ⟨_, rfl⟩
      rw [← hA3] at H3 HL
      obtain ⟨A4, hA4⟩ : ∃ A4, A4 = ofL (decZ x.m) := ⟨_, rfl⟩
      rw [← hA4] at H4 HL
      obtain ⟨A5, hA5⟩ : ∃ A5, A5 = ofL (decZ x.k) := ⟨_, rfl⟩
      rw [← hA5] at H5 HL
      have P00 := Lib.hid (Pi.start HJ.out 49 #[.int .i64 x.kind, .string (ofL x.name), .string (ofL x.value), .int .i64 x.n, .int .i64 x.m, .int .i64 x.k])
      obtain ⟨gi, hgi⟩ : ∃ gi, gi = wr.heap.size := ⟨_, rfl⟩
      rw [← hgi] at P00
      have HGi := Lib.hid hgi
      clear hxc hxx hfx hgi hup hY1 hll HJ hLN2 hA0 hA1 hA2 hA3 hA4 hA5
      go_wp2_with fail
      rw [← HGi.out]
      generalize wr.alloc (.cells #[.int .i64 x.kind, .string (ofL x.name), .string (ofL x.value), .int .i64 x.n, .int .i64 x.m, .int .i64 x.k] 49) = W2 at P00 ⊢
      clear m0 m1 m2 m3 m4 m5
      have P0 := P00.out.drew
      have s0 := fcells P0
      go_region_held3 (fun w' => w'.cell? ⟨gi, 0, none⟩ = some (.int .i64 x.kind) ∧ w'.cell? ⟨gi, 1, none⟩ = some (.string (ofL x.name)) ∧ w'.cell? ⟨gi, 2, none⟩ = some (.string (ofL x.value)) ∧ w'.cell? ⟨gi, 3, none⟩ = some (.int .i64 x.n) ∧ w'.cell? ⟨gi, 4, none⟩ = some (.int .i64 x.m) ∧ w'.cell? ⟨gi, 5, none⟩ = some (.int .i64 x.k)) (first | exact s8 | exact s7 | exact (fcells (P6.call ((Below.refl _ _).alloc (Nat.le_refl _) _))) | exact s6 | exact s5 | exact s4 | exact s3 | exact s2 | exact s1 | exact s0)
        (first
          | (go_at_call 31; refine (H0.out _ P0.pn.pw).mono ?_; rintro e v0 ⟨rfl, hb0⟩
             have P1 := P0.call hb0
             have s1 := fcells P1
             clear H0)
          | (go_at_call 19; refine (H1.out _).mono ?_; rintro e v1 ⟨rfl, hb1⟩
             have P2 := P1.call hb1
             have s2 := fcells P2
             clear H1)
          | (go_at_call 19; refine (H2.out _).mono ?_; rintro e v2 ⟨rfl, hb2⟩
             have P3 := P2.call hb2
             have s3 := fcells P3
             clear H2)
          | (go_at_call 31; refine (H3.out _ P3.pn.pw).mono ?_; rintro e v3 ⟨rfl, hb3⟩
             have P4 := P3.call hb3
             have s4 := fcells P4
             clear H3)
          | (go_at_call 31; refine (H4.out _ P4.pn.pw).mono ?_; rintro e v4 ⟨rfl, hb4⟩
             have P5 := P4.call hb4
             have s5 := fcells P5
             clear H4)
          | (go_at_call 31; refine (H5.out _ P5.pn.pw).mono ?_; rintro e v5 ⟨rfl, hb5⟩
             have P6 := P5.call hb5
             have s6 := fcells P6
             clear H5)
          | (go_at_call 30; refine (HL.out _).mono ?_; rintro e v6 ⟨rfl, hb6⟩
             have P7 := P6.call hb6
             have s7 := fcells P7)
          | (go_at_call 29; refine (bk_text P7.pn.bk LN2 (by have := HY.out; omega)).mono ?_; rintro e v7 ⟨rfl, hb7, hk7⟩
             have P8 := P7.text hb7 hk7 (by decide)
             have s8 := fcells P8))
      have K3 := Lib.hid P8.pn
      rw [← HS.out] at K3
      clear HL HY HS P00 P0 s0 P1 s1 P2 s2 P3 s3 P4 s4 P5 s5 P6 s6 P7 s7 P8 s8 hb0 hb1 hb2 hb3 hb4 hb5 hb6 hb7 hk7
      go_wp2_with fail
      go_roundw
      case rel => exact ⟨k + 1, by omega, by go_num, K3⟩
      case measure => simp [intOf]; omega
    · have hki : ¬ (k : Int) < (c.filters.length : Int) := by omega
      obtain rfl : k = c.filters.length := by omega
      have K3 := Lib.hid HJ.out
      rw [List.take_length] at K3
      clear HJ hlt
      have b7 : wr.cell? ⟨g, 7, none⟩ = some (.slice pc c.clusters.length cc) := by
        have := K3.out.box.cell 7
        rw [← HG.out] at this
        exact this
      go_wp2_with fail
      clear b7 hk hki
      go_loopw [65] (fun i2 wr => ∃ k : Nat, k ≤ c.clusters.length ∧ i2 = .int .i64 k ∧ Hid (Pn w W0 c (.slice pf c.filters.length cf) (.slice pc c.clusters.length cc) (.slice pv c.vhosts.length cv) (textL (lineW LISTEN (listenW c) :: (c.filters.map (fun f => lineW FILTER (filtW f)) ++ (c.clusters.take k).map (fun x => lineW CLUSTER (clusW x))))) wr)) (fun i2 _ => c.clusters.length - (intOf i2).toNat)
      case atStart => exact ⟨0, Nat.zero_le _, rfl, by rw [List.take_zero, List.map_nil, List.append_nil]; exact K3⟩
      case round =>
        obtain ⟨k, hk, rfl, HJ⟩ := hrel
        clear K3
        by_cases hlt : k < c.clusters.length
        · have hki : (k : Int) < (c.clusters.length : Int) := by omega
          have hk0 : (0 : Int) ≤ (k : Int) := by omega
          obtain ⟨gc, oc, rfl, hxc⟩ := R14Check.cluss_at HJ.out.c0.clusters k hlt
          obtain ⟨x, hxx⟩ : ∃ x, x = c.clusters[k] := ⟨_, rfl⟩
          obtain ⟨h, htx, m0, m1, m2, m3, m4, m5, m6, m7, m8⟩ := hxc x hxx
          obtain ⟨ph, ch, rfl, _, _⟩ := id htx
          have hup := HJ.out.bk.2
          replace m0 := cell_up hup m0
          replace m1 := cell_up hup m1
          replace m2 := cell_up hup m2
          replace m3 := cell_up hup m3
          replace m4 := cell_up hup m4
          replace m5 := cell_up hup m5
          replace m6 := cell_up hup m6
          replace m7 := cell_up hup m7
          replace m8 := cell_up hup m8
          have hfx : FitClus x := by rw [hxx]; exact HX.out.clusters.2 _ (List.getElem_mem hlt)
          have hrx : clusB x = true := by rw [hxx]; exact (HR.out.clusters _ (List.getElem_mem hlt)).1
          have hhn : x.hosts.length ≤ 16 := by
            unfold clusB inB at hrx
            simp only [Bool.and_eq_true, decide_eq_true_eq] at hrx
            omega
          have hhw : ∀ t ∈ x.hosts, word t = t := by
            unfold clusB at hrx
            simp only [Bool.and_eq_true] at hrx
            exact fun t ht => host_word (hosts_word hrx.2 t ht)
          have HLc := Lib.hid (fun W hp ht => PCfgY.pcluster_line x ph ch hfx hhn hhw W hp ht)
          have HS : Hid (textL (lineW LISTEN (listenW c) :: (c.filters.map (fun f => lineW FILTER (filtW f)) ++ (c.clusters.take (k + 1)).map (fun x => lineW CLUSTER (clusW x)))) = textL (lineW LISTEN (listenW c) :: (c.filters.map (fun f => lineW FILTER (filtW f)) ++ (c.clusters.take k).map (fun x => lineW CLUSTER (clusW x)))) ++ (lineW CLUSTER (clusW x) ++ [10])) := Lib.hid (by
            rw [List.take_succ_eq_append_getElem hlt, List.map_append, hxx, ← List.append_assoc, ← List.cons_append, textL_append]
            simp [textL])
          have hY1 : (textL (lineW LISTEN (listenW c) :: (c.filters.map (fun f => lineW FILTER (filtW f)) ++ (c.clusters.take (k + 1)).map (fun x => lineW CLUSTER (clusW x))))).length ≤ 90000000000 := by
            refine R14Print.part_len (B := (c.clusters.drop (k + 1)).map (fun x => lineW CLUSTER (clusW x)) ++ c.vhosts.flatMap vhosLs) HX.out HR.out ?_
            have e : c.clusters.map (fun x => lineW CLUSTER (clusW x)) = (c.clusters.take (k + 1)).map (fun x => lineW CLUSTER (clusW x)) ++ (c.clusters.drop (k + 1)).map (fun x => lineW CLUSTER (clusW x)) := by rw [← List.map_append, List.take_append_drop]
            unfold linesC
            rw [e]
            simp only [List.cons_append, List.append_assoc]
          rw [HS.out, List.length_append] at hY1
          obtain ⟨LN2, hLN2⟩ : ∃ LN, LN = lineW CLUSTER (clusW x) ++ [10] := ⟨_, rfl⟩
          rw [← hLN2] at HLc HS hY1
          have HY := Lib.hid hY1
          have P00 := Lib.hid (Pi.start HJ.out 38 #[.string (ofL x.name), .int .i64 x.policy, .slice ph x.hosts.length ch, .int .i64 x.conns, .int .i64 x.pending, .int .i64 x.try_, .int .i64 x.fails, .int .i64 x.eject, .int .i64 x.panic])
          have HTx := Lib.hid (Texts.Texts.below htx P00.out.pn.bk.2)
          obtain ⟨gi, hgi⟩ : ∃ gi, gi = wr.heap.size := ⟨_, rfl⟩
          rw [← hgi] at P00
          have HGi := Lib.hid hgi
          clear hxc hxx hfx hgi hup hY1 HJ hLN2 hhw hhn hrx htx
          go_wp2_with fail
          refine (HLc.out _ P00.out.pn.pw HTx.out).mono ?_
          rintro e v1 ⟨rfl, hb1⟩
          have P1 := Lib.hid (P00.out.call hb1)
          clear m0 m1 m2 m3 m4 m5 m6 m7 m8 HLc HTx P00 hb1
          go_wp2_with fail
          refine (bk_text P1.out.pn.bk LN2 (by have := HY.out; omega)).mono ?_
          rintro e v2 ⟨rfl, hb2, _⟩
          have K4 := Lib.hid (P1.out.pn.text hb2)
          rw [← HS.out] at K4
          clear P1 hb2 HY HS
          go_wp2_with fail
          go_roundw
          case rel => exact ⟨k + 1, by omega, by go_num, K4⟩
          case measure => simp [intOf]; omega
        · have hki : ¬ (k : Int) < (c.clusters.length : Int) := by omega
          obtain rfl : k = c.clusters.length := by omega
          have K4 := Lib.hid HJ.out
          rw [List.take_length] at K4
          clear HJ hlt
          have b8 : wr.cell? ⟨g, 8, none⟩ = some (.slice pv c.vhosts.length cv) := by
            have := K4.out.box.cell 8
            rw [← HG.out] at this
            exact this
          go_wp2_with fail
          clear b8 hk hki
          go_loopw [76] (fun i2 wr => ∃ k : Nat, k ≤ c.vhosts.length ∧ i2 = .int .i64 k ∧ Hid (Pn w W0 c (.slice pf c.filters.length cf) (.slice pc c.clusters.length cc) (.slice pv c.vhosts.length cv) (textL (lineW LISTEN (listenW c) :: (c.filters.map (fun f => lineW FILTER (filtW f)) ++ (c.clusters.map (fun x => lineW CLUSTER (clusW x)) ++ (c.vhosts.take k).flatMap vhosLs)))) wr)) (fun i2 _ => c.vhosts.length - (intOf i2).toNat)
          case atStart => exact ⟨0, Nat.zero_le _, rfl, by rw [List.take_zero, List.flatMap_nil, List.append_nil]; exact K4⟩
          case round =>
            obtain ⟨k, hk, rfl, HJ⟩ := hrel
            clear K4
            by_cases hlt : k < c.vhosts.length
            · have hki : (k : Int) < (c.vhosts.length : Int) := by omega
              have hk0 : (0 : Int) ≤ (k : Int) := by omega
              obtain ⟨gs, os, hvv, rfl, hrt, d0, d1⟩ := R14Vhost.vhos_at HJ.out.c0.vhosts k hlt
              obtain ⟨V, hV⟩ : ∃ V, V = c.vhosts[k] := ⟨_, rfl⟩
              rw [← hV] at d0 hrt
              have hup := HJ.out.bk.2
              replace d0 := cell_up hup d0
              replace d1 := cell_up hup d1
              have hfx : FitVhos V := by rw [hV]; exact HX.out.vhosts.2 _ (List.getElem_mem hlt)
              have HFx := Lib.hid hfx
              have hrl : V.routes.length ≤ 1048576 := hfx.routes.1
              have HS : Hid (textL (lineW LISTEN (listenW c) :: (c.filters.map (fun f => lineW FILTER (filtW f)) ++ (c.clusters.map (fun x => lineW CLUSTER (clusW x)) ++ (c.vhosts.take (k + 1)).flatMap vhosLs))) = textL (lineW LISTEN (listenW c) :: (c.filters.map (fun f => lineW FILTER (filtW f)) ++ (c.clusters.map (fun x => lineW CLUSTER (clusW x)) ++ (c.vhosts.take k).flatMap vhosLs))) ++ textL (vhosLs V)) := Lib.hid (by
                rw [List.take_succ_eq_append_getElem hlt, List.flatMap_append, hV, ← List.append_assoc, ← List.append_assoc, ← List.cons_append, textL_append]
                simp [textL])
              have hY1 : (textL (lineW LISTEN (listenW c) :: (c.filters.map (fun f => lineW FILTER (filtW f)) ++ (c.clusters.map (fun x => lineW CLUSTER (clusW x)) ++ (c.vhosts.take (k + 1)).flatMap vhosLs)))).length ≤ 90000000000 := by
                refine R14Print.part_len (B := (c.vhosts.drop (k + 1)).flatMap vhosLs) HX.out HR.out ?_
                have e : c.vhosts.flatMap vhosLs = (c.vhosts.take (k + 1)).flatMap vhosLs ++ (c.vhosts.drop (k + 1)).flatMap vhosLs := by rw [← List.flatMap_append, List.take_append_drop]
                unfold linesC
                rw [e]
                simp only [List.cons_append, List.append_assoc]
              rw [HS.out] at hY1
              obtain ⟨XX, hXX⟩ : ∃ XX, Hid (XX = textL (lineW LISTEN (listenW c) :: (c.filters.map (fun f => lineW FILTER (filtW f)) ++ (c.clusters.map (fun x => lineW CLUSTER (clusW x)) ++ (c.vhosts.take k).flatMap vhosLs)))) := ⟨_, Lib.hid rfl⟩
              rw [← hXX.out] at HS hY1 HJ
              have HLen := Lib.hid hY1
              have hll : (lineW VHOST [word V.domain] ++ [10]).length + XX.length ≤ 90000000000 := by
                have h1 := hY1
                unfold vhosLs at h1
                rw [textL_cons, List.length_append, List.length_append] at h1
                rw [List.length_append]
                have : (lineW VHOST [word V.domain]).length + 1 ≤ (lineW VHOST [word V.domain] ++ [10]).length := by rw [List.length_append]; simp
                simp only [List.length_append, List.length_cons, List.length_nil] at h1 ⊢
                omega
              have hll2 : (lineW VHOST [word V.domain]).length ≤ 90000000000 := by rw [List.length_append] at hll; omega
              have HWd := Lib.hid (fun w => pword_any (ofL V.domain) (by rw [ofL_size]; have := hfx.domain; omega) w)
              rw [toL_ofL] at HWd
              have HL : Hid (∀ W : World, Calls Tryz.prog 30 #[.slice (some ⟨W.heap.size, 0, none⟩) 2 2] (W.alloc (.cells #[.string ⟨#[118, 104, 111, 115, 116]⟩, .string (ofL (word V.domain))] 9)) fun e w' => e = .returned (.string (ofL (lineW VHOST [word V.domain] ++ [10]))) ∧ Below W.heap.size W w') := Lib.hid (fun W => pline_new VHOST [word V.domain] (by omega) (show 1 ≤ 1048000 by decide) W)
              obtain ⟨LN2, hLN2⟩ : ∃ LN, Hid (LN = lineW VHOST [word V.domain] ++ [10]) := ⟨_, Lib.hid rfl⟩
              rw [← hLN2.out] at HL hll
              have HY := Lib.hid hll
              generalize ofL (word V.domain) = A at HWd HL
              have hrtW := hrt
              have hr1 : 0 < V.routes.length := by
                have := (HR.out.vhosts _ (List.getElem_mem hlt)).2.1
                rw [← hV] at this
                unfold inB at this
                simp only [Bool.and_eq_true, decide_eq_true_eq] at this
                omega
              obtain ⟨pr, cr, rfl, _, hrc0⟩ := hrt.parts
              obtain ⟨gr, orr, rfl, _, _⟩ := hrc0 hr1
              clear hrc0 hr1
              have P00 := Lib.hid (Pi.start HJ.out 43 #[.string (ofL V.domain), .slice (some ⟨gr, orr, none⟩) V.routes.length cr])
              have HRt := Lib.hid hrtW
              have HHV := Lib.hid hV
              clear hV hfx hup hY1 hll hll2 HJ hrt hrtW
              go_wp2_with fail
              refine (HWd.out _).mono ?_
              rintro e v1 ⟨rfl, hb1⟩
              have P1 := Lib.hid (P00.out.call hb1)
              clear d0 d1 HWd P00 hb1
              go_wp2_with fail
              refine (HL.out _).mono ?_
              rintro e v2 ⟨rfl, hb2⟩
              have P2 := Lib.hid (P1.out.call hb2)
              clear P1 hb2 HL
              go_wp2_with fail
              refine (bk_text P2.out.pn.bk LN2 (by have := HY.out; omega)).mono ?_
              rintro e v3 ⟨rfl, hb3, hk3⟩
              have P3 := Lib.hid (P2.out.text hb3 hk3 (by decide))
              clear P2 hb3 hk3 HY
              have b1 : v3.cell? ⟨wr.heap.size, 1, none⟩ = some (.slice (some ⟨gr, orr, none⟩) V.routes.length cr) := P3.out.it.cell 1
              have K5 := Lib.hid P3.out.pn
              clear P3
              go_wp2_with fail
              clear b1
              go_loopw [89] (fun i2 wr => ∃ k2 : Nat, k2 ≤ V.routes.length ∧ i2 = .int .i64 k2 ∧ Hid (Pn w W0 c (.slice pf c.filters.length cf) (.slice pc c.clusters.length cc) (.slice (some ⟨gs, os, none⟩) c.vhosts.length cv) (XX ++ textL (lineW VHOST [word V.domain] :: (V.routes.take k2).map (fun r => lineW ROUTE (routW r)))) wr)) (fun i2 _ => V.routes.length - (intOf i2).toNat)
              case atStart => exact ⟨0, Nat.zero_le _, rfl, by rw [List.take_zero, List.map_nil, show textL [lineW VHOST [word V.domain]] = LN2 by rw [hLN2.out]; simp [textL]]; exact K5⟩
              case round =>
                obtain ⟨k2, hk2, rfl, HI⟩ := hrel
                clear K5
                by_cases hlt2 : k2 < V.routes.length
                · have hki2 : (k2 : Int) < (V.routes.length : Int) := by omega
                  have hk20 : (0 : Int) ≤ (k2 : Int) := by omega
                  obtain ⟨p2, c2, hv2, _, hrc⟩ := (ConfMem.Routs.below HRt.out HI.out.bk.2).parts
                  injection hv2 with e1 e2 e3
                  clear e2
                  subst e3
                  obtain ⟨gr2, or2, hpr, _, hcell⟩ := hrc (by omega)
                  rw [← e1] at hpr
                  injection hpr with hpr
                  injection hpr with a1 a2
                  subst a1
                  subst a2
                  clear e1
                  obtain ⟨r, hr⟩ : ∃ r, r = V.routes[k2] := ⟨_, rfl⟩
                  obtain ⟨n0, n1, n2, n3, n4, n5, n6, n7, n8, n9, n10, n11, n12⟩ := hcell k2 hlt2
                  rw [← hr] at n0 n1 n2 n3 n4 n5 n6 n7 n8 n9 n10 n11 n12
                  have hfr : FitRout r := by rw [hr]; exact HFx.out.routes.2 _ (List.getElem_mem hlt2)
                  have HLr := Lib.hid (fun w hp => proute_line r hfr w hp)
                  have HS2 : Hid (XX ++ textL (lineW VHOST [word V.domain] :: (V.routes.take (k2 + 1)).map (fun r => lineW ROUTE (routW r))) = XX ++ textL (lineW VHOST [word V.domain] :: (V.routes.take k2).map (fun r => lineW ROUTE (routW r))) ++ (lineW ROUTE (routW r) ++ [10])) := Lib.hid (by
                    rw [List.take_succ_eq_append_getElem hlt2, List.map_append, hr, ← List.cons_append, textL_append]
                    simp [textL])
                  have hP : (XX ++ textL (lineW VHOST [word V.domain] :: (V.routes.take (k2 + 1)).map (fun r => lineW ROUTE (routW r)))).length ≤ 90000000000 := by
                    have h1 := HLen.out
                    have h2 : vhosLs V = (lineW VHOST [word V.domain] :: (V.routes.take (k2 + 1)).map (fun r => lineW ROUTE (routW r))) ++ (V.routes.drop (k2 + 1)).map (fun r => lineW ROUTE (routW r)) := by rw [List.cons_append, ← List.map_append, List.take_append_drop]; rfl
                    rw [h2, textL_append] at h1
                    simp only [List.length_append] at h1 ⊢
                    omega
                  rw [HS2.out, List.length_append] at hP
                  obtain ⟨LN3, hLN3⟩ : ∃ LN, LN = lineW ROUTE (routW r) ++ [10] := ⟨_, rfl⟩
                  rw [← hLN3] at HLr HS2 hP
                  have HY := Lib.hid hP
                  have P00 := Lib.hid (Pi.start HI.out 45 #[.bool r.pre, .string (ofL r.path), .string (ofL r.method), .string (ofL r.field), .string (ofL r.value), .int .i64 r.action, .string (ofL r.cluster), .int .i64 r.status, .string (ofL r.text), .string (ofL r.rewrite), .int .i64 r.retries, .int .i64 r.timeout, .bool r.upgrade])
                  clear hcell hrc hr hfr hP hLN3 HI
                  go_wp2_with fail
                  refine (HLr.out _ P00.out.pn.pw).mono ?_
                  rintro e v4 ⟨rfl, hb4⟩
                  have P1 := Lib.hid (P00.out.call hb4)
                  clear n0 n1 n2 n3 n4 n5 n6 n7 n8 n9 n10 n11 n12 HLr P00 hb4
                  go_wp2_with fail
                  refine (bk_text P1.out.pn.bk LN3 (by have := HY.out; omega)).mono ?_
                  rintro e v5 ⟨rfl, hb5, _⟩
                  have K6 := Lib.hid (P1.out.pn.text hb5)
                  rw [← HS2.out] at K6
                  clear P1 hb5 HY HS2
                  go_wp2_with fail
                  go_roundw
                  case rel => exact ⟨k2 + 1, by omega, by go_num, K6⟩
                  case measure => simp [intOf]; omega
                · have hki2 : ¬ (k2 : Int) < (V.routes.length : Int) := by omega
                  obtain rfl : k2 = V.routes.length := by omega
                  have K6 := Lib.hid HI.out
                  rw [List.take_length, show textL (lineW VHOST [word V.domain] :: V.routes.map (fun r => lineW ROUTE (routW r))) = textL (vhosLs V) from rfl, ← HS.out] at K6
                  clear HI hlt2 HRt HS
                  go_wp2_with fail
                  go_roundw
                  case rel => exact ⟨k + 1, by omega, by go_num, K6⟩
                  case measure => simp [intOf]; omega
            · have hki : ¬ (k : Int) < (c.vhosts.length : Int) := by omega
              obtain rfl : k = c.vhosts.length := by omega
              have K5 := Lib.hid HJ.out
              rw [List.take_length, show textL (lineW LISTEN (listenW c) :: (c.filters.map (fun f => lineW FILTER (filtW f)) ++ (c.clusters.map (fun x => lineW CLUSTER (clusW x)) ++ c.vhosts.flatMap vhosLs))) = print14 c by rw [print_text]; rfl] at K5
              clear HJ hlt hk
              go_wp2_with fail
              refine (bk_out K5.out.bk).mono ?_
              rintro e v6 ⟨rfl, hb6⟩
              have HE : Hid (Below w.heap.size w v6) := Lib.hid (below_chain K5.out.l0 hb6)
              clear K5 hb6
              go_wp2_with fail
              go_ret
              exact ⟨rfl, HE.out⟩
end Go.Proofs.YtfihehobkbfmiaaGreatDoor.PCfgZ

/- CONTRACTS of the program's package config, and what they ask of the world: MaxLen's cell and strconv's table. -/
namespace Go.Proofs.YtfihehobkbfmiaaGreatDoor.ConfObj
open Go.ChangeShapes Go.WideShapes Go.ChangeAt Go.RowKit Bytes LexPure CutAt ConfPure ConfMem Mem PUnder
set_option maxRecDepth 100000
set_option linter.unusedVariables false
def Fit (w : World) : Prop := MaxInt w ∧ PCfgLib.Pow w
theorem Fit.below {w w' : World} (h : Fit w) (hb : Below w.heap.size w w') : Fit w' := ⟨h.1.below hb, h.2.below hb⟩
theorem pow_of_laid {W : World} {L : List (String × DataW Unit)} (hL : L.filter (fun x => x.1 == "internal/strconv.uint64pow10") = [("internal/strconv.uint64pow10", Rows.laid_internal_strconv_uint64pow10)]) (h0 : laidMetH Tryz.prog L W) : PCfgLib.Pow W := by
  have h := laidMetH.filter (fun x => x.1 == "internal/strconv.uint64pow10") h0
  rw [hL, MakeChecks.laidMetH_plain _ _ _ (by kernel_rfl)] at h
  exact Lib.tabIs_of_head (g := 1) (t := 153) (e := 135) (n := 20) (by kernel_rfl) (by kernel_rfl) Tryz.underlying153 Tryz.underlying135 (by kernel_rfl) (by kernel_rfl) h
theorem Fit.of {w : World} (h : w.ShapedOpen Tryz.prog) (hp : PCfgLib.Pow w) : Fit w := ⟨MaxInt.of_shape h, hp⟩
theorem clusE_not : ∀ (a l : List Clus), clusE a l ≠ 140
  | _, [] => (show (0 : Int) ≠ 140 by decide)
  | a, c :: l => by
    unfold clusE
    split
    · decide
    split
    · decide
    · exact clusE_not _ l
theorem vhosE_not (cs : List Clus) : ∀ (a l : List Vhos), vhosE cs a l ≠ 140
  | _, [] => (show (0 : Int) ≠ 140 by decide)
  | a, v :: l => by
    unfold vhosE
    split
    · decide
    split
    · decide
    · exact vhosE_not cs _ l
theorem check_not (c : Conf) : check14 c ≠ 140 := by
  unfold check14
  split
  · decide
  split
  · decide
  split
  · exact clusE_not _ _
  · exact vhosE_not _ _ _
/-- what a text's config is, where its answer is known -/
theorem fit_of {t : L} {c : Conf} {n e : Int} (h : parse14 t = (c, n, e)) (he : e = 0 ∨ e = 140) (hc : e = 0 → FitConf c) : ∀ c', goP 0 zeroC (cutB 10 t) = .inr c' → FitConf c' := by
  intro c' hg
  by_cases hk : check14 c' = 0
  · rw [PCfgH.parse_ok hg hk] at h
    injection h with h1 h2
    injection h2 with h2 h3
    subst h1
    exact hc h3.symm
  · rw [PCfgH.parse_not hg hk] at h
    injection h with h1 h2
    injection h2 with h2 h3
    rcases he with he | he
    · exact absurd (h3.trans he) hk
    · exact absurd (h3.trans he) (check_not c')
theorem pcheck_any (c : Conf) (vf vc vv : Value) (hx : FitConf c) (w : World) (hm : Fit w) (hC : CF w vf vc vv c) :
    Calls Tryz.prog 10 #[.agg (confV c vf vc vv)] w fun e w' => e = .returned (.int .i64 (check14 c)) ∧ Below w.heap.size w w' := PCfgK.pcheck_any c vf vc vv hx w hm.1 hm.2 hC
theorem pprint_any (c : Conf) (vf vc vv : Value) (hx : FitConf c) (hk : check14 c = 0) (w : World) (hm : Fit w) (hC : CF w vf vc vv c) :
    Calls Tryz.prog 12 #[.agg (confV c vf vc vv)] w fun e w' => e = .returned (.string (ofL (print14 c))) ∧ Below w.heap.size w w' := PCfgZ.pprint_any c vf vc vv hx hk w hm.2 hC
theorem pparse_any (s : ByteArray) (hs : s.size ≤ 274877906944) (hfit : ∀ c, goP 0 zeroC (cutB 10 (toL s)) = .inr c → FitConf c) (w : World) (hm : Fit w) :
    Calls Tryz.prog 13 #[.string s] w fun e w' => ∃ vf vc vv, e = .returned (.tuple #[.agg (confV (parse14 (toL s)).1 vf vc vv), .int .i64 (parse14 (toL s)).2.1, .int .i64 (parse14 (toL s)).2.2]) ∧ CF w' vf vc vv (parse14 (toL s)).1 ∧ Below w.heap.size w w' := by
  refine (PCfgH.pparse_any s hs hfit w hm.1 hm.2).mono ?_
  rintro e w' ⟨hb, g, vf, vc, vv, CL, VL, he, O, _⟩
  exact ⟨vf, vc, vv, he, ConfCF.OCs.cf O, hb⟩
theorem pword_any (s : ByteArray) (hs : s.size ≤ 1048576) (w : World) (hm : Fit w) :
    Calls Tryz.prog 19 #[.string s] w fun e w' => e = .returned (.string (ofL (word (toL s)))) ∧ Below w.heap.size w w' := PCfgW.pword_any s (by omega) w
end Go.Proofs.YtfihehobkbfmiaaGreatDoor.ConfObj
