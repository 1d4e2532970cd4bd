/- Texts of this seat, one behind another: RouteNormalW. -/
import Derived.BigQuiet
import Derived.Test.YtcjobblhendkbaaA3
import Derived.Test.YtcjobblhendkbaaB
import Derived.Test.YtcjobblhendkbaaR5
import Derived.Test.YtcjobblhendkbaaA1
import Derived.Test.YtcjobblhendkbaaC
/- By a right config a path in normal form is rewritten to one in normal form: RouteNormal returns true, whatever the config and the request. -/
namespace Go.Proofs.Ytcjobblhendkbaa.RouteNormalW
open Go.ChangeShapes Go.WideShapes Go.ChangeAt Go.RowKit Bytes LexPure ConfPure ConfBack ConfSafe ConfMem RouteFind RoutePure FieldsPure Flds PValsW PRouBest PRouDom PRouLead PRouRew PRouFind RouRow R14Bnd Ret Mem RNormal
set_option maxRecDepth 100000
set_option linter.unusedVariables false
set_option linter.unusedSimpArgs false
/-- the config's box, and what is handed in -/
structure Nb (w : World) (g : Nat) (c : Conf) (vf vc vv : Value) (v : Value) (G : List HField) (W : World) : Prop where
  box : Has W g 26 (confV c vf vc vv)
  cf : CF W vf vc vv c
  fl : FL W v G
  below : Below g w W
theorem Nb.start {w : World} {c : Conf} {vf vc vv v : Value} {G : List HField} (h : CF w vf vc vv c) (hF : FL w v G) : Nb w w.heap.size c vf vc vv v G (w.alloc (.cells (confV c vf vc vv) 26)) := by
  have hb := (Below.refl w.heap.size w).alloc (Nat.le_refl _) (.cells (confV c vf vc vv) 26)
  exact ⟨Has.new _ _ _, h.below hb, hF.below hb, hb⟩
theorem Nb.call {w W W' : World} {g : Nat} {c : Conf} {vf vc vv v : Value} {G : List HField} (x : Nb w g c vf vc vv v G W) (hb : Below W.heap.size W W') : Nb w g c vf vc vv v G W' :=
  ⟨x.box.below hb x.box.lt, x.cf.below hb, x.fl.below hb, ⟨hb.os.trans x.below.os, hb.tape.trans x.below.tape, hb.output.trans x.below.output, Nat.le_trans x.below.size hb.size, fun i hi => (hb.block i (Nat.lt_trans hi x.box.lt)).trans (x.below.block i hi)⟩⟩
theorem below_drew' {B : Nat} {w W : World} (h : Below B w W) : Below B w W.drew := ⟨h.os, h.tape, h.output, h.size, h.block⟩
theorem Nb.drew {w W : World} {g : Nat} {c : Conf} {vf vc vv v : Value} {G : List HField} (x : Nb w g c vf vc vv v G W) : Nb w g c vf vc vv v G W.drew := x.call (below_drew' (Below.refl _ _))
theorem ncells {w W : World} {g : Nat} {c : Conf} {pf pc pv : Option Addr} {cf cc cv : Nat} {v : Value} {G : List HField} (x : Nb w g c (.slice pf c.filters.length cf) (.slice pc c.clusters.length cc) (.slice pv c.vhosts.length cv) v G W) :
    W.cell? ⟨g, 0, none⟩ = some (.int .i64 c.conns) ∧ W.cell? ⟨g, 1, none⟩ = some (.int .i64 c.body) ∧ W.cell? ⟨g, 2, none⟩ = some (.int .i64 c.idle) ∧ W.cell? ⟨g, 3, none⟩ = some (.int .i64 c.grace) ∧ W.cell? ⟨g, 4, none⟩ = some (.int .i64 c.budget) ∧ W.cell? ⟨g, 5, none⟩ = some (.int .i64 c.seed) ∧ W.cell? ⟨g, 6, none⟩ = some (.slice pf c.filters.length cf) ∧ W.cell? ⟨g, 7, none⟩ = some (.slice pc c.clusters.length cc) ∧ W.cell? ⟨g, 8, none⟩ = some (.slice pv c.vhosts.length cv) := by
  have B2 := x.box
  unfold confV at B2
  exact ⟨B2.cell 0, B2.cell 1, B2.cell 2, B2.cell 3, B2.cell 4, B2.cell 5, B2.cell 6, B2.cell 7, B2.cell 8⟩
/-- a list that is copied, behind the copy -/
theorem copied_drew {w1 w4 : World} {v4 : Value} {G : List HField} (h : w4.ownsRow w1.heap.size 84 2 v4 (0 + G.length) ([] ++ encFs G)) (hl : G.length ≤ 4398046511104)
    (hg : ((w1.alloc (.cells #[] 84)).drew).grownBy w4 (Value.slice (some ⟨w1.heap.size, 0, none⟩) 0 0).ownBlock) : FL w4 v4 G ∧ Below w1.heap.size w1 w4 := by
  obtain ⟨h1, h2⟩ := FRow.copied h ⟨hg.os, hg.tape, hg.output, hg.size, hg.block⟩
  exact ⟨fl_of h1 hl, h2⟩
theorem few_wide {G : List HField} (h : Few G) : Wide G := fun j hj => by have := h j hj; omega
theorem find_form (r : Option (Nat × Nat)) : ∃ (a b : Int) (ok : Bool), findV r = .tuple #[.int .i64 a, .int .i64 b, .bool ok] ∧ ((ok = false ∧ r = none) ∨ (ok = true ∧ ∃ i k : Nat, a = i ∧ b = k ∧ r = some (i, k))) := by
  rcases r with _ | ⟨i, k⟩
  · exact ⟨0, 0, false, rfl, .inl ⟨rfl, rfl⟩⟩
  · exact ⟨i, k, true, rfl, .inr ⟨rfl, i, k, rfl, rfl, rfl⟩⟩
set_option maxHeartbeats 12800000 in
theorem walkIn (c : Conf) (vf vc vv : Value) (hx : FitConf c) (m h p : ByteArray) (hm : m.size ≤ 1048576) (hh : h.size ≤ 1048576) (hp : p.size ≤ 1048576) (v : Value) (G : List HField) (hG : Wide G) (hy : FRow.Nice v G.length) (hGl : G.length ≤ 1048576)
    (w : World) (hC : CF w vf vc vv c) (hF : FL w v G) :
    Calls Try.prog 3 #[.agg (confV c vf vc vv), .string m, .string h, .string p, v] w fun e w' => e = .returned (.bool true) ∧ Below w.heap.size w w' := by
  have HAn := Lib.hid (fun w => L15Anchor.anchor_any w)
  have HN1 := Lib.hid (fun w => RNormal.rnormal_any p hp w)
  have HChk := Lib.hid (fun w hC => R14Check.rcheck_any c vf vc vv hx w hC)
  have HFind := Lib.hid (fun v' w a b => pfind_any c vf vc vv m h p (by omega) (fun x hx2 r hr => by have := ((hx.vhosts.2 x hx2).routes.2 r hr).path; omega) v' G hG w a b)
  have HB := Lib.hid (Nb.start hC hF)
  have HX := Lib.hid hx
  have HP := Lib.hid hp
  obtain ⟨⟨pf, cf, rfl⟩, ⟨pc, cc, rfl⟩, ⟨pv, cv, rfl⟩⟩ := R14Bnd.CF.vals hC
  obtain ⟨pl, cl, rfl, hl42, -⟩ := id hF
  obtain ⟨g, hg⟩ : ∃ g, g = w.heap.size := ⟨_, rfl⟩
  rw [← hg] at HB
  have HG := Lib.hid hg
  have HY := Lib.hid hy
  have HGl := Lib.hid hGl
  clear hg hx hC hm hh hp hF hG hy hGl hl42
  unfold confV at HChk HFind HB ⊢
  go_enter Try.func3, Try.ntmps3
  go_wp2_with fail
  rw [← HG.out]
  refine (HAn.out _).mono ?_
  rintro e w2 ⟨rfl, hb2⟩
  have K2 : Hid (Nb w g c (.slice pf c.filters.length cf) (.slice pc c.clusters.length cc) (.slice pv c.vhosts.length cv) (.slice pl G.length cl) G w2) := Lib.hid (HB.out.call hb2)
  clear HB hb2 HAn
  have B2 := K2.out.box
  unfold confV at B2
  have c0 : w2.cell? ⟨g, 0, none⟩ = some (.int .i64 c.conns) := B2.cell 0
  have c1 : w2.cell? ⟨g, 1, none⟩ = some (.int .i64 c.body) := B2.cell 1
  have c2 : w2.cell? ⟨g, 2, none⟩ = some (.int .i64 c.idle) := B2.cell 2
  have c3 : w2.cell? ⟨g, 3, none⟩ = some (.int .i64 c.grace) := B2.cell 3
  have c4 : w2.cell? ⟨g, 4, none⟩ = some (.int .i64 c.budget) := B2.cell 4
  have c5 : w2.cell? ⟨g, 5, none⟩ = some (.int .i64 c.seed) := B2.cell 5
  have c6 : w2.cell? ⟨g, 6, none⟩ = some (.slice pf c.filters.length cf) := B2.cell 6
  have c7 : w2.cell? ⟨g, 7, none⟩ = some (.slice pc c.clusters.length cc) := B2.cell 7
  have c8 : w2.cell? ⟨g, 8, none⟩ = some (.slice pv c.vhosts.length cv) := B2.cell 8
  clear B2
  go_wp2_with fail
  refine (HN1.out _).mono ?_
  rintro e w3 ⟨rfl, hb3⟩
  have K3 := Lib.hid (K2.out.call hb3)
  clear K2 hb3 HN1 c0 c1 c2 c3 c4 c5 c6 c7 c8
  have B2 := K3.out.box
  unfold confV at B2
  have c0 : w3.cell? ⟨g, 0, none⟩ = some (.int .i64 c.conns) := B2.cell 0
  have c1 : w3.cell? ⟨g, 1, none⟩ = some (.int .i64 c.body) := B2.cell 1
  have c2 : w3.cell? ⟨g, 2, none⟩ = some (.int .i64 c.idle) := B2.cell 2
  have c3 : w3.cell? ⟨g, 3, none⟩ = some (.int .i64 c.grace) := B2.cell 3
  have c4 : w3.cell? ⟨g, 4, none⟩ = some (.int .i64 c.budget) := B2.cell 4
  have c5 : w3.cell? ⟨g, 5, none⟩ = some (.int .i64 c.seed) := B2.cell 5
  have c6 : w3.cell? ⟨g, 6, none⟩ = some (.slice pf c.filters.length cf) := B2.cell 6
  have c7 : w3.cell? ⟨g, 7, none⟩ = some (.slice pc c.clusters.length cc) := B2.cell 7
  have c8 : w3.cell? ⟨g, 8, none⟩ = some (.slice pv c.vhosts.length cv) := B2.cell 8
  clear B2
  obtain ⟨E, hE⟩ : ∃ E, Hid (E = check14 c) := ⟨_, Lib.hid rfl⟩
  rw [← hE.out] at HChk
  go_wp2_with fail
  refine (HChk.out _ K3.out.cf).mono ?_
  rintro e w4 ⟨rfl, hb4⟩
  have K4 := Lib.hid (K3.out.call hb4)
  clear K3 hb4 HChk c0 c1 c2 c3 c4 c5 c6 c7 c8
  by_cases h1 : ¬ E = 0
  · have q2 : (E != 0) = true := bne_iff_ne.2 h1
    clear hE
    go_wp2_with fail
    go_ret
    exact ⟨rfl, HG.out ▸ K4.out.below⟩
  replace h1 : E = 0 := Decidable.of_not_not h1
  have HR := Lib.hid (right_of (hE.out.symm.trans h1))
  clear hE
  subst h1
  cases hn : PathPure.normal (toL p) with
  | none =>
    obtain ⟨e1, e2⟩ := norm_none hn
    rw [e1, e2]
    clear hn e1 e2
    go_wp2_with fail
    go_ret
    exact ⟨rfl, HG.out ▸ K4.out.below⟩
  | some t =>
    obtain ⟨e1, e2⟩ := norm_some hn
    rw [e1, e2]
    have hq : ((ofL t).toList == p.toList) = (t == toL p) := by
      rw [ByteArray.toList_eq, ByteArray.toList_eq]
      show (toL (ofL t) == toL p) = _
      rw [toL_ofL]
    have hq2 : ((ofL t).toList != p.toList) = !(t == toL p) := by
      show (!((ofL t).toList == p.toList)) = _
      rw [hq]
    clear e1 e2
    by_cases ht : ¬ t = toL p
    · have hqt : ((ofL t).toList != p.toList) = true := by rw [hq2]; simpa using ht
      have hqu : ((ofL t).toList == p.toList) = false := by rw [hq]; simpa using ht
      clear hn hq hq2 ht
      go_wp2_with fail
      go_ret
      exact ⟨rfl, HG.out ▸ K4.out.below⟩
    replace ht : t = toL p := Decidable.of_not_not ht
    have hqt : (p.toList != p.toList) = false := by show (!(p.toList == p.toList)) = false; rw [beq_self_eq_true]; rfl
    have hqu : (p.toList == p.toList) = true := beq_self_eq_true _
    have HNp : Hid (PathPure.normal (toL p) = some (toL p)) := Lib.hid (by rw [hn, ht])
    rw [ht, ofL_toL]
    clear hn hq hq2 ht
    have P4 := K4.out.drew
    have s1 := ncells P4
    have hb0 := (Below.refl w4.heap.size w4).alloc (Nat.le_refl _) (.cells #[] 84)
    have P5 := (K4.out.call hb0).drew
    have s2 := ncells P5
    have hown := FRow.owns_none w4.drew 84 w4.heap.size (Nat.le_refl _)
    have hF5 := P5.fl
    have hGl := HGl.out
    have hown2 : ((w4.alloc (.cells #[] 84)).drew).ownsRow w4.heap.size 84 2 (.slice (some ⟨w4.heap.size, 0, none⟩) 0 0) 0 [] := FRow.owns_none w4 84 w4.heap.size (Nat.le_refl _)
    have hbs : w4.heap.size ≤ ((w4.alloc (.cells #[] 84)).drew).heap.size := by have := hb0.size; exact this
    have hcop := fun (w5 : World) v5 a b => copied_drew (w1 := w4) (w4 := w5) (v4 := v5) (G := G) a (by omega) b
    have HCop := Lib.hid hcop
    clear hcop hown
    obtain ⟨ra, rb, ok, hfv, hok⟩ := find_form (find15 c.vhosts (toL m) (toL h) (toL p) G)
    rw [hfv] at HFind
    have HOk := Lib.hid hok
    clear hfv hok
    go_wp2_with fail
    go_region_held3 (fun w' => w'.cell? ⟨g, 0, none⟩ = some (.int .i64 c.conns) ∧ w'.cell? ⟨g, 1, none⟩ = some (.int .i64 c.body) ∧ w'.cell? ⟨g, 2, none⟩ = some (.int .i64 c.idle) ∧ w'.cell? ⟨g, 3, none⟩ = some (.int .i64 c.grace) ∧ w'.cell? ⟨g, 4, none⟩ = some (.int .i64 c.budget) ∧ w'.cell? ⟨g, 5, none⟩ = some (.int .i64 c.seed) ∧ w'.cell? ⟨g, 6, none⟩ = some (.slice pf c.filters.length cf) ∧ w'.cell? ⟨g, 7, none⟩ = some (.slice pc c.clusters.length cc) ∧ w'.cell? ⟨g, 8, none⟩ = some (.slice pv c.vhosts.length cv)) (first | exact s6 | exact s3 | exact s2 | exact s1)
      (first
        | (refine RouStep.step_append_list (by rfl) (.tmp 43) (.tmp 44) (by rfl) w4.heap.size (.slice (some ⟨w4.heap.size, 0, none⟩) 0 0) 0 [] (by rfl) hown2 (.slice pl G.length cl) G (by rfl) hF5 HY.out (by omega) hbs ?_; intro v5 w5 ho5 hg5
           obtain ⟨hF6, hb6⟩ := HCop.out w5 v5 ho5 hg5
           have P6 := K4.out.call hb6
           have s3 := ncells P6
           clear ho5 hg5)
        | (go_at_call 9; refine (HFind.out v5 _ (VF.of_cf P6.cf) hF6).mono ?_; rintro e w6 ⟨rfl, hb7⟩
           have P7 := P6.call hb7
           have s6 := ncells P7))
    have K7 := Lib.hid P7
    clear P4 s1 hb0 P5 s2 hF5 hown2 hbs HCop hF6 hb6 P6 s3 hb7 P7 s6 hqt hqu
    rcases HOk.out with ⟨rfl, _⟩ | ⟨rfl, i, k, rfl, rfl, hfd⟩
    · go_wp2_with fail
      go_ret
      exact ⟨rfl, HG.out ▸ K7.out.below⟩
    · obtain ⟨hi, hk, hnr⟩ := normal15 HR.out hfd HNp.out
      obtain ⟨gs, os, hv, rfl, hrt, d0, d1⟩ := vdom_at K7.out.cf.vhosts i hi
      obtain ⟨pr, cr, rfl, -, -⟩ := hrt.parts
      obtain ⟨r, hr⟩ : ∃ r, r = c.vhosts[i].routes[k] := ⟨_, rfl⟩
      obtain ⟨gr, orr, rfl, m0, m1, m2, m3, m4, m5, m6, m7, m8, m9, m10, m11, m12⟩ := PRouIdx.routs_at hrt k hk r hr
      have hrl : r.rewrite.length ≤ 1048576 := hr ▸ ((HX.out.vhosts.2 _ (List.getElem_mem hi)).routes.2 _ (List.getElem_mem hk)).rewrite
      have hpl := HP.out
      have hsz := rw_size r (toL p)
      rw [toL_length] at hsz
      have HRw := Lib.hid (fun w => prewrite_any r p (by omega) w)
      have HN2 := Lib.hid (fun w => RNormBig.rnormal_big (ofL (rewrite15 r (toL p))) (by rw [ofL_size]; omega) w)
      rw [← hr] at hnr
      obtain ⟨e1, e2⟩ := norm_some hnr
      rw [toL_ofL, e1, e2] at HN2
      unfold routA at HRw
      generalize ofL (rewrite15 r (toL p)) = Q at *
      have ju1 : (i : Int) < (c.vhosts.length : Int) := by omega
      have ju2 : (0 : Int) ≤ (i : Int) := by omega
      have ju3 : (k : Int) < (c.vhosts[i].routes.length : Int) := by omega
      have ju4 : (0 : Int) ≤ (k : Int) := by omega
      have v1 : decide ((i : Int) < 0) = false := decide_eq_false (by omega)
      have v2 : decide ((c.vhosts.length : Int) ≤ (i : Int)) = false := decide_eq_false (by omega)
      have v3 : decide ((k : Int) < 0) = false := decide_eq_false (by omega)
      have v4 : decide ((c.vhosts[i].routes.length : Int) ≤ (k : Int)) = false := decide_eq_false (by omega)
      have v5 : decide (c.vhosts.length ≤ i) = false := decide_eq_false (by omega)
      have v6 : decide (c.vhosts[i].routes.length ≤ k) = false := decide_eq_false (by omega)
      have hs1 : (Q.toList == Q.toList) = true := beq_self_eq_true _
      have hbx := K7.out.box
      unfold confV at hbx
      have c8 : w6.cell? ⟨g, 8, none⟩ = some (.slice (some ⟨gs, os, none⟩) c.vhosts.length cv) := hbx.cell 8
      clear hfd hnr hrt hrl hpl hsz hbx hr e1 e2
      clear hk
      generalize c.vhosts[i].routes.length = rl at *
      generalize ofL c.vhosts[i].domain = D0 at d0
      clear hi
      go_wp2_with fail
      refine (HRw.out _).mono ?_
      rintro e w7 ⟨rfl, hb7⟩
      have HE7 := Lib.hid (K7.out.call hb7)
      clear K7 hb7 HRw c8 d0 d1 m0 m1 m2 m3 m4 m5 m6 m7 m8 m9 m10 m11 m12
      go_wp2_with fail
      refine (HN2.out _).mono ?_
      rintro e w8 ⟨rfl, hb8⟩
      have HE8 := Lib.hid (HE7.out.call hb8)
      clear HE7 hb8 HN2
      go_wp2_with fail
      go_ret
      exact ⟨rfl, HG.out ▸ HE8.out.below⟩
theorem walk {H : Type} {enc : TypeId × Value → H} {W : World} {base : Nat} (v : Value) (d : DataW H) (p : List MemPlace) (hv : Value.okWide Try.prog W .any base 26 v) (hd : DataW.Trod enc Try.prog W 0 (fun _ => true) true 26 v d p) (hl : ∀ x ∈ p, x.block < W.heap.size) (hb : Rows.uptoBulk d ≤ 1048576)
    (m : ByteArray) (_ : m.size ≤ maxLen) (hm : m.size ≤ 1048576) (h : ByteArray) (_ : h.size ≤ maxLen) (hh : h.size ≤ 1048576) (q : ByteArray) (_ : q.size ≤ maxLen) (hq : q.size ≤ 1048576)
    (v2 : Value) (d2 : DataW H) (p2 : List MemPlace) (hv2 : Value.okWide Try.prog W .any base 27 v2) (hd2 : DataW.Trod enc Try.prog W 0 (fun _ => true) true 27 v2 d2 p2) (hl2 : ∀ x ∈ p2, x.block < W.heap.size) (hb2 : Rows.uptoBulk d2 ≤ 1048576) :
    Calls Try.prog 3 #[v, .string m, .string h, .string q, v2] W fun e w' => e = .returned (.bool true) ∧ Below W.heap.size W w' := by
  obtain ⟨c, vf, vc, vv, rfl, hC, hx⟩ := ConfArg.conf_arg hv hd hb
  obtain ⟨G, hF, hG, hGl, hy⟩ := FArg.fields_arg hv2 hd2 hb2
  exact walkIn c vf vc vv hx m h q hm hh hq v2 G (few_wide hG) hy hGl W hC hF
end Go.Proofs.Ytcjobblhendkbaa.RouteNormalW
