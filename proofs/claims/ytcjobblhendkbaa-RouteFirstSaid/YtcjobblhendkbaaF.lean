/- Texts of this seat, one behind another: RouteFirstW. -/
import Derived.BigQuiet
import Derived.Deep.RegionHeld3
import Derived.Deep.DeepCutAuto
import Derived.Test.YtcjobblhendkbaaA3
import Derived.Test.YtcjobblhendkbaaB
import Derived.Test.YtcjobblhendkbaaC
/- Routes put behind the one that counts change nothing; one for everything put ahead of all takes all: RouteFirst returns true, whatever the config, the request and the route. -/
namespace Go.Proofs.Ytcjobblhendkbaa.RouteFirstW
open Go.ChangeShapes Go.WideShapes Go.ChangeAt Go.RowKit Bytes LexPure ConfPure ConfMem ConfOwn ConfCF RouteFind RoutePure FieldsPure Flds PValsW PRouBest PRouDom PRouLead PRouRew PRouFind RouRow RouArg RouStep RouState RowsArg RowKeep Ret Mem
set_option maxRecDepth 100000
set_option linter.unusedVariables false
set_option linter.unusedSimpArgs false
theorem infoR : (Try.prog.info? 39).map (fun i => (i.zero, i.size, i.bytes)) = some (some (.agg #[.bool false, .string .empty, .string .empty, .string .empty, .string .empty, .int .i64 0, .string .empty, .int .i64 0, .string .empty, .string .empty, .int .i64 0, .int .i64 0, .bool false]), 13, 160) := by kernel_rfl
theorem infoV : (Try.prog.info? 36).map (fun i => (i.zero, i.size, i.bytes)) = some (some (.agg #[.string .empty, .slice none 0 0]), 2, 40) := by kernel_rfl
/-- a vhost's cells, and those of all -/
theorem vl_cells {G : List Vhos} {hv : Nat → Value} (h : ∀ i, i < G.length → ∃ p n cap, hv i = .slice p n cap) : ∀ u ∈ (VL0 G hv).flatMap vl, u.oneCell' = true := by
  intro u hu
  obtain ⟨q, hq, hu⟩ := List.mem_flatMap.1 hu
  obtain ⟨j, hj, rfl⟩ := List.mem_map.1 hq
  rw [List.mem_range] at hj
  obtain ⟨p, n, cap, e⟩ := h j hj
  unfold vl vhosV at hu
  simp only [List.mem_cons, List.not_mem_nil, or_false] at hu
  rcases hu with rfl | rfl
  · rfl
  · rw [e]; rfl
theorem vl_get (G : List Vhos) (hv : Nat → Value) (i : Nat) (hi : i < G.length) (j : Nat) (hj : j < 2) : ((VL0 G hv).flatMap vl)[i * 2 + j]? = some ((vhosV (G.getD i zVhos) (hv i)).getD j undef) := by
  have hi2 : i < (VL0 G hv).length := by rw [VL0_len]; exact hi
  rw [flat_at vl 2 (fun _ => rfl) (VL0 G hv) i j hi2 hj]
  congr 2
  rw [VL0_at]; rfl
theorem vl_len (G : List Vhos) (hv : Nat → Value) : ((VL0 G hv).flatMap vl).length = G.length * 2 := by
  rw [List.length_flatMap, show (fun a => (vl a).length) = fun _ => 2 from rfl, List.map_const', List.sum_replicate_nat, VL0_len]
theorem rt_len (rs : List Rout) : (rs.flatMap routV).length = rs.length * 13 := by
  rw [List.length_flatMap, show (fun a => (routV a).length) = fun _ => 13 from rfl, List.map_const', List.sum_replicate_nat]
theorem rt_cells (rs : List Rout) : ∀ u ∈ rs.flatMap routV, u.oneCell' = true := by
  intro u hu
  obtain ⟨q, hq, hu⟩ := List.mem_flatMap.1 hu
  unfold routV at hu
  simp only [List.mem_cons, List.not_mem_nil, or_false] at hu
  rcases hu with rfl | rfl | rfl | rfl | rfl | rfl | rfl | rfl | rfl | rfl | rfl | rfl | rfl <;> rfl
theorem rt_get (rs : List Rout) (i : Nat) (hi : i < rs.length) (j : Nat) (hj : j < 13) : (rs.flatMap routV)[i * 13 + j]? = some ((routV (rs.getD i zRout)).getD j undef) := by
  rw [flat_at routV 13 (fun _ => rfl) rs i j hi hj]
  congr 2
  simp [List.getD, List.getElem?_eq_getElem hi]
theorem below_dr {B : Nat} {w W : World} (h : Below B w W) : Below B w W.drew := ⟨h.os, h.tape, h.output, h.size, h.block⟩
theorem own_dr {W : World} {base n size : Nat} {e : TypeId} {v : Value} {xs : List Value} (h : W.ownsRow base e size v n xs) : W.drew.ownsRow base e size v n xs := h
theorem below_two {w a b : World} (h : Below w.heap.size w a) (k : Below a.heap.size a b) : Below w.heap.size w b := below_chain h k
theorem below_row {B : Nat} {a w w' : World} {o : Option Nat} (h : Below B a w) (hg : w.grownBy w' o) (hB : B ≤ w.heap.size) (ho : ∀ k, o = some k → B ≤ k) : Below B a w' := h.grown hg hB ho
theorem one_get (mo : Rout) (i : Nat) (hi : i < 1) (j : Nat) (hj : j < 13) : (routV mo)[i * 13 + j]? = some ((routV mo).getD j undef) := by
  obtain rfl : i = 0 := by omega
  rw [show 0 * 13 + j = j by omega, List.getD_eq_getElem?_getD, List.getElem?_eq_getElem (show j < (routV mo).length from hj)]
  rfl
theorem one_cells (mo : Rout) : ∀ u ∈ routV mo, u.oneCell' = true := by
  intro u hu
  have := rt_cells [mo] u (by simpa using hu)
  exact this
theorem flat_snoc (rs : List Rout) (mo : Rout) : (rs ++ [mo]).flatMap routV = rs.flatMap routV ++ routV mo := by simp
theorem len_snoc (rs : List Rout) (mo : Rout) : (rs ++ [mo]).length = rs.length + 1 := by simp
theorem own_snoc {W : World} {base : Nat} {v : Value} {rs : List Rout} {mo : Rout} (h : W.ownsRow base 39 13 v (rs.length + 1) (rs.flatMap routV ++ routV mo)) : W.ownsRow base RT 13 v (rs ++ [mo]).length ((rs ++ [mo]).flatMap routV) := by
  rw [flat_snoc, len_snoc]
  exact h
theorem own_cons {W : World} {base : Nat} {v : Value} {rs : List Rout} {mo : Rout} (h : W.ownsRow base 39 13 v (1 + rs.length) (routV mo ++ rs.flatMap routV)) : W.ownsRow base RT 13 v (mo :: rs).length ((mo :: rs).flatMap routV) := by
  rw [List.length_cons, List.flatMap_cons, Nat.add_comm]
  exact h
theorem put_fst (G : List Vhos) (hv : Nat → Value) (i : Nat) (x : Vhos) (R : Value) : ((VL0 G hv).set i (x, R)).map (·.1) = G.set i x := by rw [List.map_set, VL0_fst]
theorem paths_in {G : List Vhos} {i : Nat} {d : L} {rs : List Rout} (h : ∀ x ∈ G, ∀ r ∈ x.routes, r.path.length ≤ 9223372036854775807) (hr : ∀ r ∈ rs, r.path.length ≤ 9223372036854775807) : ∀ x ∈ G.set i ⟨d, rs⟩, ∀ r ∈ x.routes, r.path.length ≤ 9223372036854775807 := by
  intro x hx r hrx
  rcases List.mem_or_eq_of_mem_set hx with q | q
  · exact h x q r hrx
  · subst q; exact hr r hrx
/-- a route for everything -/
def PA (p : ByteArray) : Rout := ⟨true, toL p, [], [], [], 0, [], 0, [], [], 0, 0, false⟩
theorem own_pa {W : World} {base : Nat} {v : Value} {p : ByteArray} (h : W.ownsRow base 39 13 v 1 (#[.bool true, .string p, .string ⟨#[]⟩, .string ⟨#[]⟩, .string ⟨#[]⟩, .int .i64 0, .string ⟨#[]⟩, .int .i64 0, .string ⟨#[]⟩, .string ⟨#[]⟩, .int .i64 0, .int .i64 0, .bool false] : Array Value).toList) : W.ownsRow base 39 13 v 1 (routV (PA p)) := by
  unfold PA routV
  rw [ofL_toL]
  exact h
theorem vh_of {w W : World} {c : Conf} {vf vc vv2 : Value} {g2 : Nat} {hv : Nat → Value} {i : Nat} {x : Vhos} {R : Value} (h : Ds w c vf vc g2 vv2 ((VL0 c.vhosts hv).set i (x, R)) W) : Vhoss W vv2 (c.vhosts.set i x) := by
  have := h.vh
  rwa [put_fst] at this
theorem find_say (r : Option (Nat × Nat)) : findV r = .tuple #[.int .i64 (match r with | some q => (q.1 : Int) | none => 0), .int .i64 (match r with | some q => (q.2 : Int) | none => 0), .bool r.isSome] := by
  rcases r with _ | ⟨i, k⟩ <;> rfl
set_option maxHeartbeats 12800000 in
theorem walkIn (c : Conf) (vf vc vv : Value) (hv : Nat → Value) (mo : Rout) (hmo : mo.path.length ≤ 9223372036854775807) (mt h p : ByteArray) (hh : h.size ≤ 9223372036854775807) (hp : p.size ≤ 9223372036854775807) (v : Value) (G : List HField) (hG : Wide G)
    (w : World) (hC : VF w c vf vc vv) (hRV : RV w vv c.vhosts hv) (hF : FL w v G) :
    Calls Try.prog 4 #[.agg (confV c vf vc vv), .string mt, .string h, .string p, v, .agg (routA mo)] w fun e w' => e = .returned (.bool true) ∧ Below w.heap.size w w' := by
  obtain ⟨i0, hir, hr0, hr1, hr2⟩ := info_parts infoR
  obtain ⟨i1, hiv, hv0, hv1, hv2⟩ := info_parts infoV
  have HAn := Lib.hid (fun w => L15Anchor.anchor_any w)
  have HDom := Lib.hid (fun w hC => pdomain_any c vf vc vv h hh w hC)
  have HFind := Lib.hid (fun (d : Conf) (vw : Value) (e : confV d vf vc vw = confV c vf vc vw) hr w a b => pfind_any d vf vc vw mt h p hh hr v G hG w a b)
  have HK1 : Hid (Sb w c vf vc vv mo ((w.alloc (.cells (confV c vf vc vv) CT)).alloc (.cells (routA mo) RT))) := Lib.hid Sb.start
  have HRV := Lib.hid hRV
  have HF := Lib.hid hF
  obtain ⟨⟨pf, nf, cf, rfl⟩, ⟨pc, nc, cc, rfl⟩, hV⟩ := hC
  obtain ⟨pv, cv, rfl, hn63, -⟩ := hV.parts
  obtain ⟨pl, cl, rfl, -, -⟩ := id hF
  have HVF : Hid (∀ W, Below w.heap.size w W → VF W c (.slice pf nf cf) (.slice pc nc cc) (.slice pv c.vhosts.length cv)) := Lib.hid (fun W hb => ⟨⟨_, _, _, rfl⟩, ⟨_, _, _, rfl⟩, hV.below hb⟩)
  have HMO := Lib.hid hmo
  have HPs := Lib.hid hp
  clear hF hV hRV hh hp hG hmo
  obtain ⟨g, hg⟩ : ∃ g, g = w.heap.size := ⟨_, rfl⟩
  have HG := Lib.hid hg
  clear hg
  have HS0 : Hid (∀ W, Sb w c (.slice pf nf cf) (.slice pc nc cc) (.slice pv c.vhosts.length cv) mo W → W.cell? ⟨g, 0, none⟩ = some (.int .i64 c.conns) ∧ W.cell? ⟨g, 1, none⟩ = some (.int .i64 c.body) ∧ W.cell? ⟨g, 2, none⟩ = some (.int .i64 c.idle) ∧ W.cell? ⟨g, 3, none⟩ = some (.int .i64 c.grace) ∧ W.cell? ⟨g, 4, none⟩ = some (.int .i64 c.budget) ∧ W.cell? ⟨g, 5, none⟩ = some (.int .i64 c.seed) ∧ W.cell? ⟨g, 6, none⟩ = some (.slice pf nf cf) ∧ W.cell? ⟨g, 7, none⟩ = some (.slice pc nc cc) ∧ W.cell? ⟨g, 8, none⟩ = some (.slice pv c.vhosts.length cv)) := Lib.hid (fun W x => by
    have B2 := x.box
    unfold confV at B2
    rw [HG.out]
    exact ⟨B2.cell 0, B2.cell 1, B2.cell 2, B2.cell 3, B2.cell 4, B2.cell 5, B2.cell 6, B2.cell 7, B2.cell 8⟩)
  unfold confV CT routA RT at HK1
  unfold confV at HDom ⊢
  unfold routA
  go_enter Try.func4, Try.ntmps4
  go_wp2_with fail
  refine (HAn.out _).mono ?_
  rintro e w2 ⟨rfl, hb2⟩
  have K2 := Lib.hid (HK1.out.call hb2)
  clear HK1 hb2 HAn
  rw [← HG.out]
  obtain ⟨c0, c1, c2, c3, c4, c5, c6, c7, c8⟩ := HS0.out _ K2.out
  obtain ⟨dm, hdm⟩ : ∃ dm, Hid (dm = dom15 (c.vhosts.map (·.domain)) (toL h)) := ⟨_, Lib.hid rfl⟩
  rw [← hdm.out] at HDom
  go_wp2_with fail
  refine (HDom.out _ (HVF.out _ K2.out.below)).mono ?_
  rintro e w3 ⟨rfl, hb3⟩
  have K3 := Lib.hid (K2.out.call hb3)
  clear K2 hb3 HDom c0 c1 c2 c3 c4 c5 c6 c7 c8
  obtain ⟨c0, c1, c2, c3, c4, c5, c6, c7, c8⟩ := HS0.out _ K3.out
  have HF1 := Lib.hid (fun w a b => HFind.out c (.slice pv c.vhosts.length cv) rfl (fun x hx => HRV.out.path x hx) w a b)
  unfold confV at HF1
  cases dm with
  | none =>
    have hfn := find_none c.vhosts (toL mt) (toL h) (toL p) G hdm.out.symm
    rw [hfn] at HF1
    have v1 : decide ((c.vhosts.length : Int) ≤ -1) = false := decide_eq_false (by omega)
    clear hdm hfn
    dsimp only [domI]
    go_wp2_with fail
    refine (HF1.out _ (HVF.out _ K3.out.below) (HF.out.below K3.out.below)).mono ?_
    rintro e w4 ⟨rfl, hb4⟩
    have K4 := Lib.hid (K3.out.call hb4)
    clear K3 hb4 HF1 c0 c1 c2 c3 c4 c5 c6 c7 c8
    dsimp only [findV]
    go_wp2_with fail
    go_ret
    exact ⟨rfl, K4.out.below⟩
  | some i =>
    have hi : i < c.vhosts.length := by have := dom_lt hdm.out.symm; rwa [List.length_map] at this
    obtain ⟨rs, hrs⟩ : ∃ rs, Hid (rs = (c.vhosts.getD i zVhos).routes) := ⟨_, Lib.hid rfl⟩
    have hfd : find15 c.vhosts (toL mt) (toL h) (toL p) G = (route15 rs (toL mt) (toL p) G).map fun k => (i, k) := by rw [hrs.out, getD_at hi]; exact find_dom c.vhosts i hi (toL mt) (toL h) (toL p) G hdm.out.symm
    rw [hfd] at HF1
    have v1 : decide ((i : Int) < -1) = false := decide_eq_false (by omega)
    have v2 : decide ((c.vhosts.length : Int) ≤ (i : Int)) = false := decide_eq_false (by omega)
    have v3 : decide ((i : Int) < 0) = false := decide_eq_false (by omega)
    have v4 : decide (c.vhosts.length ≤ i) = false := decide_eq_false (by omega)
    have HI := Lib.hid hi
    obtain ⟨r0, hr0'⟩ : ∃ r0, Hid (r0 = route15 rs (toL mt) (toL p) G) := ⟨_, Lib.hid rfl⟩
    rw [← hr0'.out] at HF1
    rw [find_say] at HF1
    obtain ⟨ra, hra⟩ : ∃ ra : Int, Hid (ra = match (r0.map fun k => (i, k)) with | some q => (q.1 : Int) | none => 0) := ⟨_, Lib.hid rfl⟩
    obtain ⟨rb, hrb⟩ : ∃ rb : Int, Hid (rb = match (r0.map fun k => (i, k)) with | some q => (q.2 : Int) | none => 0) := ⟨_, Lib.hid rfl⟩
    obtain ⟨ok, hok⟩ : ∃ ok : Bool, Hid (ok = (r0.map fun k => (i, k)).isSome) := ⟨_, Lib.hid rfl⟩
    rw [← hra.out, ← hrb.out, ← hok.out] at HF1
    have hii : (i : Int) < (c.vhosts.length : Int) := by omega
    have hi0 : (0 : Int) ≤ (i : Int) := by omega
    clear hi hfd
    dsimp only [domI]
    go_wp2_with fail
    refine (HF1.out _ (HVF.out _ K3.out.below) (HF.out.below K3.out.below)).mono ?_
    rintro e w4 ⟨rfl, hb4⟩
    have K4 := Lib.hid (K3.out.call hb4)
    clear K3 hb4 HF1 v1 v2 v3 v4 c0 c1 c2 c3 c4 c5 c6 c7 c8
    obtain ⟨c0, c1, c2, c3, c4, c5, c6, c7, c8⟩ := HS0.out _ K4.out
    dsimp only
    have W1d : World := w4.alloc (.cells #[.int .i64 c.conns, .int .i64 c.body, .int .i64 c.idle, .int .i64 c.grace, .int .i64 c.budget, .int .i64 c.seed, .slice pf nf cf, .slice pc nc cc, .slice pv c.vhosts.length cv] 26)
    clear W1d
    have bA := (Below.refl w4.heap.size w4).alloc (Nat.le_refl _) (.cells #[.int .i64 c.conns, .int .i64 c.body, .int .i64 c.idle, .int .i64 c.grace, .int .i64 c.budget, .int .i64 c.seed, .slice pf nf cf, .slice pc nc cc, .slice pv c.vhosts.length cv] 26)
    have bB := bA.alloc (by simp) (.cells #[] 36)
    have x8 := (HS0.out _ (K4.out.call bB)).2.2.2.2.2.2.2.2
    have ownA : ((w4.alloc (.cells #[.int .i64 c.conns, .int .i64 c.body, .int .i64 c.idle, .int .i64 c.grace, .int .i64 c.budget, .int .i64 c.seed, .slice pf nf cf, .slice pc nc cc, .slice pv c.vhosts.length cv] 26)).alloc (.cells #[] 36)).ownsRow (w.heap.size + 2) 36 2 (.slice (some ⟨w4.heap.size + 1, 0, none⟩) 0 0) 0 [] := by
      have := owns_new (w4.alloc (.cells #[.int .i64 c.conns, .int .i64 c.body, .int .i64 c.idle, .int .i64 c.grace, .int .i64 c.budget, .int .i64 c.seed, .slice pf nf cf, .slice pc nc cc, .slice pv c.vhosts.length cv] 26)) 36 (w.heap.size + 2) 2 0 #[] (by have := K4.out.size; simp; omega) (by decide) rfl
      simpa using this
    have hdA : Has ((w4.alloc (.cells #[.int .i64 c.conns, .int .i64 c.body, .int .i64 c.idle, .int .i64 c.grace, .int .i64 c.budget, .int .i64 c.seed, .slice pf nf cf, .slice pc nc cc, .slice pv c.vhosts.length cv] 26)).alloc (.cells #[] 36)) w4.heap.size 26 #[.int .i64 c.conns, .int .i64 c.body, .int .i64 c.idle, .int .i64 c.grace, .int .i64 c.budget, .int .i64 c.seed, .slice pf nf cf, .slice pc nc cc, .slice pv c.vhosts.length cv] := (Has.new _ _ _).alloc _
    have hRA := (HRV.out.below (K4.out.call bB).below)
    have hszA : w.heap.size + 2 ≤ ((w4.alloc (.cells #[.int .i64 c.conns, .int .i64 c.body, .int .i64 c.idle, .int .i64 c.grace, .int .i64 c.budget, .int .i64 c.seed, .slice pf nf cf, .slice pc nc cc, .slice pv c.vhosts.length cv] 26)).alloc (.cells #[] 36)).heap.size := (K4.out.call bB).size
    have HKA := Lib.hid (K4.out.call bB)
    have HRA := Lib.hid hRA
    have HDA := Lib.hid hdA
    have HLo := Lib.hid K4.out.size
    have hhv : ∀ i, i < c.vhosts.length → ∃ p n cap, hv i = .slice p n cap := fun i hi => by
      rcases (hRA.rows i hi).2.1 with e | ⟨a, cap, e⟩
      · exact ⟨_, _, _, e⟩
      · exact ⟨_, _, _, e⟩
    have HHV := Lib.hid hhv
    have hlen := hRA.len
    clear hdA hRA hhv K4
    go_wp2_with (at_builtin; refine wpList_append_rows rfl _ _ 24 rfl 36 i1 (.agg #[.string .empty, .slice none 0 0]) 2 40 Try.underlying24 hiv hv0 hv1 hv2 rfl (by decide) (w.heap.size + 2) (.slice (some ⟨w4.heap.size + 1, 0, none⟩) 0 0) 0 [] rfl ownA (.slice pv c.vhosts.length cv) c.vhosts.length _ rfl HRA.out.row HRA.out.nice ((VL0 c.vhosts hv).flatMap vl) (vl_len _ _) (fun i hi j hj => vl_get _ _ i hi j hj) (vl_cells HHV.out) (by unfold maxLen; omega) (by omega) hszA ?_; intro v5 w5 ho5 hg5 hb5
                 rw [Nat.zero_add, List.nil_append] at ho5
                 obtain ⟨p5, k5, rfl, hc5⟩ := RowKeep.row_form ho5
                 have hD5 := HDA.out.grown hg5 (fun e => by have e2 : some w4.heap.size = some (w4.heap.size + 1) := e; injection e2 with e2; omega)
                 have d8 : w5.cell? ⟨w4.heap.size, 8, none⟩ = some (.slice pv c.vhosts.length cv) := hD5.cell 8
                 have f8 : w5.frozen? ⟨w4.heap.size, 8, none⟩ = false := hD5.free 8
                 have HO5 := Lib.hid ho5
                 have HG5 := Lib.hid hg5
                 have HB5 := Lib.hid hb5
                 have HD5 := Lib.hid hD5
                 clear ho5 hg5 hb5 hD5 ownA)
    have K5 := HKA.out.grown HG5.out (fun k e => by have e2 : some (w4.heap.size + 1) = some k := e; injection e2 with e2; have := HLo.out; omega)
    obtain ⟨K6, D6⟩ := Ds.start K5 HRV.out HD5.out HLo.out HO5.out
    replace K6 := Lib.hid K6
    replace D6 := Lib.hid D6
    clear K5 HKA HG5 HB5 HD5 HO5 HRA HDA x8 d8 f8 hszA bA bB
    obtain ⟨g2, hg2⟩ : ∃ g2, g2 = w4.heap.size := ⟨_, rfl⟩
    rw [← hg2] at K6 D6 HLo ⊢
    clear hg2 c0 c1 c2 c3 c4 c5 c6 c7 c8
    generalize w5.setCell ⟨g2, 8, none⟩ (.slice p5 c.vhosts.length k5) = w6 at K6 D6 ⊢
    have hiN := HI.out
    obtain ⟨gv, cv5, hvv, hgv1, hgv2, _, hrowc⟩ := RowKeep.row_at D6.out.row (by rw [VL0_len]; omega)
    rw [VL0_len] at hvv
    injection hvv with e1 _ e3
    subst e1 e3
    obtain ⟨gs, os, hvs, hgs, hvc⟩ : ∃ gs os, pv = some ⟨gs, os, none⟩ ∧ gs < w.heap.size ∧ ∀ j, j < c.vhosts.length → w.cell? ⟨gs, os + j * 2 + 1, none⟩ = some (hv j) := by
      obtain ⟨p2, c2, e2, _, hc⟩ := HRV.out.row
      injection e2 with e2 _ _
      obtain ⟨gs, os, hp, hlt, hcell⟩ := hc (by omega)
      exact ⟨gs, os, e2.trans hp, hlt, fun j hj => hcell j hj 1 (by decide)⟩
    subst hvs
    obtain ⟨pr, cr, hvr, -, -⟩ := (HRV.out.rows i hiN).1.parts
    rw [← hrs.out] at hvr
    have HVR := Lib.hid hvr
    have HRt : Hid (∀ X, Below w.heap.size w X → Routs X (.slice pr rs.length cr) rs) := Lib.hid (fun X hb => by have := ((HRV.out.rows i hiN).1.below hb); rwa [hvr, ← hrs.out] at this)
    have HNi : Hid (Nice (.slice pr rs.length cr) rs.length) := Lib.hid (by have := (HRV.out.rows i hiN).2.1; rwa [hvr, ← hrs.out] at this)
    have hrl : rs.length * 160 ≤ 140737488351232 := by have := (HRV.out.rows i hiN).2.2; rwa [← hrs.out] at this
    have HVC : Hid (∀ X, Below w.heap.size w X → X.cell? ⟨gs, os + i * 2 + 1, none⟩ = some (.slice pr rs.length cr)) := Lib.hid (fun X hb => by rw [← hvr]; exact (hb.cell (p := ⟨gs, os + i * 2 + 1, none⟩) hgs).trans (hvc i hiN))
    have HVL : Hid (∀ (h : i < (VL0 c.vhosts hv).length), (VL0 c.vhosts hv)[i] = (c.vhosts.getD i zVhos, hv i)) := Lib.hid (fun h => VL0_at _ _ _ h)
    have HVi : Hid (i < (VL0 c.vhosts hv).length) := Lib.hid (by rw [VL0_len]; exact hiN)
    have HN2 := Lib.hid hgv2
    have hm1 : 0 + rs.length ≤ maxLen := by unfold maxLen; omega
    have hm2 : (0 + rs.length) * 160 ≤ 140737488355328 := by omega
    have hm3 : rs.length + 1 ≤ maxLen := by unfold maxLen; omega
    have hm4 : (rs.length + 1) * 160 ≤ 140737488355328 := by omega
    have HSS : Hid (∀ X VL, Sb w c (.slice pf nf cf) (.slice pc nc cc) (.slice (some ⟨gs, os, none⟩) c.vhosts.length cv) mo X → Ds w c (.slice pf nf cf) (.slice pc nc cc) g2 (.slice (some ⟨gv, 0, none⟩) c.vhosts.length k5) VL X → X.cell? ⟨g, 8, none⟩ = some (.slice (some ⟨gs, os, none⟩) c.vhosts.length cv) ∧ X.cell? ⟨g2, 8, none⟩ = some (.slice (some ⟨gv, 0, none⟩) c.vhosts.length k5) ∧ X.cell? ⟨gs, os + i * 2 + 1, none⟩ = some (.slice pr rs.length cr) ∧ X.cell? ⟨g + 1, 0, none⟩ = some (.bool mo.pre) ∧ X.cell? ⟨g + 1, 1, none⟩ = some (.string (ofL mo.path)) ∧ X.cell? ⟨g + 1, 2, none⟩ = some (.string (ofL mo.method)) ∧ X.cell? ⟨g + 1, 3, none⟩ = some (.string (ofL mo.field)) ∧ X.cell? ⟨g + 1, 4, none⟩ = some (.string (ofL mo.value)) ∧ X.cell? ⟨g + 1, 5, none⟩ = some (.int .i64 mo.action) ∧ X.cell? ⟨g + 1, 6, none⟩ = some (.string (ofL mo.cluster)) ∧ X.cell? ⟨g + 1, 7, none⟩ = some (.int .i64 mo.status) ∧ X.cell? ⟨g + 1, 8, none⟩ = some (.string (ofL mo.text)) ∧ X.cell? ⟨g + 1, 9, none⟩ = some (.string (ofL mo.rewrite)) ∧ X.cell? ⟨g + 1, 10, none⟩ = some (.int .i64 mo.retries) ∧ X.cell? ⟨g + 1, 11, none⟩ = some (.int .i64 mo.timeout) ∧ X.cell? ⟨g + 1, 12, none⟩ = some (.bool mo.upgrade)) := Lib.hid (fun X VL K D => by
      have B2 := K.box
      have B3 := D.box
      have B4 := K.rbox
      unfold confV at B2 B3
      unfold routA at B4
      rw [← HG.out] at B2 B4
      exact ⟨B2.cell 8, B3.cell 8, HVC.out X K.below, B4.cell 0, B4.cell 1, B4.cell 2, B4.cell 3, B4.cell 4, B4.cell 5, B4.cell 6, B4.cell 7, B4.cell 8, B4.cell 9, B4.cell 10, B4.cell 11, B4.cell 12⟩)
    clear hvr hgs hvc hgv1 hgv2 hrowc hiN hn63 hlen HLo
    go_upto_region 12 with fail
    go_cut [] (fun wx => ∃ R : Value, Hid (Sb w c (.slice pf nf cf) (.slice pc nc cc) (.slice (some ⟨gs, os, none⟩) c.vhosts.length cv) mo wx ∧ Ds w c (.slice pf nf cf) (.slice pc nc cc) g2 (.slice (some ⟨gv, 0, none⟩) c.vhosts.length k5) ((VL0 c.vhosts hv).set i (⟨(c.vhosts.getD i zVhos).domain, rs ++ [mo]⟩, R)) wx))
    case first =>
      have KN := K6.out.size
      have s0 := HSS.out _ _ (K6.out.call (below_dr (Below.refl _ w6))) (D6.out.call (below_dr (Below.refl _ w6)))
      have bE1 : Below w6.heap.size w6 (w6.alloc (.cells #[] 39)).drew := below_dr (((Below.refl _ _).alloc (Nat.le_refl _) _))
      have sE1 := HSS.out _ _ (K6.out.call bE1) (D6.out.call bE1)
      have zE1 : w6.heap.size ≤ (w6.alloc (.cells #[] 39)).drew.heap.size := bE1.size
      have bEM : Below w6.heap.size w6 ((w6.alloc (.cells #[] 39)).alloc (.cells #[.bool mo.pre, .string (ofL mo.path), .string (ofL mo.method), .string (ofL mo.field), .string (ofL mo.value), .int .i64 mo.action, .string (ofL mo.cluster), .int .i64 mo.status, .string (ofL mo.text), .string (ofL mo.rewrite), .int .i64 mo.retries, .int .i64 mo.timeout, .bool mo.upgrade] 39)).drew := below_dr ((((Below.refl _ _).alloc (Nat.le_refl _) _).alloc (by simp) _))
      have sEM := HSS.out _ _ (K6.out.call bEM) (D6.out.call bEM)
      have zEM : w6.heap.size ≤ ((w6.alloc (.cells #[] 39)).alloc (.cells #[.bool mo.pre, .string (ofL mo.path), .string (ofL mo.method), .string (ofL mo.field), .string (ofL mo.value), .int .i64 mo.action, .string (ofL mo.cluster), .int .i64 mo.status, .string (ofL mo.text), .string (ofL mo.rewrite), .int .i64 mo.retries, .int .i64 mo.timeout, .bool mo.upgrade] 39)).drew.heap.size := bEM.size
      have bM1 : Below w6.heap.size w6 (w6.alloc (.cells #[.bool mo.pre, .string (ofL mo.path), .string (ofL mo.method), .string (ofL mo.field), .string (ofL mo.value), .int .i64 mo.action, .string (ofL mo.cluster), .int .i64 mo.status, .string (ofL mo.text), .string (ofL mo.rewrite), .int .i64 mo.retries, .int .i64 mo.timeout, .bool mo.upgrade] 39)).drew := below_dr (((Below.refl _ _).alloc (Nat.le_refl _) _))
      have sM1 := HSS.out _ _ (K6.out.call bM1) (D6.out.call bM1)
      have zM1 : w6.heap.size ≤ (w6.alloc (.cells #[.bool mo.pre, .string (ofL mo.path), .string (ofL mo.method), .string (ofL mo.field), .string (ofL mo.value), .int .i64 mo.action, .string (ofL mo.cluster), .int .i64 mo.status, .string (ofL mo.text), .string (ofL mo.rewrite), .int .i64 mo.retries, .int .i64 mo.timeout, .bool mo.upgrade] 39)).drew.heap.size := bM1.size
      have bME : Below w6.heap.size w6 ((w6.alloc (.cells #[.bool mo.pre, .string (ofL mo.path), .string (ofL mo.method), .string (ofL mo.field), .string (ofL mo.value), .int .i64 mo.action, .string (ofL mo.cluster), .int .i64 mo.status, .string (ofL mo.text), .string (ofL mo.rewrite), .int .i64 mo.retries, .int .i64 mo.timeout, .bool mo.upgrade] 39)).alloc (.cells #[] 39)).drew := below_dr ((((Below.refl _ _).alloc (Nat.le_refl _) _).alloc (by simp) _))
      have sME := HSS.out _ _ (K6.out.call bME) (D6.out.call bME)
      have zME : w6.heap.size ≤ ((w6.alloc (.cells #[.bool mo.pre, .string (ofL mo.path), .string (ofL mo.method), .string (ofL mo.field), .string (ofL mo.value), .int .i64 mo.action, .string (ofL mo.cluster), .int .i64 mo.status, .string (ofL mo.text), .string (ofL mo.rewrite), .int .i64 mo.retries, .int .i64 mo.timeout, .bool mo.upgrade] 39)).alloc (.cells #[] 39)).drew.heap.size := bME.size
      have oE1 : (w6.alloc (.cells #[] 39)).drew.ownsRow w6.heap.size 39 13 (.slice (some ⟨w6.heap.size, 0, none⟩) 0 0) 0 [] := own_dr (owns_new w6 39 w6.heap.size 13 0 #[] (Nat.le_refl _) (by decide) rfl)
      have oEM : ((w6.alloc (.cells #[] 39)).alloc (.cells #[.bool mo.pre, .string (ofL mo.path), .string (ofL mo.method), .string (ofL mo.field), .string (ofL mo.value), .int .i64 mo.action, .string (ofL mo.cluster), .int .i64 mo.status, .string (ofL mo.text), .string (ofL mo.rewrite), .int .i64 mo.retries, .int .i64 mo.timeout, .bool mo.upgrade] 39)).drew.ownsRow w6.heap.size 39 13 (.slice (some ⟨w6.heap.size, 0, none⟩) 0 0) 0 [] := own_dr (row_below (owns_new w6 39 w6.heap.size 13 0 #[] (Nat.le_refl _) (by decide) rfl) ((Below.refl _ _).alloc (Nat.le_refl _) _))
      have oME : ((w6.alloc (.cells #[.bool mo.pre, .string (ofL mo.path), .string (ofL mo.method), .string (ofL mo.field), .string (ofL mo.value), .int .i64 mo.action, .string (ofL mo.cluster), .int .i64 mo.status, .string (ofL mo.text), .string (ofL mo.rewrite), .int .i64 mo.retries, .int .i64 mo.timeout, .bool mo.upgrade] 39)).alloc (.cells #[] 39)).drew.ownsRow w6.heap.size 39 13 (.slice (some ⟨w6.heap.size + 1, 0, none⟩) 0 0) 0 [] := own_dr (by have := owns_new (w6.alloc (.cells #[.bool mo.pre, .string (ofL mo.path), .string (ofL mo.method), .string (ofL mo.field), .string (ofL mo.value), .int .i64 mo.action, .string (ofL mo.cluster), .int .i64 mo.status, .string (ofL mo.text), .string (ofL mo.rewrite), .int .i64 mo.retries, .int .i64 mo.timeout, .bool mo.upgrade] 39)) 39 w6.heap.size 13 0 #[] (by simp) (by decide) rfl; simpa using this)
      have mEM : Has ((w6.alloc (.cells #[] 39)).alloc (.cells #[.bool mo.pre, .string (ofL mo.path), .string (ofL mo.method), .string (ofL mo.field), .string (ofL mo.value), .int .i64 mo.action, .string (ofL mo.cluster), .int .i64 mo.status, .string (ofL mo.text), .string (ofL mo.rewrite), .int .i64 mo.retries, .int .i64 mo.timeout, .bool mo.upgrade] 39)).drew (w6.heap.size + 1) 39 (routA mo) := Has.drew (by have := Has.new (w6.alloc (.cells #[] 39)) 39 (routA mo); simpa [routA] using this)
      have mME : Has ((w6.alloc (.cells #[.bool mo.pre, .string (ofL mo.path), .string (ofL mo.method), .string (ofL mo.field), .string (ofL mo.value), .int .i64 mo.action, .string (ofL mo.cluster), .int .i64 mo.status, .string (ofL mo.text), .string (ofL mo.rewrite), .int .i64 mo.retries, .int .i64 mo.timeout, .bool mo.upgrade] 39)).alloc (.cells #[] 39)).drew w6.heap.size 39 (routA mo) := ((Has.new w6 39 (routA mo)).alloc _).drew
      go_region_held3 (fun w' => w'.cell? ⟨g, 8, none⟩ = some (.slice (some ⟨gs, os, none⟩) c.vhosts.length cv) ∧ w'.cell? ⟨g2, 8, none⟩ = some (.slice (some ⟨gv, 0, none⟩) c.vhosts.length k5) ∧ w'.cell? ⟨gs, os + i * 2 + 1, none⟩ = some (.slice pr rs.length cr) ∧ w'.cell? ⟨g + 1, 0, none⟩ = some (.bool mo.pre) ∧ w'.cell? ⟨g + 1, 1, none⟩ = some (.string (ofL mo.path)) ∧ w'.cell? ⟨g + 1, 2, none⟩ = some (.string (ofL mo.method)) ∧ w'.cell? ⟨g + 1, 3, none⟩ = some (.string (ofL mo.field)) ∧ w'.cell? ⟨g + 1, 4, none⟩ = some (.string (ofL mo.value)) ∧ w'.cell? ⟨g + 1, 5, none⟩ = some (.int .i64 mo.action) ∧ w'.cell? ⟨g + 1, 6, none⟩ = some (.string (ofL mo.cluster)) ∧ w'.cell? ⟨g + 1, 7, none⟩ = some (.int .i64 mo.status) ∧ w'.cell? ⟨g + 1, 8, none⟩ = some (.string (ofL mo.text)) ∧ w'.cell? ⟨g + 1, 9, none⟩ = some (.string (ofL mo.rewrite)) ∧ w'.cell? ⟨g + 1, 10, none⟩ = some (.int .i64 mo.retries) ∧ w'.cell? ⟨g + 1, 11, none⟩ = some (.int .i64 mo.timeout) ∧ w'.cell? ⟨g + 1, 12, none⟩ = some (.bool mo.upgrade)) (first | exact sS | exact sZ | exact sC2 | exact sB2 | exact sA3 | exact sA2 | exact sME | exact sM1 | exact sEM | exact sE1 | exact s0)
        (first
          | (refine step_append_rows (by rfl) (.tmp 71) (.tmp 77) 34 (by rfl) 39 i0 (.agg #[.bool false, .string .empty, .string .empty, .string .empty, .string .empty, .int .i64 0, .string .empty, .int .i64 0, .string .empty, .string .empty, .int .i64 0, .int .i64 0, .bool false]) 13 160 Try.underlying34 hir hr0 hr1 hr2 (by rfl) (by decide) w6.heap.size (.slice (some ⟨w6.heap.size, 0, none⟩) 0 0) 0 [] (by rfl) oE1 (.slice pr rs.length cr) rs.length _ (by rfl) (HRt.out _ (below_two K6.out.below bE1)) HNi.out (rs.flatMap routV) (rt_len rs) (fun i hi j hj => rt_get rs i hi j hj) (rt_cells rs) hm1 hm2 zE1 ?_; intro v7 w7 ho7 hg7 hb7
             rw [Nat.zero_add, List.nil_append] at ho7
             have bel7 := below_row bE1 hg7 zE1 (fun k e => by have e2 : some (w6.heap.size) = some k := e; injection e2 with e2; omega)
             have oA := row_below ho7 ((Below.refl w7.heap.size w7).alloc (Nat.le_refl _) (.cells #[.bool mo.pre, .string (ofL mo.path), .string (ofL mo.method), .string (ofL mo.field), .string (ofL mo.value), .int .i64 mo.action, .string (ofL mo.cluster), .int .i64 mo.status, .string (ofL mo.text), .string (ofL mo.rewrite), .int .i64 mo.retries, .int .i64 mo.timeout, .bool mo.upgrade] 39))
             have belA3 : Below w6.heap.size w6 (w7.alloc (.cells #[.bool mo.pre, .string (ofL mo.path), .string (ofL mo.method), .string (ofL mo.field), .string (ofL mo.value), .int .i64 mo.action, .string (ofL mo.cluster), .int .i64 mo.status, .string (ofL mo.text), .string (ofL mo.rewrite), .int .i64 mo.retries, .int .i64 mo.timeout, .bool mo.upgrade] 39)) := bel7.alloc bel7.size _
             have zA3 : w6.heap.size ≤ (w7.alloc (.cells #[.bool mo.pre, .string (ofL mo.path), .string (ofL mo.method), .string (ofL mo.field), .string (ofL mo.value), .int .i64 mo.action, .string (ofL mo.cluster), .int .i64 mo.status, .string (ofL mo.text), .string (ofL mo.rewrite), .int .i64 mo.retries, .int .i64 mo.timeout, .bool mo.upgrade] 39)).heap.size := belA3.size
             have sA2 := HSS.out _ _ (K6.out.call bel7) (D6.out.call bel7)
             have sA3 := HSS.out _ _ (K6.out.call belA3) (D6.out.call belA3)
             have mA3 : Has (w7.alloc (.cells #[.bool mo.pre, .string (ofL mo.path), .string (ofL mo.method), .string (ofL mo.field), .string (ofL mo.value), .int .i64 mo.action, .string (ofL mo.cluster), .int .i64 mo.status, .string (ofL mo.text), .string (ofL mo.rewrite), .int .i64 mo.retries, .int .i64 mo.timeout, .bool mo.upgrade] 39)) w7.heap.size 39 (routA mo) := Has.new w7 39 (routA mo)
             clear ho7 hg7 hb7)
          | (refine step_append_rows (by rfl) (.tmp 71) (.tmp 77) 34 (by rfl) 39 i0 (.agg #[.bool false, .string .empty, .string .empty, .string .empty, .string .empty, .int .i64 0, .string .empty, .int .i64 0, .string .empty, .string .empty, .int .i64 0, .int .i64 0, .bool false]) 13 160 Try.underlying34 hir hr0 hr1 hr2 (by rfl) (by decide) w6.heap.size (.slice (some ⟨w6.heap.size, 0, none⟩) 0 0) 0 [] (by rfl) oEM (.slice pr rs.length cr) rs.length _ (by rfl) (HRt.out _ (below_two K6.out.below bEM)) HNi.out (rs.flatMap routV) (rt_len rs) (fun i hi j hj => rt_get rs i hi j hj) (rt_cells rs) hm1 hm2 zEM ?_; intro v7 w7 ho7 hg7 hb7
             rw [Nat.zero_add, List.nil_append] at ho7
             have bel7 := below_row bEM hg7 zEM (fun k e => by have e2 : some (w6.heap.size) = some k := e; injection e2 with e2; omega)
             have mB := mEM.grown hg7 (fun e => by have e2 : some (w6.heap.size + 1) = some w6.heap.size := e; injection e2 with e2; omega)
             have sB2 := HSS.out _ _ (K6.out.call bel7) (D6.out.call bel7)
             have z7 := bel7.size
             clear hg7 hb7)
          | (refine step_append_rows (by rfl) (.tmp 71) (.tmp 77) 34 (by rfl) 39 i0 (.agg #[.bool false, .string .empty, .string .empty, .string .empty, .string .empty, .int .i64 0, .string .empty, .int .i64 0, .string .empty, .string .empty, .int .i64 0, .int .i64 0, .bool false]) 13 160 Try.underlying34 hir hr0 hr1 hr2 (by rfl) (by decide) w6.heap.size (.slice (some ⟨w6.heap.size + 1, 0, none⟩) 0 0) 0 [] (by rfl) oME (.slice pr rs.length cr) rs.length _ (by rfl) (HRt.out _ (below_two K6.out.below bME)) HNi.out (rs.flatMap routV) (rt_len rs) (fun i hi j hj => rt_get rs i hi j hj) (rt_cells rs) hm1 hm2 zME ?_; intro v7 w7 ho7 hg7 hb7
             rw [Nat.zero_add, List.nil_append] at ho7
             have bel7 := below_row bME hg7 zME (fun k e => by have e2 : some (w6.heap.size + 1) = some k := e; injection e2 with e2; omega)
             have mC := mME.grown hg7 (fun e => by have e2 : some w6.heap.size = some (w6.heap.size + 1) := e; injection e2 with e2; omega)
             have sC2 := HSS.out _ _ (K6.out.call bel7) (D6.out.call bel7)
             have z7 := bel7.size
             clear hg7 hb7)
          | (refine step_append_rows (by rfl) (.tmp 78) (.tmp 80) 34 (by rfl) 39 i0 (.agg #[.bool false, .string .empty, .string .empty, .string .empty, .string .empty, .int .i64 0, .string .empty, .int .i64 0, .string .empty, .string .empty, .int .i64 0, .int .i64 0, .bool false]) 13 160 Try.underlying34 hir hr0 hr1 hr2 (by rfl) (by decide) w6.heap.size v7 rs.length (rs.flatMap routV) (by rfl) oA (.slice (some ⟨w7.heap.size, 0, none⟩) 1 1) 1 _ (by rfl) (rows_one mA3) (.inr ⟨_, _, rfl⟩) (routV mo) (by rfl) (fun i hi j hj => one_get mo i hi j hj) (one_cells mo) hm3 hm4 zA3 ?_; intro v9 w9 ho9 hg9 hb9
             have bel9 := below_row belA3 hg9 zA3 (fun k e => ((oA).lt k e).1)
             obtain ⟨p9, c9, rfl, hc9⟩ := RowKeep.row_form ho9
             have K9 := K6.out.call bel9
             have D9 := D6.out.call bel9
             have sZ := HSS.out _ _ K9 D9
             obtain ⟨cst, fst⟩ := D9.cell_at rfl i HVi.out
             rw [HVL.out] at cst
             rw [show ((c.vhosts.getD i zVhos, hv i) : Vhos × Value).2 = hv i from rfl, HVR.out] at cst
             have hSt := put_both K9 D9 rfl i HVi.out (.slice p9 (rs.length + 1) c9) (rs ++ [mo]) (d := (c.vhosts.getD i zVhos).domain) (by rw [HVL.out]) (own_snoc ho9) HN2.out
             have sS := HSS.out _ _ hSt.1 hSt.2
             clear ho9 hg9 hb9)
          | (refine step_append_rows (by rfl) (.tmp 78) (.tmp 80) 34 (by rfl) 39 i0 (.agg #[.bool false, .string .empty, .string .empty, .string .empty, .string .empty, .int .i64 0, .string .empty, .int .i64 0, .string .empty, .string .empty, .int .i64 0, .int .i64 0, .bool false]) 13 160 Try.underlying34 hir hr0 hr1 hr2 (by rfl) (by decide) w6.heap.size v7 rs.length (rs.flatMap routV) (by rfl) ho7 (.slice (some ⟨w6.heap.size + 1, 0, none⟩) 1 1) 1 _ (by rfl) (rows_one mB) (.inr ⟨_, _, rfl⟩) (routV mo) (by rfl) (fun i hi j hj => one_get mo i hi j hj) (one_cells mo) hm3 hm4 z7 ?_; intro v9 w9 ho9 hg9 hb9
             have bel9 := below_row bel7 hg9 z7 (fun k e => ((ho7).lt k e).1)
             obtain ⟨p9, c9, rfl, hc9⟩ := RowKeep.row_form ho9
             have K9 := K6.out.call bel9
             have D9 := D6.out.call bel9
             have sZ := HSS.out _ _ K9 D9
             obtain ⟨cst, fst⟩ := D9.cell_at rfl i HVi.out
             rw [HVL.out] at cst
             rw [show ((c.vhosts.getD i zVhos, hv i) : Vhos × Value).2 = hv i from rfl, HVR.out] at cst
             have hSt := put_both K9 D9 rfl i HVi.out (.slice p9 (rs.length + 1) c9) (rs ++ [mo]) (d := (c.vhosts.getD i zVhos).domain) (by rw [HVL.out]) (own_snoc ho9) HN2.out
             have sS := HSS.out _ _ hSt.1 hSt.2
             clear ho9 hg9 hb9)
          | (refine step_append_rows (by rfl) (.tmp 78) (.tmp 80) 34 (by rfl) 39 i0 (.agg #[.bool false, .string .empty, .string .empty, .string .empty, .string .empty, .int .i64 0, .string .empty, .int .i64 0, .string .empty, .string .empty, .int .i64 0, .int .i64 0, .bool false]) 13 160 Try.underlying34 hir hr0 hr1 hr2 (by rfl) (by decide) w6.heap.size v7 rs.length (rs.flatMap routV) (by rfl) ho7 (.slice (some ⟨w6.heap.size, 0, none⟩) 1 1) 1 _ (by rfl) (rows_one mC) (.inr ⟨_, _, rfl⟩) (routV mo) (by rfl) (fun i hi j hj => one_get mo i hi j hj) (one_cells mo) hm3 hm4 z7 ?_; intro v9 w9 ho9 hg9 hb9
             have bel9 := below_row bel7 hg9 z7 (fun k e => ((ho7).lt k e).1)
             obtain ⟨p9, c9, rfl, hc9⟩ := RowKeep.row_form ho9
             have K9 := K6.out.call bel9
             have D9 := D6.out.call bel9
             have sZ := HSS.out _ _ K9 D9
             obtain ⟨cst, fst⟩ := D9.cell_at rfl i HVi.out
             rw [HVL.out] at cst
             rw [show ((c.vhosts.getD i zVhos, hv i) : Vhos × Value).2 = hv i from rfl, HVR.out] at cst
             have hSt := put_both K9 D9 rfl i HVi.out (.slice p9 (rs.length + 1) c9) (rs ++ [mo]) (d := (c.vhosts.getD i zVhos).domain) (by rw [HVL.out]) (own_snoc ho9) HN2.out
             have sS := HSS.out _ _ hSt.1 hSt.2
             clear ho9 hg9 hb9))
      all_goals
        go_wp2_with fail
        go_meet
        exact ⟨_, Lib.hid hSt⟩
    case rest =>
      obtain ⟨R, HST⟩ := hcut
      have HPt : Hid (∀ r ∈ rs, r.path.length ≤ 9223372036854775807) := Lib.hid (fun r hr => by rw [hrs.out, getD_at HI.out] at hr; exact HRV.out.path _ (List.getElem_mem HI.out) r hr)
      have HD0 : Hid (∀ rs', find15 (c.vhosts.set i ⟨(c.vhosts.getD i zVhos).domain, rs'⟩) (toL mt) (toL h) (toL p) G = (route15 rs' (toL mt) (toL p) G).map fun k => (i, k)) := Lib.hid (fun rs' => by rw [getD_at HI.out]; exact find_set c.vhosts i HI.out rs' _ _ _ G hdm.out.symm)
      have HF2 : Hid (∀ rs' W, (∀ r ∈ rs', r.path.length ≤ 9223372036854775807) → Vhoss W (.slice (some ⟨gv, 0, none⟩) c.vhosts.length k5) (c.vhosts.set i ⟨(c.vhosts.getD i zVhos).domain, rs'⟩) → Below w.heap.size w W →
          Calls Try.prog 9 #[.agg #[.int .i64 c.conns, .int .i64 c.body, .int .i64 c.idle, .int .i64 c.grace, .int .i64 c.budget, .int .i64 c.seed, .slice pf nf cf, .slice pc nc cc, .slice (some ⟨gv, 0, none⟩) c.vhosts.length k5], .string mt, .string h, .string p, .slice pl G.length cl] W fun e w' => e = .returned (findV ((route15 rs' (toL mt) (toL p) G).map fun k => (i, k))) ∧ Below W.heap.size W w') := Lib.hid (fun rs' W hp hV hb => by
        have := HFind.out { c with vhosts := c.vhosts.set i ⟨(c.vhosts.getD i zVhos).domain, rs'⟩ } (.slice (some ⟨gv, 0, none⟩) c.vhosts.length k5) rfl (paths_in HRV.out.path hp) W ⟨⟨_, _, _, rfl⟩, ⟨_, _, _, rfl⟩, hV⟩ (HF.out.below hb)
        rw [HD0.out] at this
        exact this)
      have HS2 : Hid (∀ X VL, Ds w c (.slice pf nf cf) (.slice pc nc cc) g2 (.slice (some ⟨gv, 0, none⟩) c.vhosts.length k5) VL X → X.cell? ⟨g2, 0, none⟩ = some (.int .i64 c.conns) ∧ X.cell? ⟨g2, 1, none⟩ = some (.int .i64 c.body) ∧ X.cell? ⟨g2, 2, none⟩ = some (.int .i64 c.idle) ∧ X.cell? ⟨g2, 3, none⟩ = some (.int .i64 c.grace) ∧ X.cell? ⟨g2, 4, none⟩ = some (.int .i64 c.budget) ∧ X.cell? ⟨g2, 5, none⟩ = some (.int .i64 c.seed) ∧ X.cell? ⟨g2, 6, none⟩ = some (.slice pf nf cf) ∧ X.cell? ⟨g2, 7, none⟩ = some (.slice pc nc cc) ∧ X.cell? ⟨g2, 8, none⟩ = some (.slice (some ⟨gv, 0, none⟩) c.vhosts.length k5)) := Lib.hid (fun X VL x => by
        have B2 := x.box
        unfold confV at B2
        exact ⟨B2.cell 0, B2.cell 1, B2.cell 2, B2.cell 3, B2.cell 4, B2.cell 5, B2.cell 6, B2.cell 7, B2.cell 8⟩)
      have HMB := Lib.hid (more_behind rs mo (toL mt) (toL p) G)
      have HPA : Hid (route15 (PA p :: rs) (toL mt) (toL p) G = some 0) := Lib.hid (all_ahead rs (toL mt) (toL p) G (PA p) rfl rfl rfl)
      have HP1 : Hid (∀ r ∈ rs ++ [mo], r.path.length ≤ 9223372036854775807) := Lib.hid (fun r hr => by
        rcases List.mem_append.1 hr with q | q
        · exact HPt.out r q
        · obtain rfl := List.mem_singleton.1 q; exact HMO.out)
      have HP2 : Hid (∀ r ∈ PA p :: rs, r.path.length ≤ 9223372036854775807) := Lib.hid (fun r hr => by
        rcases List.mem_cons.1 hr with q | q
        · subst q; show (toL p).length ≤ _; rw [toL_length]; exact HPs.out
        · exact HPt.out r q)
      rw [← hr0'.out] at HMB
      clear HFind
      obtain ⟨c0, c1, c2, c3, c4, c5, c6, c7, c8⟩ := HS2.out _ _ HST.out.2
      have hm5 : 1 + rs.length ≤ maxLen := by unfold maxLen; omega
      have hm6 : (1 + rs.length) * 160 ≤ 140737488355328 := by omega
      have hcs : (∃ k0, r0 = some k0 ∧ route15 (rs ++ [mo]) (toL mt) (toL p) G = some k0) ∨ (r0 = none ∧ route15 (rs ++ [mo]) (toL mt) (toL p) G = some rs.length) ∨ (r0 = none ∧ route15 (rs ++ [mo]) (toL mt) (toL p) G = none) := by
        have hmb := HMB.out
        cases r0 with
        | some k0 => exact .inl ⟨k0, rfl, hmb⟩
        | none =>
          by_cases htk : takes15 mo (toL mt) (toL p) G = true
          · exact .inr (.inl ⟨rfl, by rw [hmb]; simp [htk]⟩)
          · exact .inr (.inr ⟨rfl, by rw [hmb]; simp [htk]⟩)
      rcases hcs with ⟨k0, rfl, hr1b⟩ | ⟨rfl, hr1b⟩ | ⟨rfl, hr1b⟩
      · skip
        have F2 := Lib.hid (HF2.out (rs ++ [mo]) _ HP1.out (vh_of HST.out.2) HST.out.1.below)
        rw [hr1b] at F2
        obtain rfl : ra = (i : Int) := hra.out
        obtain rfl : rb = (k0 : Int) := hrb.out
        obtain rfl : ok = true := hok.out
        clear hra hrb hok hr0' HMB
        dsimp only [findV, Option.map] at F2
        go_wp2_with fail
        refine F2.out.mono ?_
        rintro e w20 ⟨rfl, hb20⟩
        have K20 := Lib.hid (And.intro (HST.out.1.call hb20) (HST.out.2.call hb20))
        clear HST hb20 F2 c0 c1 c2 c3 c4 c5 c6 c7 c8
        obtain ⟨e1, e2, e3, e4, e5, e6, e7, e8, e9, e10, e11, e12, e13, e14, e15, e16⟩ := HSS.out _ _ K20.out.1 K20.out.2
        have q1 : ((i : Int) != (i : Int)) = false := bne_self_eq_false _
        have q2 : ((k0 : Int) != (k0 : Int)) = false := bne_self_eq_false _
        go_wp2_with fail
        clear q1 q2 e1 e2 e3 e4 e5 e6 e7 e8 e9 e10 e11 e12 e13 e14 e15 e16
        have t0 := HSS.out _ _ (K20.out.1.call (below_dr (Below.refl _ w20))) (K20.out.2.call (below_dr (Below.refl _ w20)))
        have bP : Below w20.heap.size w20 (w20.alloc (.cells #[.bool true, .string p, .string ⟨#[]⟩, .string ⟨#[]⟩, .string ⟨#[]⟩, .int .i64 0, .string ⟨#[]⟩, .int .i64 0, .string ⟨#[]⟩, .string ⟨#[]⟩, .int .i64 0, .int .i64 0, .bool false] 39)).drew := below_dr ((Below.refl _ _).alloc (Nat.le_refl _) _)
        have t1 := HSS.out _ _ (K20.out.1.call bP) (K20.out.2.call bP)
        have oP : (w20.alloc (.cells #[.bool true, .string p, .string ⟨#[]⟩, .string ⟨#[]⟩, .string ⟨#[]⟩, .int .i64 0, .string ⟨#[]⟩, .int .i64 0, .string ⟨#[]⟩, .string ⟨#[]⟩, .int .i64 0, .int .i64 0, .bool false] 39)).drew.ownsRow w20.heap.size 39 13 (.slice (some ⟨w20.heap.size, 0, none⟩) 1 1) 1 (routV (PA p)) := own_dr (own_pa (owns_new w20 39 w20.heap.size 13 1 #[.bool true, .string p, .string ⟨#[]⟩, .string ⟨#[]⟩, .string ⟨#[]⟩, .int .i64 0, .string ⟨#[]⟩, .int .i64 0, .string ⟨#[]⟩, .string ⟨#[]⟩, .int .i64 0, .int .i64 0, .bool false] (Nat.le_refl _) (by decide) rfl))
        have zP := bP.size
        have HNW : Hid (gv < w20.heap.size) := Lib.hid ((K20.out.2.row.lt gv rfl).2)
        go_region_held3 (fun w' => w'.cell? ⟨g, 8, none⟩ = some (.slice (some ⟨gs, os, none⟩) c.vhosts.length cv) ∧ w'.cell? ⟨g2, 8, none⟩ = some (.slice (some ⟨gv, 0, none⟩) c.vhosts.length k5) ∧ w'.cell? ⟨gs, os + i * 2 + 1, none⟩ = some (.slice pr rs.length cr) ∧ w'.cell? ⟨g + 1, 0, none⟩ = some (.bool mo.pre) ∧ w'.cell? ⟨g + 1, 1, none⟩ = some (.string (ofL mo.path)) ∧ w'.cell? ⟨g + 1, 2, none⟩ = some (.string (ofL mo.method)) ∧ w'.cell? ⟨g + 1, 3, none⟩ = some (.string (ofL mo.field)) ∧ w'.cell? ⟨g + 1, 4, none⟩ = some (.string (ofL mo.value)) ∧ w'.cell? ⟨g + 1, 5, none⟩ = some (.int .i64 mo.action) ∧ w'.cell? ⟨g + 1, 6, none⟩ = some (.string (ofL mo.cluster)) ∧ w'.cell? ⟨g + 1, 7, none⟩ = some (.int .i64 mo.status) ∧ w'.cell? ⟨g + 1, 8, none⟩ = some (.string (ofL mo.text)) ∧ w'.cell? ⟨g + 1, 9, none⟩ = some (.string (ofL mo.rewrite)) ∧ w'.cell? ⟨g + 1, 10, none⟩ = some (.int .i64 mo.retries) ∧ w'.cell? ⟨g + 1, 11, none⟩ = some (.int .i64 mo.timeout) ∧ w'.cell? ⟨g + 1, 12, none⟩ = some (.bool mo.upgrade)) (first | exact tS | exact tZ | exact t1 | exact t0)
          (first
            | (refine step_append_rows (by rfl) (.tmp 140) (.tmp 146) 34 (by rfl) 39 i0 (.agg #[.bool false, .string .empty, .string .empty, .string .empty, .string .empty, .int .i64 0, .string .empty, .int .i64 0, .string .empty, .string .empty, .int .i64 0, .int .i64 0, .bool false]) 13 160 Try.underlying34 hir hr0 hr1 hr2 (by rfl) (by decide) w20.heap.size (.slice (some ⟨w20.heap.size, 0, none⟩) 1 1) 1 (routV (PA p)) (by rfl) oP (.slice pr rs.length cr) rs.length _ (by rfl) (HRt.out _ (below_two K20.out.1.below bP)) HNi.out (rs.flatMap routV) (rt_len rs) (fun i hi j hj => rt_get rs i hi j hj) (rt_cells rs) hm5 hm6 zP ?_; intro v9 w9 ho9 hg9 hb9
               have bel9 := below_row bP hg9 zP (fun k e => (oP.lt k e).1)
               obtain ⟨p9, c9, rfl, hc9⟩ := RowKeep.row_form ho9
               have K9 := K20.out.1.call bel9
               have D9 := K20.out.2.call bel9
               have tZ := HSS.out _ _ K9 D9
               have hi9 : i < ((VL0 c.vhosts hv).set i (⟨(c.vhosts.getD i zVhos).domain, rs ++ [mo]⟩, R)).length := by rw [List.length_set]; exact HVi.out
               obtain ⟨cst, fst⟩ := D9.cell_at rfl i hi9
               rw [List.getElem_set_self] at cst
               obtain ⟨RP, rfl⟩ : ∃ RP, RP = R := ⟨_, rfl⟩
               have hSt := put_both K9 D9 rfl i hi9 (.slice p9 (1 + rs.length) c9) (PA p :: rs) (d := (c.vhosts.getD i zVhos).domain) (by rw [List.getElem_set_self]) (own_cons ho9) HNW.out
               rw [List.set_set] at hSt
               have tS := HSS.out _ _ hSt.1 hSt.2
               clear ho9 hg9 hb9))
        have HST2 := Lib.hid hSt
        clear hSt tS tZ t0 t1 bP oP zP bel9 K9 D9 cst fst K20
        have F3 := Lib.hid (HF2.out (PA p :: rs) _ HP2.out (vh_of HST2.out.2) HST2.out.1.below)
        rw [HPA.out] at F3
        dsimp only [findV, Option.map] at F3
        obtain ⟨d0, d1, d2, d3, d4, d5, d6, d7, d8⟩ := HS2.out _ _ HST2.out.2
        have q5 : ((i : Int) == (i : Int)) = true := beq_self_eq_true _
        go_wp2_with fail
        refine F3.out.mono ?_
        rintro e w30 ⟨rfl, hb30⟩
        have HE := Lib.hid (below_chain HST2.out.1.below hb30)
        clear HST2 hb30 F3 d0 d1 d2 d3 d4 d5 d6 d7 d8
        go_wp2_with fail
        go_ret
        exact ⟨rfl, HE.out⟩
      · skip
        have F2 := Lib.hid (HF2.out (rs ++ [mo]) _ HP1.out (vh_of HST.out.2) HST.out.1.below)
        rw [hr1b] at F2
        obtain rfl : ra = 0 := hra.out
        obtain rfl : rb = 0 := hrb.out
        obtain rfl : ok = false := hok.out
        clear hra hrb hok hr0' HMB
        dsimp only [findV, Option.map] at F2
        go_wp2_with fail
        refine F2.out.mono ?_
        rintro e w20 ⟨rfl, hb20⟩
        have K20 := Lib.hid (And.intro (HST.out.1.call hb20) (HST.out.2.call hb20))
        clear HST hb20 F2 c0 c1 c2 c3 c4 c5 c6 c7 c8
        obtain ⟨e1, e2, e3, e4, e5, e6, e7, e8, e9, e10, e11, e12, e13, e14, e15, e16⟩ := HSS.out _ _ K20.out.1 K20.out.2
        have q1 : ((i : Int) != (i : Int)) = false := bne_self_eq_false _
        have q2 : ((rs.length : Int) != (rs.length : Int)) = false := bne_self_eq_false _
        go_wp2_with fail
        clear q1 q2 e1 e2 e3 e4 e5 e6 e7 e8 e9 e10 e11 e12 e13 e14 e15 e16
        have t0 := HSS.out _ _ (K20.out.1.call (below_dr (Below.refl _ w20))) (K20.out.2.call (below_dr (Below.refl _ w20)))
        have bP : Below w20.heap.size w20 (w20.alloc (.cells #[.bool true, .string p, .string ⟨#[]⟩, .string ⟨#[]⟩, .string ⟨#[]⟩, .int .i64 0, .string ⟨#[]⟩, .int .i64 0, .string ⟨#[]⟩, .string ⟨#[]⟩, .int .i64 0, .int .i64 0, .bool false] 39)).drew := below_dr ((Below.refl _ _).alloc (Nat.le_refl _) _)
        have t1 := HSS.out _ _ (K20.out.1.call bP) (K20.out.2.call bP)
        have oP : (w20.alloc (.cells #[.bool true, .string p, .string ⟨#[]⟩, .string ⟨#[]⟩, .string ⟨#[]⟩, .int .i64 0, .string ⟨#[]⟩, .int .i64 0, .string ⟨#[]⟩, .string ⟨#[]⟩, .int .i64 0, .int .i64 0, .bool false] 39)).drew.ownsRow w20.heap.size 39 13 (.slice (some ⟨w20.heap.size, 0, none⟩) 1 1) 1 (routV (PA p)) := own_dr (own_pa (owns_new w20 39 w20.heap.size 13 1 #[.bool true, .string p, .string ⟨#[]⟩, .string ⟨#[]⟩, .string ⟨#[]⟩, .int .i64 0, .string ⟨#[]⟩, .int .i64 0, .string ⟨#[]⟩, .string ⟨#[]⟩, .int .i64 0, .int .i64 0, .bool false] (Nat.le_refl _) (by decide) rfl))
        have zP := bP.size
        have HNW : Hid (gv < w20.heap.size) := Lib.hid ((K20.out.2.row.lt gv rfl).2)
        go_region_held3 (fun w' => w'.cell? ⟨g, 8, none⟩ = some (.slice (some ⟨gs, os, none⟩) c.vhosts.length cv) ∧ w'.cell? ⟨g2, 8, none⟩ = some (.slice (some ⟨gv, 0, none⟩) c.vhosts.length k5) ∧ w'.cell? ⟨gs, os + i * 2 + 1, none⟩ = some (.slice pr rs.length cr) ∧ w'.cell? ⟨g + 1, 0, none⟩ = some (.bool mo.pre) ∧ w'.cell? ⟨g + 1, 1, none⟩ = some (.string (ofL mo.path)) ∧ w'.cell? ⟨g + 1, 2, none⟩ = some (.string (ofL mo.method)) ∧ w'.cell? ⟨g + 1, 3, none⟩ = some (.string (ofL mo.field)) ∧ w'.cell? ⟨g + 1, 4, none⟩ = some (.string (ofL mo.value)) ∧ w'.cell? ⟨g + 1, 5, none⟩ = some (.int .i64 mo.action) ∧ w'.cell? ⟨g + 1, 6, none⟩ = some (.string (ofL mo.cluster)) ∧ w'.cell? ⟨g + 1, 7, none⟩ = some (.int .i64 mo.status) ∧ w'.cell? ⟨g + 1, 8, none⟩ = some (.string (ofL mo.text)) ∧ w'.cell? ⟨g + 1, 9, none⟩ = some (.string (ofL mo.rewrite)) ∧ w'.cell? ⟨g + 1, 10, none⟩ = some (.int .i64 mo.retries) ∧ w'.cell? ⟨g + 1, 11, none⟩ = some (.int .i64 mo.timeout) ∧ w'.cell? ⟨g + 1, 12, none⟩ = some (.bool mo.upgrade)) (first | exact tS | exact tZ | exact t1 | exact t0)
          (first
            | (refine step_append_rows (by rfl) (.tmp 140) (.tmp 146) 34 (by rfl) 39 i0 (.agg #[.bool false, .string .empty, .string .empty, .string .empty, .string .empty, .int .i64 0, .string .empty, .int .i64 0, .string .empty, .string .empty, .int .i64 0, .int .i64 0, .bool false]) 13 160 Try.underlying34 hir hr0 hr1 hr2 (by rfl) (by decide) w20.heap.size (.slice (some ⟨w20.heap.size, 0, none⟩) 1 1) 1 (routV (PA p)) (by rfl) oP (.slice pr rs.length cr) rs.length _ (by rfl) (HRt.out _ (below_two K20.out.1.below bP)) HNi.out (rs.flatMap routV) (rt_len rs) (fun i hi j hj => rt_get rs i hi j hj) (rt_cells rs) hm5 hm6 zP ?_; intro v9 w9 ho9 hg9 hb9
               have bel9 := below_row bP hg9 zP (fun k e => (oP.lt k e).1)
               obtain ⟨p9, c9, rfl, hc9⟩ := RowKeep.row_form ho9
               have K9 := K20.out.1.call bel9
               have D9 := K20.out.2.call bel9
               have tZ := HSS.out _ _ K9 D9
               have hi9 : i < ((VL0 c.vhosts hv).set i (⟨(c.vhosts.getD i zVhos).domain, rs ++ [mo]⟩, R)).length := by rw [List.length_set]; exact HVi.out
               obtain ⟨cst, fst⟩ := D9.cell_at rfl i hi9
               rw [List.getElem_set_self] at cst
               obtain ⟨RP, rfl⟩ : ∃ RP, RP = R := ⟨_, rfl⟩
               have hSt := put_both K9 D9 rfl i hi9 (.slice p9 (1 + rs.length) c9) (PA p :: rs) (d := (c.vhosts.getD i zVhos).domain) (by rw [List.getElem_set_self]) (own_cons ho9) HNW.out
               rw [List.set_set] at hSt
               have tS := HSS.out _ _ hSt.1 hSt.2
               clear ho9 hg9 hb9))
        have HST2 := Lib.hid hSt
        clear hSt tS tZ t0 t1 bP oP zP bel9 K9 D9 cst fst K20
        have F3 := Lib.hid (HF2.out (PA p :: rs) _ HP2.out (vh_of HST2.out.2) HST2.out.1.below)
        rw [HPA.out] at F3
        dsimp only [findV, Option.map] at F3
        obtain ⟨d0, d1, d2, d3, d4, d5, d6, d7, d8⟩ := HS2.out _ _ HST2.out.2
        have q5 : ((i : Int) == (i : Int)) = true := beq_self_eq_true _
        go_wp2_with fail
        refine F3.out.mono ?_
        rintro e w30 ⟨rfl, hb30⟩
        have HE := Lib.hid (below_chain HST2.out.1.below hb30)
        clear HST2 hb30 F3 d0 d1 d2 d3 d4 d5 d6 d7 d8
        go_wp2_with fail
        go_ret
        exact ⟨rfl, HE.out⟩
      · skip
        have F2 := Lib.hid (HF2.out (rs ++ [mo]) _ HP1.out (vh_of HST.out.2) HST.out.1.below)
        rw [hr1b] at F2
        obtain rfl : ra = 0 := hra.out
        obtain rfl : rb = 0 := hrb.out
        obtain rfl : ok = false := hok.out
        clear hra hrb hok hr0' HMB
        dsimp only [findV, Option.map] at F2
        go_wp2_with fail
        refine F2.out.mono ?_
        rintro e w20 ⟨rfl, hb20⟩
        have K20 := Lib.hid (And.intro (HST.out.1.call hb20) (HST.out.2.call hb20))
        clear HST hb20 F2 c0 c1 c2 c3 c4 c5 c6 c7 c8
        obtain ⟨e1, e2, e3, e4, e5, e6, e7, e8, e9, e10, e11, e12, e13, e14, e15, e16⟩ := HSS.out _ _ K20.out.1 K20.out.2
        have q1 : ((i : Int) != (i : Int)) = false := bne_self_eq_false _
        skip
        go_wp2_with fail
        clear q1  e1 e2 e3 e4 e5 e6 e7 e8 e9 e10 e11 e12 e13 e14 e15 e16
        have t0 := HSS.out _ _ (K20.out.1.call (below_dr (Below.refl _ w20))) (K20.out.2.call (below_dr (Below.refl _ w20)))
        have bP : Below w20.heap.size w20 (w20.alloc (.cells #[.bool true, .string p, .string ⟨#[]⟩, .string ⟨#[]⟩, .string ⟨#[]⟩, .int .i64 0, .string ⟨#[]⟩, .int .i64 0, .string ⟨#[]⟩, .string ⟨#[]⟩, .int .i64 0, .int .i64 0, .bool false] 39)).drew := below_dr ((Below.refl _ _).alloc (Nat.le_refl _) _)
        have t1 := HSS.out _ _ (K20.out.1.call bP) (K20.out.2.call bP)
        have oP : (w20.alloc (.cells #[.bool true, .string p, .string ⟨#[]⟩, .string ⟨#[]⟩, .string ⟨#[]⟩, .int .i64 0, .string ⟨#[]⟩, .int .i64 0, .string ⟨#[]⟩, .string ⟨#[]⟩, .int .i64 0, .int .i64 0, .bool false] 39)).drew.ownsRow w20.heap.size 39 13 (.slice (some ⟨w20.heap.size, 0, none⟩) 1 1) 1 (routV (PA p)) := own_dr (own_pa (owns_new w20 39 w20.heap.size 13 1 #[.bool true, .string p, .string ⟨#[]⟩, .string ⟨#[]⟩, .string ⟨#[]⟩, .int .i64 0, .string ⟨#[]⟩, .int .i64 0, .string ⟨#[]⟩, .string ⟨#[]⟩, .int .i64 0, .int .i64 0, .bool false] (Nat.le_refl _) (by decide) rfl))
        have zP := bP.size
        have HNW : Hid (gv < w20.heap.size) := Lib.hid ((K20.out.2.row.lt gv rfl).2)
        go_region_held3 (fun w' => w'.cell? ⟨g, 8, none⟩ = some (.slice (some ⟨gs, os, none⟩) c.vhosts.length cv) ∧ w'.cell? ⟨g2, 8, none⟩ = some (.slice (some ⟨gv, 0, none⟩) c.vhosts.length k5) ∧ w'.cell? ⟨gs, os + i * 2 + 1, none⟩ = some (.slice pr rs.length cr) ∧ w'.cell? ⟨g + 1, 0, none⟩ = some (.bool mo.pre) ∧ w'.cell? ⟨g + 1, 1, none⟩ = some (.string (ofL mo.path)) ∧ w'.cell? ⟨g + 1, 2, none⟩ = some (.string (ofL mo.method)) ∧ w'.cell? ⟨g + 1, 3, none⟩ = some (.string (ofL mo.field)) ∧ w'.cell? ⟨g + 1, 4, none⟩ = some (.string (ofL mo.value)) ∧ w'.cell? ⟨g + 1, 5, none⟩ = some (.int .i64 mo.action) ∧ w'.cell? ⟨g + 1, 6, none⟩ = some (.string (ofL mo.cluster)) ∧ w'.cell? ⟨g + 1, 7, none⟩ = some (.int .i64 mo.status) ∧ w'.cell? ⟨g + 1, 8, none⟩ = some (.string (ofL mo.text)) ∧ w'.cell? ⟨g + 1, 9, none⟩ = some (.string (ofL mo.rewrite)) ∧ w'.cell? ⟨g + 1, 10, none⟩ = some (.int .i64 mo.retries) ∧ w'.cell? ⟨g + 1, 11, none⟩ = some (.int .i64 mo.timeout) ∧ w'.cell? ⟨g + 1, 12, none⟩ = some (.bool mo.upgrade)) (first | exact tS | exact tZ | exact t1 | exact t0)
          (first
            | (refine step_append_rows (by rfl) (.tmp 140) (.tmp 146) 34 (by rfl) 39 i0 (.agg #[.bool false, .string .empty, .string .empty, .string .empty, .string .empty, .int .i64 0, .string .empty, .int .i64 0, .string .empty, .string .empty, .int .i64 0, .int .i64 0, .bool false]) 13 160 Try.underlying34 hir hr0 hr1 hr2 (by rfl) (by decide) w20.heap.size (.slice (some ⟨w20.heap.size, 0, none⟩) 1 1) 1 (routV (PA p)) (by rfl) oP (.slice pr rs.length cr) rs.length _ (by rfl) (HRt.out _ (below_two K20.out.1.below bP)) HNi.out (rs.flatMap routV) (rt_len rs) (fun i hi j hj => rt_get rs i hi j hj) (rt_cells rs) hm5 hm6 zP ?_; intro v9 w9 ho9 hg9 hb9
               have bel9 := below_row bP hg9 zP (fun k e => (oP.lt k e).1)
               obtain ⟨p9, c9, rfl, hc9⟩ := RowKeep.row_form ho9
               have K9 := K20.out.1.call bel9
               have D9 := K20.out.2.call bel9
               have tZ := HSS.out _ _ K9 D9
               have hi9 : i < ((VL0 c.vhosts hv).set i (⟨(c.vhosts.getD i zVhos).domain, rs ++ [mo]⟩, R)).length := by rw [List.length_set]; exact HVi.out
               obtain ⟨cst, fst⟩ := D9.cell_at rfl i hi9
               rw [List.getElem_set_self] at cst
               obtain ⟨RP, rfl⟩ : ∃ RP, RP = R := ⟨_, rfl⟩
               have hSt := put_both K9 D9 rfl i hi9 (.slice p9 (1 + rs.length) c9) (PA p :: rs) (d := (c.vhosts.getD i zVhos).domain) (by rw [List.getElem_set_self]) (own_cons ho9) HNW.out
               rw [List.set_set] at hSt
               have tS := HSS.out _ _ hSt.1 hSt.2
               clear ho9 hg9 hb9))
        have HST2 := Lib.hid hSt
        clear hSt tS tZ t0 t1 bP oP zP bel9 K9 D9 cst fst K20
        have F3 := Lib.hid (HF2.out (PA p :: rs) _ HP2.out (vh_of HST2.out.2) HST2.out.1.below)
        rw [HPA.out] at F3
        dsimp only [findV, Option.map] at F3
        obtain ⟨d0, d1, d2, d3, d4, d5, d6, d7, d8⟩ := HS2.out _ _ HST2.out.2
        have q5 : ((i : Int) == (i : Int)) = true := beq_self_eq_true _
        go_wp2_with fail
        refine F3.out.mono ?_
        rintro e w30 ⟨rfl, hb30⟩
        have HE := Lib.hid (below_chain HST2.out.1.below hb30)
        clear HST2 hb30 F3 d0 d1 d2 d3 d4 d5 d6 d7 d8
        go_wp2_with fail
        go_ret
        exact ⟨rfl, HE.out⟩
theorem walk {H : Type} {enc : TypeId × Value → H} {W : World} {base : Nat} (v : Value) (d : DataW H) (p : List MemPlace) (hv : Value.okWide Try.prog W .any base 26 v) (hd : DataW.Trod enc Try.prog W 0 (fun _ => true) true 26 v d p) (hl : ∀ x ∈ p, x.block < W.heap.size) (hb : (d.weights Try.prog 26).all (· ≤ reachBytes) = true)
    (m : ByteArray) (_ : m.size ≤ maxLen) (hm : m.size ≤ 140737488351232) (h : ByteArray) (_ : h.size ≤ maxLen) (hh : h.size ≤ 140737488351232) (q : ByteArray) (_ : q.size ≤ maxLen) (hq : q.size ≤ 140737488351232)
    (v2 : Value) (d2 : DataW H) (p2 : List MemPlace) (hv2 : Value.okWide Try.prog W .any base 27 v2) (hd2 : DataW.Trod enc Try.prog W 0 (fun _ => true) true 27 v2 d2 p2) (hl2 : ∀ x ∈ p2, x.block < W.heap.size) (hb2 : (d2.weights Try.prog 27).all (· ≤ reachBytes) = true)
    (v3 : Value) (d3 : DataW H) (p3 : List MemPlace) (hv3 : Value.okWide Try.prog W .any base 39 v3) (hd3 : DataW.Trod enc Try.prog W 0 (fun _ => true) true 39 v3 d3 p3) (hl3 : ∀ x ∈ p3, x.block < W.heap.size) (hb3 : (d3.weights Try.prog 39).all (· ≤ reachBytes) = true) :
    Calls Try.prog 4 #[v, .string m, .string h, .string q, v2, v3] W fun e w' => e = .returned (.bool true) ∧ Below W.heap.size W w' := by
  obtain ⟨c, vf, vc, vv, hw, rfl, hC, hR⟩ := rconf_arg hv hd hb
  obtain ⟨G, hF, hG, hGl, hy⟩ := FArg.fields_arg_wide hv2 hd2 hb2
  obtain ⟨mo, rfl, hmo⟩ := rroute_arg hv3 hd3
  exact walkIn c vf vc vv hw mo hmo m h q (by omega) (by omega) v2 G hG W hC hR hF
end Go.Proofs.Ytcjobblhendkbaa.RouteFirstW
