/- Texts of this seat, one behind another: R14EqS, RSame, R14Same. -/
import Derived.Lib.Hide
import Derived.Below
import Derived.Outline
import Derived.LoopTactic
import Derived.Deep.QuietTactic
import Derived.BigQuiet
import Derived.Test.YtfihehobkbfmiaaGreatDoorA6
import Derived.Test.YtfihehobkbfmiaaGreatDoorA1
import Derived.Test.YtfihehobkbfmiaaGreatDoorA2
import Derived.Test.YtfihehobkbfmiaaGreatDoorA11
/- Layer 14: a filter, a route held against itself. -/
namespace Go.Proofs.YtfihehobkbfmiaaGreatDoor.R14EqS
open Go.ChangeShapes Go.WideShapes Go.ChangeAt Go.RowKit LexPure Bytes ConfPure ConfMem Mem
set_option maxRecDepth 20000
set_option linter.unusedSimpArgs false
set_option maxHeartbeats 6400000 in
theorem neF (k n m j : Int) (a b : ByteArray) (w : World) : (binOp .neq 49 (.agg #[.int .i64 k, .string a, .string b, .int .i64 n, .int .i64 m, .int .i64 j]) (.agg #[.int .i64 k, .string a, .string b, .int .i64 n, .int .i64 m, .int .i64 j])).run Tryz.prog w =
    .ok (.bool false) w := by
  have u3 := Tryz.underlying3
  have a3 := Tryz.isAgg3
  have z3 := Tryz.sizeOf3
  have u9 := Tryz.underlying9
  have a9 := Tryz.isAgg9
  have z9 := Tryz.sizeOf9
  have hS : Tryz.prog.underlying 49 = some (.struct (Tryz.prog.fieldsOf 49)) := by kernel_rfl
  have hp : Tryz.prog.stoodInHeld 49 = false := by kernel_rfl
  rw [run_neq_struct, show (10000 : Nat) = 9999 + 1 from rfl, run_equalIn_agg w 9999 49 _ _ hS hp]
  simp only [Program.fieldsOf, Tryz.underlying49]
  go_simp
set_option maxHeartbeats 6400000 in
theorem neR (x0 x12 : Bool) (x5 x7 x10 x11 : Int) (x1 x2 x3 x4 x6 x8 x9 : ByteArray) (w : World) : (binOp .neq 45 (.agg #[.bool x0, .string x1, .string x2, .string x3, .string x4, .int .i64 x5, .string x6, .int .i64 x7, .string x8, .string x9, .int .i64 x10, .int .i64 x11, .bool x12]) (.agg #[.bool x0, .string x1, .string x2, .string x3, .string x4, .int .i64 x5, .string x6, .int .i64 x7, .string x8, .string x9, .int .i64 x10, .int .i64 x11, .bool x12])).run Tryz.prog w =
    .ok (.bool false) w := by
  have u3 := Tryz.underlying3
  have a3 := Tryz.isAgg3
  have z3 := Tryz.sizeOf3
  have u9 := Tryz.underlying9
  have a9 := Tryz.isAgg9
  have z9 := Tryz.sizeOf9
  have u4 := Tryz.underlying4
  have a4 := Tryz.isAgg4
  have z4 := Tryz.sizeOf4
  have hS : Tryz.prog.underlying 45 = some (.struct (Tryz.prog.fieldsOf 45)) := by kernel_rfl
  have hp : Tryz.prog.stoodInHeld 45 = false := by kernel_rfl
  rw [run_neq_struct, show (10000 : Nat) = 9999 + 1 from rfl, run_equalIn_agg w 9999 45 _ _ hS hp]
  simp only [Program.fieldsOf, Tryz.underlying45]
  go_simp
end Go.Proofs.YtfihehobkbfmiaaGreatDoor.R14EqS

/- Layer 4, the document's own Same. -/
namespace Go.Proofs.YtfihehobkbfmiaaGreatDoor.RSame
open Go.ChangeShapes Go.WideShapes Go.ChangeAt Go.RowKit LexPure Bytes Ret Rows1 Texts
set_option maxRecDepth 20000
set_option maxHeartbeats 1600000 in
theorem rsame_any (v1 v2 : Value) (G H : List (List UInt8)) (w : World) (h1 : Texts w v1 G) (h2 : Texts w v2 H) :
    Calls Tryz.prog 36 #[v1, v2] w fun e w' => e = .returned (.bool (G == H)) ∧ ∃ m, w' = w.drewN m := by
  obtain ⟨p1, c1, rfl, hn1, HC1⟩ := h1
  obtain ⟨p2, c2, rfl, hn2, HC2⟩ := h2
  replace HC1 := Lib.hid HC1
  replace HC2 := Lib.hid HC2
  by_cases hl : G.length = H.length
  · have hq : ((G.length : Int) != (H.length : Int)) = false := by rw [hl]; exact bne_self_eq_false _
    go_enter Tryz.func36, Tryz.ntmps36
    go_wp2_with fail
    go_loopw [5] (fun i wr => ∃ k : Nat, k ≤ G.length ∧ i = .int .i64 k ∧ Hid (G.take k = H.take k) ∧ Hid (∃ m, wr = w.drewN m)) (fun i _ => G.length - (intOf i).toNat)
    case atStart => exact ⟨0, Nat.zero_le _, rfl, Lib.hid rfl, Lib.hid ⟨0, rfl⟩⟩
    case round =>
      obtain ⟨k, hk, rfl, ht, hw⟩ := hrel
      obtain ⟨m, rfl⟩ := hw.out
      by_cases hlt : k < G.length
      · have hki : (k : Int) < (G.length : Int) := by omega
        have hkj : (k : Int) < (H.length : Int) := by omega
        obtain ⟨g1, o1, rfl, _, hcell1⟩ := HC1.out (by omega)
        obtain ⟨g2, o2, rfl, _, hcell2⟩ := HC2.out (by omega)
        have d1 := hcell1 k hlt
        have d2 := hcell2 k (by omega)
        clear hcell1 hcell2
        by_cases he : G[k] = H[k]'(by omega)
        · have HT := Lib.hid (take_ext hlt (by omega) ht.out he)
          have hs : ((ofL G[k]).toList == (ofL (H[k]'(by omega))).toList) = true := by rw [same_ofL, he]; exact beq_self_eq_true _
          clear he
          generalize ofL G[k] = s1 at *
          generalize ofL (H[k]'(by omega)) = s2 at *
          clear HC1 HC2 ht hw
          go_wp2_with fail
          go_quiet (fail)
          have HW : Hid (∃ m1, (w.drewN m).drewN nq = w.drewN m1) := Lib.hid ⟨m + nq, by simp⟩
          generalize ((w.drewN m).drewN nq) = w2 at *
          go_wp2_with fail
          go_roundw
          case rel => exact ⟨k + 1, by omega, by go_num, HT, HW⟩
          case measure => simp [intOf]; omega
        · have HV : Hid ((G == H) = false) := Lib.hid (by
            rw [beq_eq_false_iff_ne]
            intro h
            subst h
            exact he rfl)
          have hs : ((ofL G[k]).toList == (ofL (H[k]'(by omega))).toList) = false := by rw [same_ofL, beq_eq_false_iff_ne]; exact he
          clear he
          generalize ofL G[k] = s1 at *
          generalize ofL (H[k]'(by omega)) = s2 at *
          clear HC1 HC2 ht hw
          go_wp2_with fail
          go_quiet (fail)
          have HW : Hid (∃ m1, (w.drewN m).drewN nq = w.drewN m1) := Lib.hid ⟨m + nq, by simp⟩
          generalize ((w.drewN m).drewN nq) = w2 at *
          go_wp2_with fail
          go_ret
          exact ⟨ret_bool HV.out.symm, HW.out⟩
      · have HV : Hid ((G == H) = true) := Lib.hid (by
          have h := ht.out
          rw [List.take_of_length_le (by omega), List.take_of_length_le (by omega)] at h
          rw [h]
          exact beq_self_eq_true _)
        have HW := Lib.hid hw.out
        clear hw
        generalize (w.drewN m) = w2 at *
        go_wp2_with fail
        go_ret
        exact ⟨ret_bool HV.out.symm, HW.out⟩
  · have HV : Hid ((G == H) = false) := Lib.hid (by
      rw [beq_eq_false_iff_ne]
      intro h
      exact hl (by rw [h]))
    have hq : ((G.length : Int) != (H.length : Int)) = true := by
      rw [bne_iff_ne]
      omega
    go_enter Tryz.func36, Tryz.ntmps36
    go_wp2_with fail
    go_ret
    exact ⟨ret_bool HV.out.symm, 0, rfl⟩
end Go.Proofs.YtfihehobkbfmiaaGreatDoor.RSame

/- Layer 14, the document's own Same: two readings of one config are the same. -/
namespace Go.Proofs.YtfihehobkbfmiaaGreatDoor.R14Same
open Go.ChangeShapes Go.WideShapes Go.ChangeAt Go.RowKit Bytes LexPure ConfPure ConfMem Ret Mem Texts R14Name R14Check
set_option maxRecDepth 100000
set_option linter.unusedVariables false
set_option linter.unusedSimpArgs false
abbrev CT : TypeId := 26
/-- two boxes -/
structure K2 (w : World) (ga gb : Nat) (c : Conf) (f1 c1 v1 f2 c2 v2 : Value) (W : World) : Prop where
  b1 : Has W ga CT (confV c f1 c1 v1)
  b2 : Has W gb CT (confV c f2 c2 v2)
  c1 : CF W f1 c1 v1 c
  c2 : CF W f2 c2 v2 c
  below : Below w.heap.size w W
  lo : w.heap.size ≤ ga
theorem K2.call {w W W' : World} {ga gb : Nat} {c : Conf} {f1 c1 v1 f2 c2 v2 : Value} (x : K2 w ga gb c f1 c1 v1 f2 c2 v2 W) (hb : Below W.heap.size W W') : K2 w ga gb c f1 c1 v1 f2 c2 v2 W' :=
  ⟨x.b1.below hb x.b1.lt, x.b2.below hb x.b2.lt, x.c1.below hb, x.c2.below hb, below_chain x.below hb, x.lo⟩
theorem K2.drew {w W : World} {ga gb : Nat} {c : Conf} {f1 c1 v1 f2 c2 v2 : Value} (x : K2 w ga gb c f1 c1 v1 f2 c2 v2 W) : K2 w ga gb c f1 c1 v1 f2 c2 v2 W.drew := x.call (below_drew (Below.refl _ _))
theorem K2.start {w : World} {c : Conf} {f1 c1 v1 f2 c2 v2 : Value} (h1 : CF w f1 c1 v1 c) (h2 : CF w f2 c2 v2 c) : K2 w w.heap.size (w.heap.size + 1) c f1 c1 v1 f2 c2 v2 ((w.alloc (.cells (confV c f1 c1 v1) CT)).alloc (.cells (confV c f2 c2 v2) CT)) := by
  have ha := (Below.refl w.heap.size w).alloc (Nat.le_refl _) (.cells (confV c f1 c1 v1) CT)
  have hb := (Below.refl (w.alloc (.cells (confV c f1 c1 v1) CT)).heap.size (w.alloc (.cells (confV c f1 c1 v1) CT))).alloc (Nat.le_refl _) (.cells (confV c f2 c2 v2) CT)
  have h3 := Has.new (w.alloc (.cells (confV c f1 c1 v1) CT)) CT (confV c f2 c2 v2)
  rw [show (w.alloc (.cells (confV c f1 c1 v1) CT)).heap.size = w.heap.size + 1 by simp] at h3
  exact ⟨(Has.new w _ _).below hb (Has.new w _ _).lt, h3, (h1.below ha).below hb, (h2.below ha).below hb, below_chain ha hb, Nat.le_refl _⟩
theorem bset {B : Nat} {a w : World} (h : Below B a w) {p : Addr} (hp : B ≤ p.block) (u : Value) : Below B a (w.setCell p u) :=
  ⟨h.os, h.tape, h.output, by simpa [World.setCell] using h.size, fun k hk => (Below.heap_setCell w p u k (by omega)).trans (h.block k hk)⟩
theorem balloc {a w : World} (h : Below a.heap.size a w) (o : Obj) : Below a.heap.size a (w.alloc o) := h.alloc h.size o
theorem bdrewN {B : Nat} {a w : World} (h : Below B a w) (m : Nat) : Below B a (w.drewN m) := ⟨h.os, h.tape, h.output, h.size, h.block⟩
theorem pair_new (wr : World) (A B : Array Value) (T : TypeId) : Has (((wr.alloc (.cells A T)).alloc (.cells B T)).drew) wr.heap.size T A ∧ Has (((wr.alloc (.cells A T)).alloc (.cells B T)).drew) (wr.heap.size + 1) T B ∧ Below wr.heap.size wr (((wr.alloc (.cells A T)).alloc (.cells B T)).drew) := by
  have h1 := (Has.new wr T A).alloc (.cells B T)
  have h2 := Has.new (wr.alloc (.cells A T)) T B
  rw [show (wr.alloc (.cells A T)).heap.size = wr.heap.size + 1 by simp] at h2
  exact ⟨h1.drew, h2.drew, below_drew (balloc (balloc (Below.refl _ _) _) _)⟩
set_option maxHeartbeats 12800000 in
theorem rsame_self (c : Conf) (f1 c1 v1 f2 c2 v2 : Value) (w : World) (h1 : CF w f1 c1 v1 c) (h2 : CF w f2 c2 v2 c) :
    Calls Tryz.prog 14 #[.agg (confV c f1 c1 v1), .agg (confV c f2 c2 v2)] w fun e w' => e = .returned (.bool true) ∧ Below w.heap.size w w' := by
  have HK := Lib.hid (K2.start h1 h2)
  obtain ⟨⟨pf1, cf1, rfl⟩, ⟨pc1, cc1, rfl⟩, ⟨pv1, cv1, rfl⟩⟩ := R14Bnd.CF.vals h1
  obtain ⟨⟨pf2, cf2, rfl⟩, ⟨pc2, cc2, rfl⟩, ⟨pv2, cv2, rfl⟩⟩ := R14Bnd.CF.vals h2
  have hfl : c.filters.length ≤ 9223372036854775807 := by obtain ⟨_, _, _, h, _⟩ := h1.filters.parts; exact h
  have hcl : c.clusters.length ≤ 9223372036854775807 := by obtain ⟨_, _, _, h, _⟩ := h1.clusters.parts; exact h
  have hvl : c.vhosts.length ≤ 9223372036854775807 := by obtain ⟨_, _, _, h, _⟩ := h1.vhosts.parts; exact h
  clear h1 h2
  obtain ⟨ga, hga⟩ : ∃ g, g = w.heap.size := ⟨_, rfl⟩
  obtain ⟨gb, hgb⟩ : ∃ g, g = w.heap.size + 1 := ⟨_, rfl⟩
  rw [← hgb, ← hga] at HK
  have HGa := Lib.hid hga
  have HGb := Lib.hid hgb
  clear hga hgb
  unfold confV CT at HK
  unfold confV
  generalize hW0 : (w.alloc (.cells #[.int .i64 c.conns, .int .i64 c.body, .int .i64 c.idle, .int .i64 c.grace, .int .i64 c.budget, .int .i64 c.seed, .slice pf1 c.filters.length cf1, .slice pc1 c.clusters.length cc1, .slice pv1 c.vhosts.length cv1] 26)).alloc (.cells #[.int .i64 c.conns, .int .i64 c.body, .int .i64 c.idle, .int .i64 c.grace, .int .i64 c.budget, .int .i64 c.seed, .slice pf2 c.filters.length cf2, .slice pc2 c.clusters.length cc2, .slice pv2 c.vhosts.length cv2] 26) = W0 at HK
  have HW0 := Lib.hid hW0
  clear hW0
  have k0 := HK.out
  have n10 : W0.cell? ⟨ga, 0, none⟩ = some (.int .i64 c.conns) := k0.b1.cell 0
  have n11 : W0.cell? ⟨ga, 1, none⟩ = some (.int .i64 c.body) := k0.b1.cell 1
  have n12 : W0.cell? ⟨ga, 2, none⟩ = some (.int .i64 c.idle) := k0.b1.cell 2
  have n13 : W0.cell? ⟨ga, 3, none⟩ = some (.int .i64 c.grace) := k0.b1.cell 3
  have n14 : W0.cell? ⟨ga, 4, none⟩ = some (.int .i64 c.budget) := k0.b1.cell 4
  have n15 : W0.cell? ⟨ga, 5, none⟩ = some (.int .i64 c.seed) := k0.b1.cell 5
  have n16 : W0.cell? ⟨ga, 6, none⟩ = some (.slice pf1 c.filters.length cf1) := k0.b1.cell 6
  have n17 : W0.cell? ⟨ga, 7, none⟩ = some (.slice pc1 c.clusters.length cc1) := k0.b1.cell 7
  have n18 : W0.cell? ⟨ga, 8, none⟩ = some (.slice pv1 c.vhosts.length cv1) := k0.b1.cell 8
  have n20 : W0.cell? ⟨gb, 0, none⟩ = some (.int .i64 c.conns) := k0.b2.cell 0
  have n21 : W0.cell? ⟨gb, 1, none⟩ = some (.int .i64 c.body) := k0.b2.cell 1
  have n22 : W0.cell? ⟨gb, 2, none⟩ = some (.int .i64 c.idle) := k0.b2.cell 2
  have n23 : W0.cell? ⟨gb, 3, none⟩ = some (.int .i64 c.grace) := k0.b2.cell 3
  have n24 : W0.cell? ⟨gb, 4, none⟩ = some (.int .i64 c.budget) := k0.b2.cell 4
  have n25 : W0.cell? ⟨gb, 5, none⟩ = some (.int .i64 c.seed) := k0.b2.cell 5
  have n26 : W0.cell? ⟨gb, 6, none⟩ = some (.slice pf2 c.filters.length cf2) := k0.b2.cell 6
  have n27 : W0.cell? ⟨gb, 7, none⟩ = some (.slice pc2 c.clusters.length cc2) := k0.b2.cell 7
  have n28 : W0.cell? ⟨gb, 8, none⟩ = some (.slice pv2 c.vhosts.length cv2) := k0.b2.cell 8
  clear k0
  go_enter Tryz.func14, Tryz.ntmps14
  go_wp2_with fail
  rw [HW0.out, ← HGb.out, ← HGa.out]
  clear n10 n11 n12 n13 n14 n15 n16 n17 n18 n20 n21 n22 n23 n24 n25 n26 n27 n28 HW0
  go_loopw [5] (fun i wr => ∃ k : Nat, k ≤ c.filters.length ∧ i = .int .i64 k ∧ Hid (K2 w ga gb c (.slice pf1 c.filters.length cf1) (.slice pc1 c.clusters.length cc1) (.slice pv1 c.vhosts.length cv1) (.slice pf2 c.filters.length cf2) (.slice pc2 c.clusters.length cc2) (.slice pv2 c.vhosts.length cv2) wr)) (fun i _ => c.filters.length - (intOf i).toNat)
  case atStart => exact ⟨0, Nat.zero_le _, rfl, HK⟩
  case round =>
    obtain ⟨k, hk, rfl, HJ⟩ := hrel
    clear HK
    have l1 : wr.cell? ⟨ga, 6, none⟩ = some (.slice pf1 c.filters.length cf1) := HJ.out.b1.cell 6
    have l2 : wr.cell? ⟨gb, 6, none⟩ = some (.slice pf2 c.filters.length cf2) := HJ.out.b2.cell 6
    by_cases hlt : k < c.filters.length
    · have hki : (k : Int) < (c.filters.length : Int) := by omega
      have hk0 : (0 : Int) ≤ (k : Int) := by omega
      obtain ⟨g1, o1, rfl, hx1⟩ := filts_at HJ.out.c1.filters k hlt
      obtain ⟨g2, o2, rfl, hx2⟩ := filts_at HJ.out.c2.filters k hlt
      obtain ⟨x, hxx⟩ : ∃ x, x = c.filters[k] := ⟨_, rfl⟩
      have m1 := hx1 x hxx
      have m2 := hx2 x hxx
      have heq := fun W => R14EqS.neF x.kind x.n x.m x.k (ofL x.name) (ofL x.value) W
      have K3 := Lib.hid HJ.out.drew
      clear hx1 hx2 hxx HJ
      obtain ⟨a0, a1, a2, a3, a4, a5⟩ := m1
      obtain ⟨b0, b1, b2, b3, b4, b5⟩ := m2
      go_wp2_with fail
      have q0 : wr.drew.cell? ⟨ga, 6, none⟩ = some (.slice (some ⟨g1, o1, none⟩) c.filters.length cf1) ∧ wr.drew.cell? ⟨gb, 6, none⟩ = some (.slice (some ⟨g2, o2, none⟩) c.filters.length cf2) ∧ wr.drew.cell? ⟨g1, o1 + k * 6, none⟩ = some (.int .i64 x.kind) ∧ wr.drew.cell? ⟨g1, o1 + k * 6 + 1, none⟩ = some (.string (ofL x.name)) ∧ wr.drew.cell? ⟨g1, o1 + k * 6 + 2, none⟩ = some (.string (ofL x.value)) ∧ wr.drew.cell? ⟨g1, o1 + k * 6 + 3, none⟩ = some (.int .i64 x.n) ∧ wr.drew.cell? ⟨g1, o1 + k * 6 + 4, none⟩ = some (.int .i64 x.m) ∧ wr.drew.cell? ⟨g1, o1 + k * 6 + 5, none⟩ = some (.int .i64 x.k) ∧ wr.drew.cell? ⟨g2, o2 + k * 6, none⟩ = some (.int .i64 x.kind) ∧ wr.drew.cell? ⟨g2, o2 + k * 6 + 1, none⟩ = some (.string (ofL x.name)) ∧ wr.drew.cell? ⟨g2, o2 + k * 6 + 2, none⟩ = some (.string (ofL x.value)) ∧ wr.drew.cell? ⟨g2, o2 + k * 6 + 3, none⟩ = some (.int .i64 x.n) ∧ wr.drew.cell? ⟨g2, o2 + k * 6 + 4, none⟩ = some (.int .i64 x.m) ∧ wr.drew.cell? ⟨g2, o2 + k * 6 + 5, none⟩ = some (.int .i64 x.k) := ⟨l1, l2, a0, a1, a2, a3, a4, a5, b0, b1, b2, b3, b4, b5⟩
      go_region_held3 (fun w' => w'.cell? ⟨ga, 6, none⟩ = some (.slice (some ⟨g1, o1, none⟩) c.filters.length cf1) ∧ w'.cell? ⟨gb, 6, none⟩ = some (.slice (some ⟨g2, o2, none⟩) c.filters.length cf2) ∧ w'.cell? ⟨g1, o1 + k * 6, none⟩ = some (.int .i64 x.kind) ∧ w'.cell? ⟨g1, o1 + k * 6 + 1, none⟩ = some (.string (ofL x.name)) ∧ w'.cell? ⟨g1, o1 + k * 6 + 2, none⟩ = some (.string (ofL x.value)) ∧ w'.cell? ⟨g1, o1 + k * 6 + 3, none⟩ = some (.int .i64 x.n) ∧ w'.cell? ⟨g1, o1 + k * 6 + 4, none⟩ = some (.int .i64 x.m) ∧ w'.cell? ⟨g1, o1 + k * 6 + 5, none⟩ = some (.int .i64 x.k) ∧ w'.cell? ⟨g2, o2 + k * 6, none⟩ = some (.int .i64 x.kind) ∧ w'.cell? ⟨g2, o2 + k * 6 + 1, none⟩ = some (.string (ofL x.name)) ∧ w'.cell? ⟨g2, o2 + k * 6 + 2, none⟩ = some (.string (ofL x.value)) ∧ w'.cell? ⟨g2, o2 + k * 6 + 3, none⟩ = some (.int .i64 x.n) ∧ w'.cell? ⟨g2, o2 + k * 6 + 4, none⟩ = some (.int .i64 x.m) ∧ w'.cell? ⟨g2, o2 + k * 6 + 5, none⟩ = some (.int .i64 x.k)) (exact q0) (fail)
      clear q0 l1 l2 a0 a1 a2 a3 a4 a5 b0 b1 b2 b3 b4 b5
      go_wp2_with fail
      go_roundw
      case rel => exact ⟨k + 1, by omega, by go_num, K3⟩
      case measure => simp [intOf]; omega
    · have hki : ¬ (k : Int) < (c.filters.length : Int) := by omega
      have K3 := HJ
      clear HJ
      go_wp2_with fail
      clear l1 l2
      go_loopw [6] (fun i wr => ∃ k : Nat, k ≤ c.clusters.length ∧ i = .int .i64 k ∧ Hid (K2 w ga gb c (.slice pf1 c.filters.length cf1) (.slice pc1 c.clusters.length cc1) (.slice pv1 c.vhosts.length cv1) (.slice pf2 c.filters.length cf2) (.slice pc2 c.clusters.length cc2) (.slice pv2 c.vhosts.length cv2) wr)) (fun i _ => c.clusters.length - (intOf i).toNat)
      case atStart => exact ⟨0, Nat.zero_le _, rfl, K3⟩
      case round =>
        obtain ⟨k, hk, rfl, HJ⟩ := hrel
        clear K3
        have l1 : wr.cell? ⟨ga, 7, none⟩ = some (.slice pc1 c.clusters.length cc1) := HJ.out.b1.cell 7
        have l2 : wr.cell? ⟨gb, 7, none⟩ = some (.slice pc2 c.clusters.length cc2) := HJ.out.b2.cell 7
        by_cases hlt : k < c.clusters.length
        · have hki : (k : Int) < (c.clusters.length : Int) := by omega
          have hk0 : (0 : Int) ≤ (k : Int) := by omega
          obtain ⟨g1, o1, rfl, hx1⟩ := cluss_at HJ.out.c1.clusters k hlt
          obtain ⟨g2, o2, rfl, hx2⟩ := cluss_at HJ.out.c2.clusters k hlt
          obtain ⟨x, hxx⟩ : ∃ x, x = c.clusters[k] := ⟨_, rfl⟩
          obtain ⟨y1, ht1, a0, a1, a2, a3, a4, a5, a6, a7, a8⟩ := hx1 x hxx
          obtain ⟨y2, ht2, b0, b1, b2, b3, b4, b5, b6, b7, b8⟩ := hx2 x hxx
          obtain ⟨ph1, ch1, rfl, _, _⟩ := id ht1
          obtain ⟨ph2, ch2, rfl, _, _⟩ := id ht2
          have HK := Lib.hid HJ.out
          have HT1 := Lib.hid ht1
          have HT2 := Lib.hid ht2
          have q0 : wr.cell? ⟨ga, 7, none⟩ = some (.slice (some ⟨g1, o1, none⟩) c.clusters.length cc1) ∧ wr.cell? ⟨gb, 7, none⟩ = some (.slice (some ⟨g2, o2, none⟩) c.clusters.length cc2) ∧ wr.cell? ⟨g1, o1 + k * 9, none⟩ = some (.string (ofL x.name)) ∧ wr.cell? ⟨g1, o1 + k * 9 + 1, none⟩ = some (.int .i64 x.policy) ∧ wr.cell? ⟨g1, o1 + k * 9 + 2, none⟩ = some (.slice ph1 x.hosts.length ch1) ∧ wr.cell? ⟨g1, o1 + k * 9 + 3, none⟩ = some (.int .i64 x.conns) ∧ wr.cell? ⟨g1, o1 + k * 9 + 4, none⟩ = some (.int .i64 x.pending) ∧ wr.cell? ⟨g1, o1 + k * 9 + 5, none⟩ = some (.int .i64 x.try_) ∧ wr.cell? ⟨g1, o1 + k * 9 + 6, none⟩ = some (.int .i64 x.fails) ∧ wr.cell? ⟨g1, o1 + k * 9 + 7, none⟩ = some (.int .i64 x.eject) ∧ wr.cell? ⟨g1, o1 + k * 9 + 8, none⟩ = some (.int .i64 x.panic) ∧ wr.cell? ⟨g2, o2 + k * 9, none⟩ = some (.string (ofL x.name)) ∧ wr.cell? ⟨g2, o2 + k * 9 + 1, none⟩ = some (.int .i64 x.policy) ∧ wr.cell? ⟨g2, o2 + k * 9 + 2, none⟩ = some (.slice ph2 x.hosts.length ch2) ∧ wr.cell? ⟨g2, o2 + k * 9 + 3, none⟩ = some (.int .i64 x.conns) ∧ wr.cell? ⟨g2, o2 + k * 9 + 4, none⟩ = some (.int .i64 x.pending) ∧ wr.cell? ⟨g2, o2 + k * 9 + 5, none⟩ = some (.int .i64 x.try_) ∧ wr.cell? ⟨g2, o2 + k * 9 + 6, none⟩ = some (.int .i64 x.fails) ∧ wr.cell? ⟨g2, o2 + k * 9 + 7, none⟩ = some (.int .i64 x.eject) ∧ wr.cell? ⟨g2, o2 + k * 9 + 8, none⟩ = some (.int .i64 x.panic) := ⟨l1, l2, a0, a1, a2, a3, a4, a5, a6, a7, a8, b0, b1, b2, b3, b4, b5, b6, b7, b8⟩
          have cu : ∀ (W : World) (g i : Nat) (v : Value), Below wr.heap.size wr W → wr.cell? ⟨g, i, none⟩ = some v → W.cell? ⟨g, i, none⟩ = some v := fun W g i v hb h => by
            have hlt : g < wr.heap.size := by
              apply Decidable.byContradiction
              intro hn
              have : wr.heap[g]? = none := Array.getElem?_eq_none (Nat.le_of_not_lt hn)
              simp [World.cell?, this] at h
            exact (hb.cell (p := ⟨g, i, none⟩) hlt).trans h
          have qf : ∀ W : World, Below wr.heap.size wr W → W.cell? ⟨ga, 7, none⟩ = some (.slice (some ⟨g1, o1, none⟩) c.clusters.length cc1) ∧ W.cell? ⟨gb, 7, none⟩ = some (.slice (some ⟨g2, o2, none⟩) c.clusters.length cc2) ∧ W.cell? ⟨g1, o1 + k * 9, none⟩ = some (.string (ofL x.name)) ∧ W.cell? ⟨g1, o1 + k * 9 + 1, none⟩ = some (.int .i64 x.policy) ∧ W.cell? ⟨g1, o1 + k * 9 + 2, none⟩ = some (.slice ph1 x.hosts.length ch1) ∧ W.cell? ⟨g1, o1 + k * 9 + 3, none⟩ = some (.int .i64 x.conns) ∧ W.cell? ⟨g1, o1 + k * 9 + 4, none⟩ = some (.int .i64 x.pending) ∧ W.cell? ⟨g1, o1 + k * 9 + 5, none⟩ = some (.int .i64 x.try_) ∧ W.cell? ⟨g1, o1 + k * 9 + 6, none⟩ = some (.int .i64 x.fails) ∧ W.cell? ⟨g1, o1 + k * 9 + 7, none⟩ = some (.int .i64 x.eject) ∧ W.cell? ⟨g1, o1 + k * 9 + 8, none⟩ = some (.int .i64 x.panic) ∧ W.cell? ⟨g2, o2 + k * 9, none⟩ = some (.string (ofL x.name)) ∧ W.cell? ⟨g2, o2 + k * 9 + 1, none⟩ = some (.int .i64 x.policy) ∧ W.cell? ⟨g2, o2 + k * 9 + 2, none⟩ = some (.slice ph2 x.hosts.length ch2) ∧ W.cell? ⟨g2, o2 + k * 9 + 3, none⟩ = some (.int .i64 x.conns) ∧ W.cell? ⟨g2, o2 + k * 9 + 4, none⟩ = some (.int .i64 x.pending) ∧ W.cell? ⟨g2, o2 + k * 9 + 5, none⟩ = some (.int .i64 x.try_) ∧ W.cell? ⟨g2, o2 + k * 9 + 6, none⟩ = some (.int .i64 x.fails) ∧ W.cell? ⟨g2, o2 + k * 9 + 7, none⟩ = some (.int .i64 x.eject) ∧ W.cell? ⟨g2, o2 + k * 9 + 8, none⟩ = some (.int .i64 x.panic) := fun W hb => ⟨cu _ _ _ _ hb l1, cu _ _ _ _ hb l2, cu _ _ _ _ hb a0, cu _ _ _ _ hb a1, cu _ _ _ _ hb a2, cu _ _ _ _ hb a3, cu _ _ _ _ hb a4, cu _ _ _ _ hb a5, cu _ _ _ _ hb a6, cu _ _ _ _ hb a7, cu _ _ _ _ hb a8, cu _ _ _ _ hb b0, cu _ _ _ _ hb b1, cu _ _ _ _ hb b2, cu _ _ _ _ hb b3, cu _ _ _ _ hb b4, cu _ _ _ _ hb b5, cu _ _ _ _ hb b6, cu _ _ _ _ hb b7, cu _ _ _ _ hb b8⟩
          have HB0 : Below wr.heap.size wr wr.drew := below_drew (Below.refl _ _)
          have HQ := Lib.hid qf
          have HB0h := Lib.hid HB0
          clear hx1 hx2 hxx HJ cu qf HB0 ht1 ht2
          go_wp2_with fail
          go_region_held3 (fun w' => w'.cell? ⟨ga, 7, none⟩ = some (.slice (some ⟨g1, o1, none⟩) c.clusters.length cc1) ∧ w'.cell? ⟨gb, 7, none⟩ = some (.slice (some ⟨g2, o2, none⟩) c.clusters.length cc2) ∧ w'.cell? ⟨g1, o1 + k * 9, none⟩ = some (.string (ofL x.name)) ∧ w'.cell? ⟨g1, o1 + k * 9 + 1, none⟩ = some (.int .i64 x.policy) ∧ w'.cell? ⟨g1, o1 + k * 9 + 2, none⟩ = some (.slice ph1 x.hosts.length ch1) ∧ w'.cell? ⟨g1, o1 + k * 9 + 3, none⟩ = some (.int .i64 x.conns) ∧ w'.cell? ⟨g1, o1 + k * 9 + 4, none⟩ = some (.int .i64 x.pending) ∧ w'.cell? ⟨g1, o1 + k * 9 + 5, none⟩ = some (.int .i64 x.try_) ∧ w'.cell? ⟨g1, o1 + k * 9 + 6, none⟩ = some (.int .i64 x.fails) ∧ w'.cell? ⟨g1, o1 + k * 9 + 7, none⟩ = some (.int .i64 x.eject) ∧ w'.cell? ⟨g1, o1 + k * 9 + 8, none⟩ = some (.int .i64 x.panic) ∧ w'.cell? ⟨g2, o2 + k * 9, none⟩ = some (.string (ofL x.name)) ∧ w'.cell? ⟨g2, o2 + k * 9 + 1, none⟩ = some (.int .i64 x.policy) ∧ w'.cell? ⟨g2, o2 + k * 9 + 2, none⟩ = some (.slice ph2 x.hosts.length ch2) ∧ w'.cell? ⟨g2, o2 + k * 9 + 3, none⟩ = some (.int .i64 x.conns) ∧ w'.cell? ⟨g2, o2 + k * 9 + 4, none⟩ = some (.int .i64 x.pending) ∧ w'.cell? ⟨g2, o2 + k * 9 + 5, none⟩ = some (.int .i64 x.try_) ∧ w'.cell? ⟨g2, o2 + k * 9 + 6, none⟩ = some (.int .i64 x.fails) ∧ w'.cell? ⟨g2, o2 + k * 9 + 7, none⟩ = some (.int .i64 x.eject) ∧ w'.cell? ⟨g2, o2 + k * 9 + 8, none⟩ = some (.int .i64 x.panic)) (first | with_reducible exact q0 | (refine HQ.out _ ?_; repeat (first | with_reducible exact Below.refl _ _ | with_reducible refine below_drew ?_ | with_reducible refine balloc ?_ _ | (with_reducible refine bset ?_ (by simp) _)))) (fail)
          all_goals
            clear q0 l1 l2 a0 a1 a2 a3 a4 a5 a6 a7 a8 b0 b1 b2 b3 b4 b5 b6 b7 b8
            go_wp2_with fail
            refine Calls.mono (RSame.rsame_any _ _ x.hosts x.hosts _ ?_ ?_) ?_
            · exact Texts.below HT1.out (by repeat (first | with_reducible exact Below.refl _ _ | with_reducible refine below_drew ?_ | with_reducible refine balloc ?_ _))
            · exact Texts.below HT2.out (by repeat (first | with_reducible exact Below.refl _ _ | with_reducible refine below_drew ?_ | with_reducible refine balloc ?_ _))
            rintro e w5 ⟨rfl, m5, rfl⟩
            rw [show (x.hosts == x.hosts) = true from beq_self_eq_true _]
            go_wp2_with fail
            go_roundw
            case rel => exact ⟨k + 1, by omega, by go_num, Lib.hid (HK.out.call (by repeat (first | with_reducible exact Below.refl _ _ | with_reducible refine below_drew ?_ | with_reducible refine bdrewN ?_ _ | with_reducible refine balloc ?_ _)))⟩
            case measure => simp [intOf]; omega
        · have hki : ¬ (k : Int) < (c.clusters.length : Int) := by omega
          have K4 := HJ
          clear HJ
          go_wp2_with fail
          clear l1 l2
          go_loopw [9] (fun i wr => ∃ k : Nat, k ≤ c.vhosts.length ∧ i = .int .i64 k ∧ Hid (K2 w ga gb c (.slice pf1 c.filters.length cf1) (.slice pc1 c.clusters.length cc1) (.slice pv1 c.vhosts.length cv1) (.slice pf2 c.filters.length cf2) (.slice pc2 c.clusters.length cc2) (.slice pv2 c.vhosts.length cv2) wr)) (fun i _ => c.vhosts.length - (intOf i).toNat)
          case atStart => exact ⟨0, Nat.zero_le _, rfl, K4⟩
          case round =>
            obtain ⟨k, hk, rfl, HJ⟩ := hrel
            clear K4
            have l1 : wr.cell? ⟨ga, 8, none⟩ = some (.slice pv1 c.vhosts.length cv1) := HJ.out.b1.cell 8
            have l2 : wr.cell? ⟨gb, 8, none⟩ = some (.slice pv2 c.vhosts.length cv2) := HJ.out.b2.cell 8
            by_cases hlt : k < c.vhosts.length
            · have hki : (k : Int) < (c.vhosts.length : Int) := by omega
              have hk0 : (0 : Int) ≤ (k : Int) := by omega
              obtain ⟨g1, o1, y1, rfl, ht1, a0, a1⟩ := R14Vhost.vhos_at HJ.out.c1.vhosts k hlt
              obtain ⟨g2, o2, y2, rfl, ht2, b0, b1⟩ := R14Vhost.vhos_at HJ.out.c2.vhosts k hlt
              obtain ⟨x, hxx⟩ : ∃ x, x = c.vhosts[k] := ⟨_, rfl⟩
              rw [← hxx] at ht1 ht2 a0 b0
              obtain ⟨ph1, ch1, rfl, hrl, _⟩ := id ht1.parts
              obtain ⟨ph2, ch2, rfl, _, _⟩ := id ht2.parts
              have HK := Lib.hid HJ.out
              have HT1 := Lib.hid ht1
              have HT2 := Lib.hid ht2
              have q0 : wr.cell? ⟨ga, 8, none⟩ = some (.slice (some ⟨g1, o1, none⟩) c.vhosts.length cv1) ∧ wr.cell? ⟨gb, 8, none⟩ = some (.slice (some ⟨g2, o2, none⟩) c.vhosts.length cv2) ∧ wr.cell? ⟨g1, o1 + k * 2, none⟩ = some (.string (ofL x.domain)) ∧ wr.cell? ⟨g1, o1 + k * 2 + 1, none⟩ = some (.slice ph1 x.routes.length ch1) ∧ wr.cell? ⟨g2, o2 + k * 2, none⟩ = some (.string (ofL x.domain)) ∧ wr.cell? ⟨g2, o2 + k * 2 + 1, none⟩ = some (.slice ph2 x.routes.length ch2) := ⟨l1, l2, a0, a1, b0, b1⟩
              have cu : ∀ (W : World) (g i : Nat) (v : Value), Below wr.heap.size wr W → wr.cell? ⟨g, i, none⟩ = some v → W.cell? ⟨g, i, none⟩ = some v := fun W g i v hb h => by
                have hlt : g < wr.heap.size := by
                  apply Decidable.byContradiction
                  intro hn
                  have : wr.heap[g]? = none := Array.getElem?_eq_none (Nat.le_of_not_lt hn)
                  simp [World.cell?, this] at h
                exact (hb.cell (p := ⟨g, i, none⟩) hlt).trans h
              have qf : ∀ W : World, Below wr.heap.size wr W → W.cell? ⟨ga, 8, none⟩ = some (.slice (some ⟨g1, o1, none⟩) c.vhosts.length cv1) ∧ W.cell? ⟨gb, 8, none⟩ = some (.slice (some ⟨g2, o2, none⟩) c.vhosts.length cv2) ∧ W.cell? ⟨g1, o1 + k * 2, none⟩ = some (.string (ofL x.domain)) ∧ W.cell? ⟨g1, o1 + k * 2 + 1, none⟩ = some (.slice ph1 x.routes.length ch1) ∧ W.cell? ⟨g2, o2 + k * 2, none⟩ = some (.string (ofL x.domain)) ∧ W.cell? ⟨g2, o2 + k * 2 + 1, none⟩ = some (.slice ph2 x.routes.length ch2) := fun W hb => ⟨cu _ _ _ _ hb l1, cu _ _ _ _ hb l2, cu _ _ _ _ hb a0, cu _ _ _ _ hb a1, cu _ _ _ _ hb b0, cu _ _ _ _ hb b1⟩
              have HQ := Lib.hid qf
              clear hxx HJ cu qf ht1 ht2
              go_wp2_with fail
              go_region_held3 (fun w' => w'.cell? ⟨ga, 8, none⟩ = some (.slice (some ⟨g1, o1, none⟩) c.vhosts.length cv1) ∧ w'.cell? ⟨gb, 8, none⟩ = some (.slice (some ⟨g2, o2, none⟩) c.vhosts.length cv2) ∧ w'.cell? ⟨g1, o1 + k * 2, none⟩ = some (.string (ofL x.domain)) ∧ w'.cell? ⟨g1, o1 + k * 2 + 1, none⟩ = some (.slice ph1 x.routes.length ch1) ∧ w'.cell? ⟨g2, o2 + k * 2, none⟩ = some (.string (ofL x.domain)) ∧ w'.cell? ⟨g2, o2 + k * 2 + 1, none⟩ = some (.slice ph2 x.routes.length ch2)) (first | with_reducible exact q0 | (refine HQ.out _ ?_; repeat (first | with_reducible exact Below.refl _ _ | with_reducible refine below_drew ?_ | with_reducible refine balloc ?_ _ | (with_reducible refine bset ?_ (by simp) _)))) (fail)
              · clear q0 l1 l2 a0 a1 b0 b1
                obtain ⟨n1, n2, n3⟩ := pair_new wr #[.string (ofL x.domain), .slice ph1 x.routes.length ch1] #[.string (ofL x.domain), .slice ph2 x.routes.length ch2] 43
                have HI0 := Lib.hid (And.intro (HK.out.call n3) (And.intro n1 (And.intro n2 (And.intro (ConfMem.Routs.below HT1.out n3) (ConfMem.Routs.below HT2.out n3)))))
                obtain ⟨gx, hgx⟩ : ∃ g, Hid (g = wr.heap.size) := ⟨_, Lib.hid rfl⟩
                obtain ⟨gy, hgy⟩ : ∃ g, Hid (g = wr.heap.size + 1) := ⟨_, Lib.hid rfl⟩
                rw [← hgy.out, ← hgx.out] at HI0
                clear n1 n2 n3
                go_wp2_with fail
                rw [← hgy.out, ← hgx.out]
                go_loopw [12] (fun i W => ∃ j : Nat, j ≤ x.routes.length ∧ i = .int .i64 j ∧ Hid (K2 w ga gb c (.slice pf1 c.filters.length cf1) (.slice pc1 c.clusters.length cc1) (.slice (some ⟨g1, o1, none⟩) c.vhosts.length cv1) (.slice pf2 c.filters.length cf2) (.slice pc2 c.clusters.length cc2) (.slice (some ⟨g2, o2, none⟩) c.vhosts.length cv2) W ∧ Has W gx 43 #[.string (ofL x.domain), .slice ph1 x.routes.length ch1] ∧ Has W gy 43 #[.string (ofL x.domain), .slice ph2 x.routes.length ch2] ∧ Routs W (.slice ph1 x.routes.length ch1) x.routes ∧ Routs W (.slice ph2 x.routes.length ch2) x.routes)) (fun i _ => x.routes.length - (intOf i).toNat)
                case atStart => exact ⟨0, Nat.zero_le _, rfl, HI0⟩
                case round =>
                  obtain ⟨j, hj, rfl, HI⟩ := hrel
                  clear HI0
                  have l1 : wr.cell? ⟨gx, 1, none⟩ = some (.slice ph1 x.routes.length ch1) := HI.out.2.1.cell 1
                  have l2 : wr.cell? ⟨gy, 1, none⟩ = some (.slice ph2 x.routes.length ch2) := HI.out.2.2.1.cell 1
                  by_cases hlt2 : j < x.routes.length
                  · have hji : (j : Int) < (x.routes.length : Int) := by omega
                    have hj0 : (0 : Int) ≤ (j : Int) := by omega
                    obtain ⟨p3, c3, hv3, _, hc3⟩ := HI.out.2.2.2.1.parts
                    obtain ⟨p4, c4, hv4, _, hc4⟩ := HI.out.2.2.2.2.parts
                    injection hv3 with e1 e2 e3
                    injection hv4 with e4 e5 e6
                    clear e2 e5
                    subst e1
                    subst e3
                    subst e4
                    subst e6
                    obtain ⟨gr, orr, hp3, _, hcell3⟩ := hc3 (by omega)
                    obtain ⟨gs, os, hp4, _, hcell4⟩ := hc4 (by omega)
                    subst hp3
                    subst hp4
                    obtain ⟨r, hr⟩ : ∃ r, r = x.routes[j] := ⟨_, rfl⟩
                    have m1 := hcell3 j hlt2
                    have m2 := hcell4 j hlt2
                    rw [← hr] at m1 m2
                    have heq := fun W => R14EqS.neR r.pre r.upgrade r.action r.status r.retries r.timeout (ofL r.path) (ofL r.method) (ofL r.field) (ofL r.value) (ofL r.cluster) (ofL r.text) (ofL r.rewrite) W
                    obtain ⟨i1, i2, i3, i4, i5⟩ := HI.out
                    have HN := Lib.hid (And.intro i1.drew (And.intro i2.drew (And.intro i3.drew (And.intro (ConfMem.Routs.below i4 (below_drew (Below.refl _ _))) (ConfMem.Routs.below i5 (below_drew (Below.refl _ _)))))))
                    clear i1 i2 i3 i4 i5 HI hc3 hc4 hcell3 hcell4 hr
                    go_wp2_with fail
                    have q3 : wr.drew.cell? ⟨gx, 1, none⟩ = some (.slice (some ⟨gr, orr, none⟩) x.routes.length ch1) ∧ wr.drew.cell? ⟨gy, 1, none⟩ = some (.slice (some ⟨gs, os, none⟩) x.routes.length ch2) ∧ (wr.drew.cell? ⟨gr, orr + j * 13, none⟩ = some (.bool r.pre) ∧ wr.drew.cell? ⟨gr, orr + j * 13 + 1, none⟩ = some (.string (ofL r.path)) ∧ wr.drew.cell? ⟨gr, orr + j * 13 + 2, none⟩ = some (.string (ofL r.method)) ∧ wr.drew.cell? ⟨gr, orr + j * 13 + 3, none⟩ = some (.string (ofL r.field)) ∧ wr.drew.cell? ⟨gr, orr + j * 13 + 4, none⟩ = some (.string (ofL r.value)) ∧ wr.drew.cell? ⟨gr, orr + j * 13 + 5, none⟩ = some (.int .i64 r.action) ∧ wr.drew.cell? ⟨gr, orr + j * 13 + 6, none⟩ = some (.string (ofL r.cluster)) ∧ wr.drew.cell? ⟨gr, orr + j * 13 + 7, none⟩ = some (.int .i64 r.status) ∧ wr.drew.cell? ⟨gr, orr + j * 13 + 8, none⟩ = some (.string (ofL r.text)) ∧ wr.drew.cell? ⟨gr, orr + j * 13 + 9, none⟩ = some (.string (ofL r.rewrite)) ∧ wr.drew.cell? ⟨gr, orr + j * 13 + 10, none⟩ = some (.int .i64 r.retries) ∧ wr.drew.cell? ⟨gr, orr + j * 13 + 11, none⟩ = some (.int .i64 r.timeout) ∧ wr.drew.cell? ⟨gr, orr + j * 13 + 12, none⟩ = some (.bool r.upgrade)) ∧ (wr.drew.cell? ⟨gs, os + j * 13, none⟩ = some (.bool r.pre) ∧ wr.drew.cell? ⟨gs, os + j * 13 + 1, none⟩ = some (.string (ofL r.path)) ∧ wr.drew.cell? ⟨gs, os + j * 13 + 2, none⟩ = some (.string (ofL r.method)) ∧ wr.drew.cell? ⟨gs, os + j * 13 + 3, none⟩ = some (.string (ofL r.field)) ∧ wr.drew.cell? ⟨gs, os + j * 13 + 4, none⟩ = some (.string (ofL r.value)) ∧ wr.drew.cell? ⟨gs, os + j * 13 + 5, none⟩ = some (.int .i64 r.action) ∧ wr.drew.cell? ⟨gs, os + j * 13 + 6, none⟩ = some (.string (ofL r.cluster)) ∧ wr.drew.cell? ⟨gs, os + j * 13 + 7, none⟩ = some (.int .i64 r.status) ∧ wr.drew.cell? ⟨gs, os + j * 13 + 8, none⟩ = some (.string (ofL r.text)) ∧ wr.drew.cell? ⟨gs, os + j * 13 + 9, none⟩ = some (.string (ofL r.rewrite)) ∧ wr.drew.cell? ⟨gs, os + j * 13 + 10, none⟩ = some (.int .i64 r.retries) ∧ wr.drew.cell? ⟨gs, os + j * 13 + 11, none⟩ = some (.int .i64 r.timeout) ∧ wr.drew.cell? ⟨gs, os + j * 13 + 12, none⟩ = some (.bool r.upgrade)) := ⟨l1, l2, m1, m2⟩
                    clear m1 m2
                    go_region_held3 (fun w' => w'.cell? ⟨gx, 1, none⟩ = some (.slice (some ⟨gr, orr, none⟩) x.routes.length ch1) ∧ w'.cell? ⟨gy, 1, none⟩ = some (.slice (some ⟨gs, os, none⟩) x.routes.length ch2) ∧ (w'.cell? ⟨gr, orr + j * 13, none⟩ = some (.bool r.pre) ∧ w'.cell? ⟨gr, orr + j * 13 + 1, none⟩ = some (.string (ofL r.path)) ∧ w'.cell? ⟨gr, orr + j * 13 + 2, none⟩ = some (.string (ofL r.method)) ∧ w'.cell? ⟨gr, orr + j * 13 + 3, none⟩ = some (.string (ofL r.field)) ∧ w'.cell? ⟨gr, orr + j * 13 + 4, none⟩ = some (.string (ofL r.value)) ∧ w'.cell? ⟨gr, orr + j * 13 + 5, none⟩ = some (.int .i64 r.action) ∧ w'.cell? ⟨gr, orr + j * 13 + 6, none⟩ = some (.string (ofL r.cluster)) ∧ w'.cell? ⟨gr, orr + j * 13 + 7, none⟩ = some (.int .i64 r.status) ∧ w'.cell? ⟨gr, orr + j * 13 + 8, none⟩ = some (.string (ofL r.text)) ∧ w'.cell? ⟨gr, orr + j * 13 + 9, none⟩ = some (.string (ofL r.rewrite)) ∧ w'.cell? ⟨gr, orr + j * 13 + 10, none⟩ = some (.int .i64 r.retries) ∧ w'.cell? ⟨gr, orr + j * 13 + 11, none⟩ = some (.int .i64 r.timeout) ∧ w'.cell? ⟨gr, orr + j * 13 + 12, none⟩ = some (.bool r.upgrade)) ∧ (w'.cell? ⟨gs, os + j * 13, none⟩ = some (.bool r.pre) ∧ w'.cell? ⟨gs, os + j * 13 + 1, none⟩ = some (.string (ofL r.path)) ∧ w'.cell? ⟨gs, os + j * 13 + 2, none⟩ = some (.string (ofL r.method)) ∧ w'.cell? ⟨gs, os + j * 13 + 3, none⟩ = some (.string (ofL r.field)) ∧ w'.cell? ⟨gs, os + j * 13 + 4, none⟩ = some (.string (ofL r.value)) ∧ w'.cell? ⟨gs, os + j * 13 + 5, none⟩ = some (.int .i64 r.action) ∧ w'.cell? ⟨gs, os + j * 13 + 6, none⟩ = some (.string (ofL r.cluster)) ∧ w'.cell? ⟨gs, os + j * 13 + 7, none⟩ = some (.int .i64 r.status) ∧ w'.cell? ⟨gs, os + j * 13 + 8, none⟩ = some (.string (ofL r.text)) ∧ w'.cell? ⟨gs, os + j * 13 + 9, none⟩ = some (.string (ofL r.rewrite)) ∧ w'.cell? ⟨gs, os + j * 13 + 10, none⟩ = some (.int .i64 r.retries) ∧ w'.cell? ⟨gs, os + j * 13 + 11, none⟩ = some (.int .i64 r.timeout) ∧ w'.cell? ⟨gs, os + j * 13 + 12, none⟩ = some (.bool r.upgrade))) (exact q3) (fail)
                    clear q3 l1 l2
                    go_wp2_with fail
                    go_roundw
                    case rel => exact ⟨j + 1, by omega, by go_num, HN⟩
                    case measure => simp [intOf]; omega
                  · have hji : ¬ (j : Int) < (x.routes.length : Int) := by omega
                    have HN := Lib.hid HI.out.1
                    clear HI
                    go_wp2_with fail
                    go_roundw
                    case rel => exact ⟨k + 1, by omega, by go_num, HN⟩
                    case measure => simp [intOf]; omega
              · clear q0 l1 l2 a0 a1 b0 b1
                obtain ⟨n1, n2, n3⟩ := pair_new wr #[.string (ofL x.domain), .slice ph2 x.routes.length ch2] #[.string (ofL x.domain), .slice ph1 x.routes.length ch1] 43
                have HI0 := Lib.hid (And.intro (HK.out.call n3) (And.intro n2 (And.intro n1 (And.intro (ConfMem.Routs.below HT1.out n3) (ConfMem.Routs.below HT2.out n3)))))
                obtain ⟨gx, hgx⟩ : ∃ g, Hid (g = wr.heap.size) := ⟨_, Lib.hid rfl⟩
                obtain ⟨gy, hgy⟩ : ∃ g, Hid (g = wr.heap.size + 1) := ⟨_, Lib.hid rfl⟩
                rw [← hgy.out, ← hgx.out] at HI0
                clear n1 n2 n3
                go_wp2_with fail
                rw [← hgy.out, ← hgx.out]
                go_loopw [12] (fun i W => ∃ j : Nat, j ≤ x.routes.length ∧ i = .int .i64 j ∧ Hid (K2 w ga gb c (.slice pf1 c.filters.length cf1) (.slice pc1 c.clusters.length cc1) (.slice (some ⟨g1, o1, none⟩) c.vhosts.length cv1) (.slice pf2 c.filters.length cf2) (.slice pc2 c.clusters.length cc2) (.slice (some ⟨g2, o2, none⟩) c.vhosts.length cv2) W ∧ Has W gy 43 #[.string (ofL x.domain), .slice ph1 x.routes.length ch1] ∧ Has W gx 43 #[.string (ofL x.domain), .slice ph2 x.routes.length ch2] ∧ Routs W (.slice ph1 x.routes.length ch1) x.routes ∧ Routs W (.slice ph2 x.routes.length ch2) x.routes)) (fun i _ => x.routes.length - (intOf i).toNat)
                case atStart => exact ⟨0, Nat.zero_le _, rfl, HI0⟩
                case round =>
                  obtain ⟨j, hj, rfl, HI⟩ := hrel
                  clear HI0
                  have l1 : wr.cell? ⟨gy, 1, none⟩ = some (.slice ph1 x.routes.length ch1) := HI.out.2.1.cell 1
                  have l2 : wr.cell? ⟨gx, 1, none⟩ = some (.slice ph2 x.routes.length ch2) := HI.out.2.2.1.cell 1
                  by_cases hlt2 : j < x.routes.length
                  · have hji : (j : Int) < (x.routes.length : Int) := by omega
                    have hj0 : (0 : Int) ≤ (j : Int) := by omega
                    obtain ⟨p3, c3, hv3, _, hc3⟩ := HI.out.2.2.2.1.parts
                    obtain ⟨p4, c4, hv4, _, hc4⟩ := HI.out.2.2.2.2.parts
                    injection hv3 with e1 e2 e3
                    injection hv4 with e4 e5 e6
                    clear e2 e5
                    subst e1
                    subst e3
                    subst e4
                    subst e6
                    obtain ⟨gr, orr, hp3, _, hcell3⟩ := hc3 (by omega)
                    obtain ⟨gs, os, hp4, _, hcell4⟩ := hc4 (by omega)
                    subst hp3
                    subst hp4
                    obtain ⟨r, hr⟩ : ∃ r, r = x.routes[j] := ⟨_, rfl⟩
                    have m1 := hcell3 j hlt2
                    have m2 := hcell4 j hlt2
                    rw [← hr] at m1 m2
                    have heq := fun W => R14EqS.neR r.pre r.upgrade r.action r.status r.retries r.timeout (ofL r.path) (ofL r.method) (ofL r.field) (ofL r.value) (ofL r.cluster) (ofL r.text) (ofL r.rewrite) W
                    obtain ⟨i1, i2, i3, i4, i5⟩ := HI.out
                    have HN := Lib.hid (And.intro i1.drew (And.intro i2.drew (And.intro i3.drew (And.intro (ConfMem.Routs.below i4 (below_drew (Below.refl _ _))) (ConfMem.Routs.below i5 (below_drew (Below.refl _ _)))))))
                    clear i1 i2 i3 i4 i5 HI hc3 hc4 hcell3 hcell4 hr
                    go_wp2_with fail
                    have q3 : wr.drew.cell? ⟨gy, 1, none⟩ = some (.slice (some ⟨gr, orr, none⟩) x.routes.length ch1) ∧ wr.drew.cell? ⟨gx, 1, none⟩ = some (.slice (some ⟨gs, os, none⟩) x.routes.length ch2) ∧ (wr.drew.cell? ⟨gr, orr + j * 13, none⟩ = some (.bool r.pre) ∧ wr.drew.cell? ⟨gr, orr + j * 13 + 1, none⟩ = some (.string (ofL r.path)) ∧ wr.drew.cell? ⟨gr, orr + j * 13 + 2, none⟩ = some (.string (ofL r.method)) ∧ wr.drew.cell? ⟨gr, orr + j * 13 + 3, none⟩ = some (.string (ofL r.field)) ∧ wr.drew.cell? ⟨gr, orr + j * 13 + 4, none⟩ = some (.string (ofL r.value)) ∧ wr.drew.cell? ⟨gr, orr + j * 13 + 5, none⟩ = some (.int .i64 r.action) ∧ wr.drew.cell? ⟨gr, orr + j * 13 + 6, none⟩ = some (.string (ofL r.cluster)) ∧ wr.drew.cell? ⟨gr, orr + j * 13 + 7, none⟩ = some (.int .i64 r.status) ∧ wr.drew.cell? ⟨gr, orr + j * 13 + 8, none⟩ = some (.string (ofL r.text)) ∧ wr.drew.cell? ⟨gr, orr + j * 13 + 9, none⟩ = some (.string (ofL r.rewrite)) ∧ wr.drew.cell? ⟨gr, orr + j * 13 + 10, none⟩ = some (.int .i64 r.retries) ∧ wr.drew.cell? ⟨gr, orr + j * 13 + 11, none⟩ = some (.int .i64 r.timeout) ∧ wr.drew.cell? ⟨gr, orr + j * 13 + 12, none⟩ = some (.bool r.upgrade)) ∧ (wr.drew.cell? ⟨gs, os + j * 13, none⟩ = some (.bool r.pre) ∧ wr.drew.cell? ⟨gs, os + j * 13 + 1, none⟩ = some (.string (ofL r.path)) ∧ wr.drew.cell? ⟨gs, os + j * 13 + 2, none⟩ = some (.string (ofL r.method)) ∧ wr.drew.cell? ⟨gs, os + j * 13 + 3, none⟩ = some (.string (ofL r.field)) ∧ wr.drew.cell? ⟨gs, os + j * 13 + 4, none⟩ = some (.string (ofL r.value)) ∧ wr.drew.cell? ⟨gs, os + j * 13 + 5, none⟩ = some (.int .i64 r.action) ∧ wr.drew.cell? ⟨gs, os + j * 13 + 6, none⟩ = some (.string (ofL r.cluster)) ∧ wr.drew.cell? ⟨gs, os + j * 13 + 7, none⟩ = some (.int .i64 r.status) ∧ wr.drew.cell? ⟨gs, os + j * 13 + 8, none⟩ = some (.string (ofL r.text)) ∧ wr.drew.cell? ⟨gs, os + j * 13 + 9, none⟩ = some (.string (ofL r.rewrite)) ∧ wr.drew.cell? ⟨gs, os + j * 13 + 10, none⟩ = some (.int .i64 r.retries) ∧ wr.drew.cell? ⟨gs, os + j * 13 + 11, none⟩ = some (.int .i64 r.timeout) ∧ wr.drew.cell? ⟨gs, os + j * 13 + 12, none⟩ = some (.bool r.upgrade)) := ⟨l1, l2, m1, m2⟩
                    clear m1 m2
                    go_region_held3 (fun w' => w'.cell? ⟨gy, 1, none⟩ = some (.slice (some ⟨gr, orr, none⟩) x.routes.length ch1) ∧ w'.cell? ⟨gx, 1, none⟩ = some (.slice (some ⟨gs, os, none⟩) x.routes.length ch2) ∧ (w'.cell? ⟨gr, orr + j * 13, none⟩ = some (.bool r.pre) ∧ w'.cell? ⟨gr, orr + j * 13 + 1, none⟩ = some (.string (ofL r.path)) ∧ w'.cell? ⟨gr, orr + j * 13 + 2, none⟩ = some (.string (ofL r.method)) ∧ w'.cell? ⟨gr, orr + j * 13 + 3, none⟩ = some (.string (ofL r.field)) ∧ w'.cell? ⟨gr, orr + j * 13 + 4, none⟩ = some (.string (ofL r.value)) ∧ w'.cell? ⟨gr, orr + j * 13 + 5, none⟩ = some (.int .i64 r.action) ∧ w'.cell? ⟨gr, orr + j * 13 + 6, none⟩ = some (.string (ofL r.cluster)) ∧ w'.cell? ⟨gr, orr + j * 13 + 7, none⟩ = some (.int .i64 r.status) ∧ w'.cell? ⟨gr, orr + j * 13 + 8, none⟩ = some (.string (ofL r.text)) ∧ w'.cell? ⟨gr, orr + j * 13 + 9, none⟩ = some (.string (ofL r.rewrite)) ∧ w'.cell? ⟨gr, orr + j * 13 + 10, none⟩ = some (.int .i64 r.retries) ∧ w'.cell? ⟨gr, orr + j * 13 + 11, none⟩ = some (.int .i64 r.timeout) ∧ w'.cell? ⟨gr, orr + j * 13 + 12, none⟩ = some (.bool r.upgrade)) ∧ (w'.cell? ⟨gs, os + j * 13, none⟩ = some (.bool r.pre) ∧ w'.cell? ⟨gs, os + j * 13 + 1, none⟩ = some (.string (ofL r.path)) ∧ w'.cell? ⟨gs, os + j * 13 + 2, none⟩ = some (.string (ofL r.method)) ∧ w'.cell? ⟨gs, os + j * 13 + 3, none⟩ = some (.string (ofL r.field)) ∧ w'.cell? ⟨gs, os + j * 13 + 4, none⟩ = some (.string (ofL r.value)) ∧ w'.cell? ⟨gs, os + j * 13 + 5, none⟩ = some (.int .i64 r.action) ∧ w'.cell? ⟨gs, os + j * 13 + 6, none⟩ = some (.string (ofL r.cluster)) ∧ w'.cell? ⟨gs, os + j * 13 + 7, none⟩ = some (.int .i64 r.status) ∧ w'.cell? ⟨gs, os + j * 13 + 8, none⟩ = some (.string (ofL r.text)) ∧ w'.cell? ⟨gs, os + j * 13 + 9, none⟩ = some (.string (ofL r.rewrite)) ∧ w'.cell? ⟨gs, os + j * 13 + 10, none⟩ = some (.int .i64 r.retries) ∧ w'.cell? ⟨gs, os + j * 13 + 11, none⟩ = some (.int .i64 r.timeout) ∧ w'.cell? ⟨gs, os + j * 13 + 12, none⟩ = some (.bool r.upgrade))) (exact q3) (fail)
                    clear q3 l1 l2
                    go_wp2_with fail
                    go_roundw
                    case rel => exact ⟨j + 1, by omega, by go_num, HN⟩
                    case measure => simp [intOf]; omega
                  · have hji : ¬ (j : Int) < (x.routes.length : Int) := by omega
                    have HN := Lib.hid HI.out.1
                    clear HI
                    go_wp2_with fail
                    go_roundw
                    case rel => exact ⟨k + 1, by omega, by go_num, HN⟩
                    case measure => simp [intOf]; omega
            · have hki : ¬ (k : Int) < (c.vhosts.length : Int) := by omega
              have HE := Lib.hid HJ.out.below
              clear HJ
              go_wp2_with fail
              go_ret
              exact ⟨rfl, HE.out⟩
end Go.Proofs.YtfihehobkbfmiaaGreatDoor.R14Same
