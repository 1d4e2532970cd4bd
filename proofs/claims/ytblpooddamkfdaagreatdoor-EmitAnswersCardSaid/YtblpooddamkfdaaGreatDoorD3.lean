/- Texts of this seat, one behind another: R12Next, R12Use. -/
import Derived.Deep.RegionWith
import Derived.Deep.RegionHeld3
import Derived.Test.YtblpooddamkfdaaGreatDoorD2
/- The document's layer 12, where the whole of a good response has come: next. -/
namespace Go.Proofs.YtblpooddamkfdaaGreatDoor.R12Next
open Go.ChangeShapes Go.WideShapes Go.ChangeAt Go.RowKit Bytes LexPure FieldsPure HeadPure FramePure Flds HBox Mem Step KeptRow R12Box
set_option maxRecDepth 100000
set_option linter.unusedVariables false
set_option linter.unusedSimpArgs false
def zp : Array Value := #[.int .i64 0, .string ⟨#[]⟩, .string ⟨#[]⟩, .int .i64 0, .string ⟨#[]⟩, .int .i64 0, .slice none 0 0, .string ⟨#[]⟩]
/-- within next: the reader, the answer's box, the head's box -/
structure NS (w : World) (g gb : Nat) (cs zs : Array Value) (h : H8) (v : Value) (wr : World) : Prop where
  rd : Has wr g RT cs
  rs : Has wr w.heap.size PT zs
  bx : HBox wr gb h v
  fl : FL wr v h.fields
  low : w.heap.size + 1 ≤ gb
  lt : gb < wr.heap.size
  st : Step w wr (fun k => k = g) (fun k => k = g)
  old : g < w.heap.size
theorem NS.call {w : World} {g gb : Nat} {cs zs : Array Value} {h : H8} {v : Value} {wr w1 : World} (x : NS w g gb cs zs h v wr) (hb : Below wr.heap.size wr w1) : NS w g gb cs zs h v w1 :=
  ⟨x.rd.below hb x.rd.lt, x.rs.below hb x.rs.lt, x.bx.below hb x.lt, x.fl.below hb, x.low, Nat.lt_of_lt_of_le x.lt hb.size, x.st.trans (Step.of_below hb _), x.old⟩
theorem NS.drew {w : World} {g gb : Nat} {cs zs : Array Value} {h : H8} {v : Value} {wr : World} (x : NS w g gb cs zs h v wr) : NS w g gb cs zs h v wr.drew :=
  ⟨x.rd.drew, x.rs.drew, ⟨x.bx.has.drew⟩, x.fl.drewN 1, x.low, x.lt, x.st.trans (Step.drew _ _), x.old⟩
/-- behind stores: the two boxes alone -/
structure NB (w : World) (g gb : Nat) (cs zs : Array Value) (h : H8) (v : Value) (wr : World) : Prop where
  rd : Has wr g RT cs
  rs : Has wr w.heap.size PT zs
  bx : HBox wr gb h v
  low : w.heap.size + 1 ≤ gb
  st : Step w wr (fun k => k = g) (fun k => k = g)
  old : g < w.heap.size
theorem NS.nb {w : World} {g gb : Nat} {cs zs : Array Value} {h : H8} {v : Value} {wr : World} (x : NS w g gb cs zs h v wr) : NB w g gb cs zs h v wr := ⟨x.rd, x.rs, x.bx, x.low, x.st, x.old⟩
theorem NB.set_ {w : World} {g gb : Nat} {cs zs : Array Value} {h : H8} {v : Value} {wr : World} (x : NB w g gb cs zs h v wr) (i : Nat) (u : Value) : NB w g gb (cs.setIfInBounds i u) zs h v (wr.setCell ⟨g, i, none⟩ u) :=
  ⟨x.rd.set_ i u, x.rs.far (p := ⟨g, i, none⟩) (Nat.ne_of_gt x.old) u, x.bx.far (p := ⟨g, i, none⟩) (by have := x.low; have := x.old; show gb ≠ g; omega) u, x.low, x.st.trans (Step.set_ (F := fun k => k = g) wr rfl i u), x.old⟩
theorem NB.answer {w : World} {g gb : Nat} {cs zs : Array Value} {h : H8} {v : Value} {wr : World} (x : NB w g gb cs zs h v wr) (ps : Array Value) : Has (wr.setRow w.heap.size ps) g RT cs ∧ Has (wr.setRow w.heap.size ps) w.heap.size PT ps ∧ Step w (wr.setRow w.heap.size ps) (fun k => k = g) (fun k => k = g) := by
  refine ⟨far_setRow x.rd (Nat.ne_of_lt x.old) ps, has_setRow x.rs ps, ?_⟩
  have h := x.st
  exact ⟨h.os, h.tape, h.output, by rw [setRow_size]; exact h.size, fun k hk hn => (setRow_other wr w.heap.size k ps (by omega)).trans (h.block k hk hn), fun k hk => .inl hk⟩
theorem pload {w : World} {g : Nat} {ps : Array Value} (h : Has w g PT ps) (hs : ps.size = 8) : (loadVar PT ⟨g, 0, none⟩).run Tryz.prog w = .ok (.agg ps) w :=
  run_loadVar_row w g PT PT _ _ _ h.at_ Tryz.underlying50 rfl (by rw [hs]; kernel_rfl)
/-- what next tells -/
def Tells (w w' : World) (e : Ending) (g : Nat) (ps cs : Array Value) : Prop := e = .returned (.tuple #[.agg ps, .bool true, .int .i64 0]) ∧ Has w' g RT cs ∧ Step w w' (fun k => k = g) (fun k => k = g)
section
variable {m A : ByteArray} {h : H8} {n0 : Nat} {K L : Int} {b : List UInt8}
set_option maxHeartbeats 6400000 in
/-- the head is told -/
theorem next_head (G : Whole12 m A h n0 K L b) {w : World} {g : Nat} {us : Int} (hR : Has w g RT (rcs m A false 0 false us)) :
    Calls Tryz.prog 42 #[.pointer (some ⟨g, 0, none⟩)] w fun e w' => ∃ p cap, Tells w w' e g (pcs 1 h (.slice p h.fields.length cap) ⟨#[]⟩) (rcs m A true 0 false n0) := by
  have hn0 : ((n0 : Int) == 0) = false := by have := G.pos; simp; omega
  obtain ⟨W1, hW1⟩ : ∃ W1, W1 = w.alloc (.cells #[.int .i64 0, .string ⟨#[]⟩, .string ⟨#[]⟩, .int .i64 0, .string ⟨#[]⟩, .int .i64 0, .slice none 0 0, .string ⟨#[]⟩] PT) := ⟨_, rfl⟩
  have hb1 : Below w.heap.size w W1 := by rw [hW1]; exact (Below.refl _ w).alloc (Nat.le_refl _) _
  have hs1 : W1.heap.size = w.heap.size + 1 := by rw [hW1]; simp
  have hz1 : Has W1 w.heap.size PT zp := by rw [hW1]; exact Has.new w PT _
  have HX := Lib.hid (R12Heads.heads_any G (hR.below hb1 hR.lt))
  have HR1 := Lib.hid (hR.below hb1 hR.lt)
  have HB1 := Lib.hid hb1
  have HZ1 := Lib.hid hz1
  have HW1 := Lib.hid hW1
  have HS1 := Lib.hid hs1
  have HO := Lib.hid hR.lt
  clear hb1 hz1 hW1 hs1 hR
  go_enter Tryz.func42, Tryz.ntmps42
  go_wp2_with fail
  rw [← HW1.out]
  clear HW1
  refine HX.out.mono ?_
  rintro e w2 ⟨p, cap, rfl, hf, hb2⟩
  have hal := (Below.refl w2.heap.size w2).alloc (Nat.le_refl _) (.cells (hc h (.slice p h.fields.length cap)) HT)
  have hN : Hid (NS w g w2.heap.size (rcs m A false 0 false us) zp h (.slice p h.fields.length cap) (w2.alloc (.cells (hc h (.slice p h.fields.length cap)) HT))) := Lib.hid
    ⟨(HR1.out.below hb2 HR1.out.lt).alloc _, (HZ1.out.below hb2 HZ1.out.lt).alloc _, ⟨Has.new w2 _ _⟩, hf.below hal, by have := hb2.size; rw [HS1.out] at this; exact this, by simp, (Step.of_below (below_chain (below_chain HB1.out hb2) hal) _), HO.out⟩
  clear hal hf hb2 HX HR1 HZ1 HB1
  unfold hc at hN
  unfold hv
  dsimp only
  iterate 22 go_step
  generalize w2.alloc (.cells #[.string (ofL h.method), .string (ofL h.target), .int .i64 h.status, .string (ofL h.reason), .int .i64 h.minor, .slice p h.fields.length cap] HT) = W2 at hN ⊢
  generalize w2.heap.size = gb at hN ⊢
  have N0 := hN.out.nb
  have N1 := N0.set_ 7 (.int .i64 0)
  have N2 := N1.set_ 3 (.bool true)
  have N3 := N2.set_ 7 (.int .i64 n0)
  obtain ⟨-, -, -, a3, -, -, -, a7⟩ := rd_cells N0.rd
  obtain ⟨b3, -, -, -, b7⟩ := rd_frees N0.rd
  have d3 : (W2.setCell ⟨g, 7, none⟩ (.int .i64 0)).cell? ⟨g, 3, none⟩ = some (.bool false) := N1.rd.cell 3
  obtain ⟨e3, -, -, -, e7⟩ := rd_frees N1.rd
  have d7 : ((W2.setCell ⟨g, 7, none⟩ (.int .i64 0)).setCell ⟨g, 3, none⟩ (.bool true)).cell? ⟨g, 7, none⟩ = some (.int .i64 0) := N2.rd.cell 7
  obtain ⟨-, -, -, -, f7⟩ := rd_frees N2.rd
  obtain ⟨k0, k1, k2, k3, k4, k5⟩ := N3.bx.cells
  have hat := N3.rs.at_
  have HA := Lib.hid (N3.answer (pcs 1 h (.slice p h.fields.length cap) ⟨#[]⟩))
  clear hN N0 N1 N2 N3
  go_wp2_with (refine wpList_store_row rfl PT _ _ rfl w.heap.size (pcs 1 h (.slice p h.fields.length cap) ⟨#[]⟩) rfl rfl PT _ hat (by kernel_rfl) rfl (by simp [pcs, Value.oneCell']) ?_)
  have hld := pload HA.out.2.1 rfl
  refine bodyPost_ret (v := .tuple #[.agg (pcs 1 h (.slice p h.fields.length cap) ⟨#[]⟩), .bool true, .int .i64 0]) ?_ rfl ⟨p, cap, rfl, HA.out.1, HA.out.2.2⟩
  rw [results_cell_tmp2 rfl]
  simp [asAddr, Result.andThen, hld]
set_option maxHeartbeats 6400000 in
/-- the body is told -/
theorem next_data (G : Whole12 m A h n0 K L b) (hb : b ≠ []) {w : World} {g : Nat} {us : Int} (hR : Has w g RT (rcs m A true 0 false us)) :
    Calls Tryz.prog 42 #[.pointer (some ⟨g, 0, none⟩)] w fun e w' => Tells w w' e g (pcs 2 zero8 (.slice none 0 0) (ofL b)) (rcs m A true ((ofL b).size : Int) false ((n0 : Int) + ((ofL b).size : Int))) := by
  have hcut := G.cut
  have hby := G.bytes
  have hsz := G.size
  have z1 : (ofL b).size = b.length := ofL_size b
  have hx0 : (ofL b).extract 0 (ofL b).size = ofL b := by simp
  have hni : (n0 : Int) ≤ (A.size : Int) := by omega
  have hns : (n0 : Int) + ((ofL b).size : Int) ≤ 70368744177664 := by omega
  have hbs : ((ofL b).size : Int) ≤ 70368744177664 := by omega
  have hn0 : (0 : Int) ≤ (n0 : Int) := by omega
  have hpos : (0 : Int) < ((ofL b).size : Int) := by have := List.length_pos_iff.2 hb; omega
  have HRs := Lib.hid (fun v w' hf => R9Resp.r9response_any m h v G.few (Nat.le_trans G.len (by decide)) w' hf)
  rw [G.resp] at HRs
  have HBo := Lib.hid (fun w' => R12Body.body_any G g w')
  rw [← z1] at HBo
  obtain ⟨W1, hW1⟩ : ∃ W1, W1 = w.alloc (.cells #[.int .i64 0, .string ⟨#[]⟩, .string ⟨#[]⟩, .int .i64 0, .string ⟨#[]⟩, .int .i64 0, .slice none 0 0, .string ⟨#[]⟩] PT) := ⟨_, rfl⟩
  have hb1 : Below w.heap.size w W1 := by rw [hW1]; exact (Below.refl _ w).alloc (Nat.le_refl _) _
  have hs1 : W1.heap.size = w.heap.size + 1 := by rw [hW1]; simp
  have hz1 : Has W1 w.heap.size PT zp := by rw [hW1]; exact Has.new w PT _
  have HX := Lib.hid (R12Heads.heads_any G (hR.below hb1 hR.lt))
  have HR1 := Lib.hid (hR.below hb1 hR.lt)
  have HB1 := Lib.hid hb1
  have HZ1 := Lib.hid hz1
  have HW1 := Lib.hid hW1
  have HS1 := Lib.hid hs1
  have HO := Lib.hid hR.lt
  clear hb1 hz1 hW1 hs1 hR hby hsz z1 G
  generalize ofL b = B at *
  go_enter Tryz.func42, Tryz.ntmps42
  go_wp2_with fail
  rw [← HW1.out]
  clear HW1
  refine HX.out.mono ?_
  rintro e w2 ⟨p, cap, rfl, hf, hb2⟩
  have hal := (Below.refl w2.heap.size w2).alloc (Nat.le_refl _) (.cells (hc h (.slice p h.fields.length cap)) HT)
  have hN : Hid (NS w g w2.heap.size (rcs m A true 0 false us) zp h (.slice p h.fields.length cap) (w2.alloc (.cells (hc h (.slice p h.fields.length cap)) HT))) := Lib.hid
    ⟨(HR1.out.below hb2 HR1.out.lt).alloc _, (HZ1.out.below hb2 HZ1.out.lt).alloc _, ⟨Has.new w2 _ _⟩, hf.below hal, by have := hb2.size; rw [HS1.out] at this; exact this, by simp, (Step.of_below (below_chain (below_chain HB1.out hb2) hal) _), HO.out⟩
  clear hal hf hb2 HX HR1 HZ1 HB1
  unfold hc at hN
  unfold hv
  dsimp only
  iterate 22 go_step
  generalize w2.alloc (.cells #[.string (ofL h.method), .string (ofL h.target), .int .i64 h.status, .string (ofL h.reason), .int .i64 h.minor, .slice p h.fields.length cap] HT) = W2 at hN ⊢
  generalize w2.heap.size = gb at hN ⊢
  obtain ⟨-, -, -, a3, -⟩ := rd_cells hN.out.rd
  go_wp2_with fail
  have P1 := hN.out.drew
  have c1 := And.intro (rd_cells P1.rd).1 P1.bx.cells
  have HU := Lib.hid (fun w' hf => HRs.out (.slice p h.fields.length cap) w' hf)
  unfold hv at HU
  clear hN HRs a3
  go_region_held3 (fun w' => w'.cell? ⟨g, 0, none⟩ = some (.string m) ∧ w'.cell? ⟨gb, 0, none⟩ = some (.string (ofL h.method)) ∧ w'.cell? ⟨gb, 1, none⟩ = some (.string (ofL h.target)) ∧ w'.cell? ⟨gb, 2, none⟩ = some (.int .i64 h.status) ∧ w'.cell? ⟨gb, 3, none⟩ = some (.string (ofL h.reason)) ∧ w'.cell? ⟨gb, 4, none⟩ = some (.int .i64 h.minor) ∧ w'.cell? ⟨gb, 5, none⟩ = some (.slice p h.fields.length cap)) (first | exact c2 | exact c1)
    (first
      | (go_at_call 44; refine (HU.out _ P1.fl).mono ?_; rintro e w3 ⟨rfl, hb3⟩; dsimp only [R9Req.trip]
         have P2 := P1.call hb3
         have c2 := And.intro (rd_cells P2.rd).1 P2.bx.cells
         clear hb3 HU))
  have N0 := P2.nb
  have HN0 := Lib.hid N0
  obtain ⟨-, a1, -⟩ := rd_cells N0.rd
  clear P1 P2 c1 c2 N0
  go_wp2_with fail
  refine (HBo.out _).mono ?_
  rintro e w4 ⟨rfl, rfl⟩
  clear HBo a1
  have N0 := HN0.out
  have N1 := N0.set_ 7 (.int .i64 ((n0 : Int) + (B.size : Int)))
  obtain ⟨-, -, -, -, a4, a5, -, a7⟩ := rd_cells N0.rd
  obtain ⟨b3, b4, b5, -, b7⟩ := rd_frees N0.rd
  obtain ⟨e3, e4, e5, -, e7⟩ := rd_frees N1.rd
  have d4 : (w4.setCell ⟨g, 7, none⟩ (.int .i64 ((n0 : Int) + (B.size : Int)))).cell? ⟨g, 4, none⟩ = some (.int .i64 0) := N1.rd.cell 4
  have N2 := N1.set_ 4 (.int .i64 (B.size : Int))
  have hat := N2.rs.at_
  have HA := Lib.hid (N2.answer (pcs 2 zero8 (.slice none 0 0) B))
  clear N0 N1 N2 HN0 hb
  go_wp2_with (refine wpList_store_row rfl PT _ _ rfl w.heap.size (pcs 2 zero8 (.slice none 0 0) B) rfl rfl PT _ hat (by kernel_rfl) rfl (by simp [pcs, Value.oneCell']) ?_)
  have hld := pload HA.out.2.1 rfl
  refine bodyPost_ret (v := .tuple #[.agg (pcs 2 zero8 (.slice none 0 0) B), .bool true, .int .i64 0]) ?_ rfl ⟨rfl, HA.out.1, HA.out.2.2⟩
  rw [results_cell_tmp2 rfl]
  simp [asAddr, Result.andThen, hld]
set_option maxHeartbeats 6400000 in
/-- the end is told -/
theorem next_end (G : Whole12 m A h n0 K L b) {w : World} {g : Nat} {us : Int} (hR : Has w g RT (rcs m A true ((ofL b).size : Int) false us)) :
    Calls Tryz.prog 42 #[.pointer (some ⟨g, 0, none⟩)] w fun e w' => Tells w w' e g (pcs 3 zero8 (.slice none 0 0) ⟨#[]⟩) (rcs m A true ((ofL b).size : Int) true ((n0 : Int) + ((ofL b).size : Int))) := by
  have hcut := G.cut
  have hby := G.bytes
  have hsz := G.size
  have z1 : (ofL b).size = b.length := ofL_size b
  have hx0 : (ofL b).extract 0 (ofL b).size = ofL b := by simp
  have hni : (n0 : Int) ≤ (A.size : Int) := by omega
  have hns : (n0 : Int) + ((ofL b).size : Int) ≤ 70368744177664 := by omega
  have hbs : ((ofL b).size : Int) ≤ 70368744177664 := by omega
  have hn0 : (0 : Int) ≤ (n0 : Int) := by omega
  have HRs := Lib.hid (fun v w' hf => R9Resp.r9response_any m h v G.few (Nat.le_trans G.len (by decide)) w' hf)
  rw [G.resp] at HRs
  have HBo := Lib.hid (fun w' => R12Body.body_any G g w')
  rw [← z1] at HBo
  obtain ⟨W1, hW1⟩ : ∃ W1, W1 = w.alloc (.cells #[.int .i64 0, .string ⟨#[]⟩, .string ⟨#[]⟩, .int .i64 0, .string ⟨#[]⟩, .int .i64 0, .slice none 0 0, .string ⟨#[]⟩] PT) := ⟨_, rfl⟩
  have hb1 : Below w.heap.size w W1 := by rw [hW1]; exact (Below.refl _ w).alloc (Nat.le_refl _) _
  have hs1 : W1.heap.size = w.heap.size + 1 := by rw [hW1]; simp
  have hz1 : Has W1 w.heap.size PT zp := by rw [hW1]; exact Has.new w PT _
  have HX := Lib.hid (R12Heads.heads_any G (hR.below hb1 hR.lt))
  have HR1 := Lib.hid (hR.below hb1 hR.lt)
  have HB1 := Lib.hid hb1
  have HZ1 := Lib.hid hz1
  have HW1 := Lib.hid hW1
  have HS1 := Lib.hid hs1
  have HO := Lib.hid hR.lt
  clear hb1 hz1 hW1 hs1 hR hby hsz z1 G
  generalize ofL b = B at *
  go_enter Tryz.func42, Tryz.ntmps42
  go_wp2_with fail
  rw [← HW1.out]
  clear HW1
  refine HX.out.mono ?_
  rintro e w2 ⟨p, cap, rfl, hf, hb2⟩
  have hal := (Below.refl w2.heap.size w2).alloc (Nat.le_refl _) (.cells (hc h (.slice p h.fields.length cap)) HT)
  have hN : Hid (NS w g w2.heap.size (rcs m A true (B.size : Int) false us) zp h (.slice p h.fields.length cap) (w2.alloc (.cells (hc h (.slice p h.fields.length cap)) HT))) := Lib.hid
    ⟨(HR1.out.below hb2 HR1.out.lt).alloc _, (HZ1.out.below hb2 HZ1.out.lt).alloc _, ⟨Has.new w2 _ _⟩, hf.below hal, by have := hb2.size; rw [HS1.out] at this; exact this, by simp, (Step.of_below (below_chain (below_chain HB1.out hb2) hal) _), HO.out⟩
  clear hal hf hb2 HX HR1 HZ1 HB1
  unfold hc at hN
  unfold hv
  dsimp only
  iterate 22 go_step
  generalize w2.alloc (.cells #[.string (ofL h.method), .string (ofL h.target), .int .i64 h.status, .string (ofL h.reason), .int .i64 h.minor, .slice p h.fields.length cap] HT) = W2 at hN ⊢
  generalize w2.heap.size = gb at hN ⊢
  obtain ⟨-, -, -, a3, -⟩ := rd_cells hN.out.rd
  go_wp2_with fail
  have P1 := hN.out.drew
  have c1 := And.intro (rd_cells P1.rd).1 P1.bx.cells
  have HU := Lib.hid (fun w' hf => HRs.out (.slice p h.fields.length cap) w' hf)
  unfold hv at HU
  clear hN HRs a3
  go_region_held3 (fun w' => w'.cell? ⟨g, 0, none⟩ = some (.string m) ∧ w'.cell? ⟨gb, 0, none⟩ = some (.string (ofL h.method)) ∧ w'.cell? ⟨gb, 1, none⟩ = some (.string (ofL h.target)) ∧ w'.cell? ⟨gb, 2, none⟩ = some (.int .i64 h.status) ∧ w'.cell? ⟨gb, 3, none⟩ = some (.string (ofL h.reason)) ∧ w'.cell? ⟨gb, 4, none⟩ = some (.int .i64 h.minor) ∧ w'.cell? ⟨gb, 5, none⟩ = some (.slice p h.fields.length cap)) (first | exact c2 | exact c1)
    (first
      | (go_at_call 44; refine (HU.out _ P1.fl).mono ?_; rintro e w3 ⟨rfl, hb3⟩; dsimp only [R9Req.trip]
         have P2 := P1.call hb3
         have c2 := And.intro (rd_cells P2.rd).1 P2.bx.cells
         clear hb3 HU))
  have N0 := P2.nb
  have HN0 := Lib.hid N0
  obtain ⟨-, a1, -⟩ := rd_cells N0.rd
  clear P1 P2 c1 c2 N0
  go_wp2_with fail
  refine (HBo.out _).mono ?_
  rintro e w4 ⟨rfl, rfl⟩
  clear HBo a1
  have N0 := HN0.out
  have N1 := N0.set_ 7 (.int .i64 ((n0 : Int) + (B.size : Int)))
  obtain ⟨-, -, -, -, a4, a5, -, a7⟩ := rd_cells N0.rd
  obtain ⟨b3, b4, b5, -, b7⟩ := rd_frees N0.rd
  obtain ⟨e3, e4, e5, -, e7⟩ := rd_frees N1.rd
  have d4 : (w4.setCell ⟨g, 7, none⟩ (.int .i64 ((n0 : Int) + (B.size : Int)))).cell? ⟨g, 4, none⟩ = some (.int .i64 (B.size : Int)) := N1.rd.cell 4
  have d5 : (w4.setCell ⟨g, 7, none⟩ (.int .i64 ((n0 : Int) + (B.size : Int)))).cell? ⟨g, 5, none⟩ = some (.bool false) := N1.rd.cell 5
  have N2 := N1.set_ 5 (.bool true)
  have hat := N2.rs.at_
  have HA := Lib.hid (N2.answer (pcs 3 zero8 (.slice none 0 0) ⟨#[]⟩))
  clear N0 N1 N2 HN0
  go_wp2_with (refine wpList_store_row rfl PT _ _ rfl w.heap.size (pcs 3 zero8 (.slice none 0 0) ⟨#[]⟩) rfl rfl PT _ hat (by kernel_rfl) rfl (by simp [pcs, Value.oneCell']) ?_)
  have hld := pload HA.out.2.1 rfl
  refine bodyPost_ret (v := .tuple #[.agg (pcs 3 zero8 (.slice none 0 0) ⟨#[]⟩), .bool true, .int .i64 0]) ?_ rfl ⟨rfl, HA.out.1, HA.out.2.2⟩
  rw [results_cell_tmp2 rfl]
  simp [asAddr, Result.andThen, hld]
end
end Go.Proofs.YtblpooddamkfdaaGreatDoor.R12Next

/- The document's layer 12, where the whole of a good response has come: Next, Left, Reusable. -/
namespace Go.Proofs.YtblpooddamkfdaaGreatDoor.R12Use
open Go.ChangeShapes Go.WideShapes Go.ChangeAt Go.RowKit Bytes LexPure FieldsPure HeadPure FramePure Flds HBox Mem Step KeptRow R12Box R12Next
set_option maxRecDepth 100000
set_option linter.unusedVariables false
set_option linter.unusedSimpArgs false
/-- the reader beside the head's box -/
structure Tri (w : World) (g gb : Nat) (cs : Array Value) (h : H8) (v : Value) (wr : World) : Prop where
  rd : Has wr g RT cs
  bx : HBox wr gb h v
  fl : FL wr v h.fields
  lt : gb < wr.heap.size
  below : Below w.heap.size w wr
theorem Tri.call {w : World} {g gb : Nat} {cs : Array Value} {h : H8} {v : Value} {wr w1 : World} (x : Tri w g gb cs h v wr) (hb : Below wr.heap.size wr w1) : Tri w g gb cs h v w1 :=
  ⟨x.rd.below hb x.rd.lt, x.bx.below hb x.lt, x.fl.below hb, Nat.lt_of_lt_of_le x.lt hb.size, below_chain x.below hb⟩
theorem Tri.drew {w : World} {g gb : Nat} {cs : Array Value} {h : H8} {v : Value} {wr : World} (x : Tri w g gb cs h v wr) : Tri w g gb cs h v wr.drew :=
  ⟨x.rd.drew, ⟨x.bx.has.drew⟩, x.fl.drewN 1, x.lt, ⟨x.below.os, x.below.tape, x.below.output, x.below.size, x.below.block⟩⟩
section
variable {m A : ByteArray}
set_option maxHeartbeats 6400000 in
theorem next_of {w : World} {g : Nat} {hd : Bool} {told us : Int} {hd2 : Bool} {told2 us2 : Int} {dn2 : Bool} (hR : Has w g RT (rcs m A hd told false us)) (k : Int) (h0 : H8) (d : ByteArray)
    (hcall : ∀ W, Has W g RT (rcs m A hd told false us) → Calls Tryz.prog 42 #[.pointer (some ⟨g, 0, none⟩)] W fun e w' => ∃ p n cap, Tells W w' e g (pcs k h0 (.slice p n cap) d) (rcs m A hd2 told2 dn2 us2)) :
    Calls Tryz.prog 16 #[.pointer (some ⟨g, 0, none⟩)] w fun e w' => ∃ p n cap, Tells w w' e g (pcs k h0 (.slice p n cap) d) (rcs m A hd2 told2 dn2 us2) := by
  obtain ⟨W1, hW1⟩ : ∃ W1, W1 = w.alloc (.cells #[.int .i64 0, .string ⟨#[]⟩, .string ⟨#[]⟩, .int .i64 0, .string ⟨#[]⟩, .int .i64 0, .slice none 0 0, .string ⟨#[]⟩] PT) := ⟨_, rfl⟩
  have hb1 : Below w.heap.size w W1 := by rw [hW1]; exact (Below.refl _ w).alloc (Nat.le_refl _) _
  have hs1 : W1.heap.size = w.heap.size + 1 := by rw [hW1]; simp
  have hz1 : Has W1 w.heap.size PT zp := by rw [hW1]; exact Has.new w PT _
  have hr1 := hR.below hb1 hR.lt
  have HX := Lib.hid (hcall W1 hr1)
  obtain ⟨-, -, -, -, -, a5, a6, -⟩ := rd_cells hr1
  have HB1 := Lib.hid hb1
  have HZ1 := Lib.hid hz1
  have HW1 := Lib.hid hW1
  have HS1 := Lib.hid hs1
  have HO := Lib.hid hR.lt
  rw [hW1] at a5 a6
  clear hb1 hz1 hW1 hs1 hR hr1 hcall
  go_enter Tryz.func16, Tryz.ntmps16
  go_wp2_with fail
  rw [← HW1.out]
  clear HW1 a5 a6
  refine HX.out.mono ?_
  rintro e w2 ⟨p, n, cap, rfl, hr2, hs2⟩
  have hz2 := hs2.has HZ1.out (by have := HO.out; omega)
  have hN : Hid (Has (w2.alloc (.cells (pcs k h0 (.slice p n cap) d) PT)) g RT (rcs m A hd2 told2 dn2 us2) ∧ Has (w2.alloc (.cells (pcs k h0 (.slice p n cap) d) PT)) w.heap.size PT zp ∧ Has (w2.alloc (.cells (pcs k h0 (.slice p n cap) d) PT)) w2.heap.size PT (pcs k h0 (.slice p n cap) d) ∧ w.heap.size + 1 ≤ w2.heap.size ∧ Step w (w2.alloc (.cells (pcs k h0 (.slice p n cap) d) PT)) (fun k => k = g) (fun k => k = g)) := Lib.hid
    ⟨hr2.alloc _, hz2.alloc _, Has.new w2 _ _, by have := hs2.size; rw [HS1.out] at this; exact this, ((Step.of_below HB1.out _).trans hs2).trans (Step.alloc _ _ _)⟩
  clear hr2 hs2 hz2 HX HZ1 HB1 HS1
  unfold pcs at hN ⊢
  dsimp only
  iterate 19 go_step
  generalize w2.alloc (.cells #[.int .i64 k, .string (ofL h0.method), .string (ofL h0.target), .int .i64 h0.status, .string (ofL h0.reason), .int .i64 h0.minor, .slice p n cap, .string d] PT) = W2 at hN ⊢
  generalize w2.heap.size = gp at hN ⊢
  have HN := Lib.hid hN.out
  obtain ⟨q1, q2, q3, q4, q5⟩ := hN.out
  have ho := HO.out
  obtain ⟨-, -, -, -, -, -, a6, -⟩ := rd_cells q1
  obtain ⟨-, -, -, b6, -⟩ := rd_frees q1
  have r3 := q3.far (p := ⟨g, 6, none⟩) (by show gp ≠ g; omega) (.int .i64 0)
  have r2 := q2.far (p := ⟨g, 6, none⟩) (by show w.heap.size ≠ g; omega) (.int .i64 0)
  have r1 : Has (W2.setCell ⟨g, 6, none⟩ (.int .i64 0)) g RT (rcs m A hd2 told2 dn2 us2) := q1.set_ 6 (.int .i64 0)
  have rs := q5.trans (Step.set_ (F := fun k => k = g) W2 rfl 6 (.int .i64 0))
  have k0 : (W2.setCell ⟨g, 6, none⟩ (.int .i64 0)).cell? ⟨gp, 0, none⟩ = some (.int .i64 k) := r3.cell 0
  have k1 : (W2.setCell ⟨g, 6, none⟩ (.int .i64 0)).cell? ⟨gp, 1, none⟩ = some (.string (ofL h0.method)) := r3.cell 1
  have k2 : (W2.setCell ⟨g, 6, none⟩ (.int .i64 0)).cell? ⟨gp, 2, none⟩ = some (.string (ofL h0.target)) := r3.cell 2
  have k3 : (W2.setCell ⟨g, 6, none⟩ (.int .i64 0)).cell? ⟨gp, 3, none⟩ = some (.int .i64 h0.status) := r3.cell 3
  have k4 : (W2.setCell ⟨g, 6, none⟩ (.int .i64 0)).cell? ⟨gp, 4, none⟩ = some (.string (ofL h0.reason)) := r3.cell 4
  have k5 : (W2.setCell ⟨g, 6, none⟩ (.int .i64 0)).cell? ⟨gp, 5, none⟩ = some (.int .i64 h0.minor) := r3.cell 5
  have k6 : (W2.setCell ⟨g, 6, none⟩ (.int .i64 0)).cell? ⟨gp, 6, none⟩ = some (.slice p n cap) := r3.cell 6
  have k7 : (W2.setCell ⟨g, 6, none⟩ (.int .i64 0)).cell? ⟨gp, 7, none⟩ = some (.string d) := r3.cell 7
  have hat := r2.at_
  have NBx : Has ((W2.setCell ⟨g, 6, none⟩ (.int .i64 0)).setRow w.heap.size (pcs k h0 (.slice p n cap) d)) g RT (rcs m A hd2 told2 dn2 us2) ∧ Has ((W2.setCell ⟨g, 6, none⟩ (.int .i64 0)).setRow w.heap.size (pcs k h0 (.slice p n cap) d)) w.heap.size PT (pcs k h0 (.slice p n cap) d) ∧ Step w ((W2.setCell ⟨g, 6, none⟩ (.int .i64 0)).setRow w.heap.size (pcs k h0 (.slice p n cap) d)) (fun k => k = g) (fun k => k = g) :=
    ⟨far_setRow r1 (Nat.ne_of_lt ho) _, has_setRow r2 _, ⟨rs.os, rs.tape, rs.output, by rw [setRow_size]; exact rs.size, fun k hk hn => (setRow_other _ w.heap.size k _ (by omega)).trans (rs.block k hk hn), fun k hk => .inl hk⟩⟩
  have HA := Lib.hid NBx
  clear hN q1 q2 q3 q4 q5 r1 r2 r3 rs NBx HN ho
  go_wp2_with (refine wpList_store_row rfl PT _ _ rfl w.heap.size (pcs k h0 (.slice p n cap) d) rfl rfl PT _ hat (by kernel_rfl) rfl (by simp [pcs, Value.oneCell']) ?_)
  have hld := pload HA.out.2.1 rfl
  refine bodyPost_ret (v := .tuple #[.agg (pcs k h0 (.slice p n cap) d), .bool true, .int .i64 0]) ?_ rfl ⟨p, n, cap, rfl, HA.out.1, HA.out.2.2⟩
  rw [results_cell_tmp2 rfl]
  simp [asAddr, Result.andThen, hld]
set_option maxHeartbeats 6400000 in
/-- behind the end nothing more is told -/
theorem next_done {w : World} {g : Nat} {hd : Bool} {told us : Int} (hR : Has w g RT (rcs m A hd told true us)) :
    Calls Tryz.prog 16 #[.pointer (some ⟨g, 0, none⟩)] w fun e w' => e = .returned (.tuple #[.agg zp, .bool false, .int .i64 0]) ∧ Below w.heap.size w w' := by
  have hb1 : Below w.heap.size w (w.alloc (.cells #[.int .i64 0, .string ⟨#[]⟩, .string ⟨#[]⟩, .int .i64 0, .string ⟨#[]⟩, .int .i64 0, .slice none 0 0, .string ⟨#[]⟩] PT)) := (Below.refl _ w).alloc (Nat.le_refl _) _
  have hr1 := hR.below hb1 hR.lt
  obtain ⟨-, -, -, -, -, a5, a6, -⟩ := rd_cells hr1
  have hr2 := hr1.drew
  obtain ⟨-, -, -, -, -, c5, c6, -⟩ := rd_cells hr2
  have HB : Hid (Below w.heap.size w ((w.alloc (.cells #[.int .i64 0, .string ⟨#[]⟩, .string ⟨#[]⟩, .int .i64 0, .string ⟨#[]⟩, .int .i64 0, .slice none 0 0, .string ⟨#[]⟩] PT)).drew)) := Lib.hid ⟨hb1.os, hb1.tape, hb1.output, hb1.size, hb1.block⟩
  clear hb1 hR hr1 hr2
  go_enter Tryz.func16, Tryz.ntmps16
  go_wp2_with fail
  go_region
  all_goals
    go_wp2_with fail
    have hld : (loadVar PT ⟨w.heap.size, 0, none⟩).run Tryz.prog ((w.alloc (.cells zp PT)).drew) = .ok (.agg zp) ((w.alloc (.cells zp PT)).drew) := pload (Has.new w PT zp).drew rfl
    unfold zp at hld
    refine bodyPost_ret (v := .tuple #[.agg zp, .bool false, .int .i64 0]) ?_ rfl ⟨rfl, HB.out⟩
    rw [results_cell_tmp2 rfl]
    simp [asAddr, Result.andThen, hld, zp]
/-- nothing is left -/
theorem left_any {w : World} {g : Nat} {hd dn : Bool} {told : Int} (hA : A.size ≤ 70368744177664) (hR : Has w g RT (rcs m A hd told dn (A.size : Int))) :
    Calls Tryz.prog 17 #[.pointer (some ⟨g, 0, none⟩)] w fun e w' => e = .returned (.string ⟨#[]⟩) ∧ Below w.heap.size w w' := by
  obtain ⟨-, a1, -, -, -, -, -, a7⟩ := rd_cells hR
  have hr2 := hR.drew
  obtain ⟨-, c1, -, -, -, -, -, c7⟩ := rd_cells hr2
  have hz : (A.size : Int) ≤ 70368744177664 := by omega
  have hx : A.extract A.size A.size = ⟨#[]⟩ := by
    apply ByteArray.ext
    simp
  clear hR hr2 hA
  go_enter Tryz.func17, Tryz.ntmps17
  go_wp2_with fail
  go_region
  all_goals
    go_wp2_with fail
    go_ret
    exact ⟨rfl, ⟨rfl, rfl, rfl, Nat.le_refl _, fun _ _ => rfl⟩⟩
set_option maxHeartbeats 6400000 in
/-- it is reusable just if it is kept -/
theorem reusable_any {h : H8} {n0 : Nat} {K L : Int} {b : List UInt8} (G : Whole12 m A h n0 K L b) {w : World} {g : Nat} {hd : Bool} {told : Int} (hR : Has w g RT (rcs m A hd told true (A.size : Int))) :
    Calls Tryz.prog 18 #[.pointer (some ⟨g, 0, none⟩)] w fun e w' => e = .returned (.bool (keep9 h.minor h.fields)) ∧ Below w.heap.size w w' := by
  have hz : (A.size : Int) ≤ 70368744177664 := by have := G.size; omega
  have hK : K ≤ 3 := by rcases G.kind with ⟨rfl, _⟩ | ⟨rfl, _⟩ <;> decide
  have HRs := Lib.hid (fun v w' hf => R9Resp.r9response_any m h v G.few (Nat.le_trans G.len (by decide)) w' hf)
  rw [G.resp] at HRs
  have HKp := Lib.hid (fun v w' hf => R9Keep.r9keep_any h v G.few (Nat.le_trans G.len (by decide)) w' hf)
  obtain ⟨-, a1, a2, -, -, a5, -, a7⟩ := rd_cells hR
  have hr2 := hR.drew
  obtain ⟨-, c1, c2, -, -, c5, -, c7⟩ := rd_cells hr2
  have HX := Lib.hid (R12Heads.heads_any G hr2)
  have HO := Lib.hid hR.lt
  have HR2 := Lib.hid hr2
  clear hR hr2
  go_enter Tryz.func18, Tryz.ntmps18
  go_wp2_with fail
  go_region
  all_goals
    clear a1 a2 a5 a7 c1 c2 c5 c7
    go_wp2_with fail
    refine HX.out.mono ?_
    rintro e w2 ⟨p, cap, rfl, hf, hb2⟩
    have hal := (Below.refl w2.heap.size w2).alloc (Nat.le_refl _) (.cells (hc h (.slice p h.fields.length cap)) HT)
    have hw0 : Below w.heap.size w w2 := ⟨hb2.os, hb2.tape, hb2.output, hb2.size, hb2.block⟩
    have hN : Hid (Tri w g w2.heap.size (rcs m A hd told true (A.size : Int)) h (.slice p h.fields.length cap) (w2.alloc (.cells (hc h (.slice p h.fields.length cap)) HT))) := Lib.hid
      ⟨(HR2.out.below hb2 HR2.out.lt).alloc _, ⟨Has.new w2 _ _⟩, hf.below hal, by simp, below_chain hw0 hal⟩
    clear hal hf hb2 HX HR2 hw0
    unfold hc at hN
    unfold hv
    dsimp only
    iterate 22 go_step
    generalize w2.alloc (.cells #[.string (ofL h.method), .string (ofL h.target), .int .i64 h.status, .string (ofL h.reason), .int .i64 h.minor, .slice p h.fields.length cap] HT) = W2 at hN ⊢
    generalize w2.heap.size = gb at hN ⊢
    have P1 := hN.out.drew
    have c1 := And.intro (rd_cells P1.rd).1 P1.bx.cells
    have HU := Lib.hid (fun w' hf => HRs.out (.slice p h.fields.length cap) w' hf)
    have HV := Lib.hid (fun w' hf => HKp.out (.slice p h.fields.length cap) w' hf)
    unfold hv at HU HV
    clear hN HRs HKp
    go_wp2_with fail
    go_region_held3 (fun w' => w'.cell? ⟨g, 0, none⟩ = some (.string m) ∧ w'.cell? ⟨gb, 0, none⟩ = some (.string (ofL h.method)) ∧ w'.cell? ⟨gb, 1, none⟩ = some (.string (ofL h.target)) ∧ w'.cell? ⟨gb, 2, none⟩ = some (.int .i64 h.status) ∧ w'.cell? ⟨gb, 3, none⟩ = some (.string (ofL h.reason)) ∧ w'.cell? ⟨gb, 4, none⟩ = some (.int .i64 h.minor) ∧ w'.cell? ⟨gb, 5, none⟩ = some (.slice p h.fields.length cap)) (first | exact c2 | exact c1)
      (first
        | (go_at_call 44; refine (HU.out _ P1.fl).mono ?_; rintro e w3 ⟨rfl, hb3⟩; dsimp only [R9Req.trip]
           have P2 := P1.call hb3
           have c2 := And.intro (rd_cells P2.rd).1 P2.bx.cells
           clear hb3 HU))
    obtain ⟨-, k0, k1, k2, k3, k4, k5⟩ := c2
    have HV2 := Lib.hid (HV.out _ P2.fl)
    have HP := Lib.hid P2.below
    clear P1 P2 c1 HV
    go_wp2_with fail
    refine HV2.out.mono ?_
    rintro e w4 ⟨rfl, hb4⟩
    have HE := Lib.hid (below_chain HP.out hb4)
    clear hb4 HV2 HP k0 k1 k2 k3 k4 k5
    go_wp2_with fail
    go_ret
    exact ⟨rfl, HE.out⟩
end
end Go.Proofs.YtblpooddamkfdaaGreatDoor.R12Use
