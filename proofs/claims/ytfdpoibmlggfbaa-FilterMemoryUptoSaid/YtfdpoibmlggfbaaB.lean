/- Texts of this seat, one behind another: L16Anchor. -/

import Derived.Test.YtfdpoibmlggfbaaA4
import Derived.Test.YtfdpoibmlggfbaaA2
import Derived.Test.YtfdpoibmlggfbaaA1
/- Layer 16's laws: the document's example. -/
namespace Go.Proofs.Ytfdpoibmlggfbaa.L16Anchor
open Go.ChangeShapes Go.WideShapes Go.ChangeAt Go.RowKit Bytes LexPure ConfPure ConfMem FieldsPure Flds FilterPure FiltState FiltKeep FiltObj Ret Mem Step
set_option maxRecDepth 100000
set_option linter.unusedVariables false
set_option linter.unusedSimpArgs false
def AF : List Filt := [⟨4, [88, 45, 75], [115], 0, 0, 0⟩, ⟨1, [88, 45, 65], [49], 0, 0, 0⟩, ⟨8, [83, 101, 114, 118, 101, 114], [98], 0, 0, 0⟩]
def GET : L := [71, 69, 84]
theorem af_right : ∀ f ∈ AF, filtB f = true := by decide +kernel
theorem a1 (dv dn : Int → Int) (d : Int) : req16 dv dn (start16 AF d) 0 GET 0 [([120, 45, 107], [115])] = (⟨false, 0, [], [], [([88, 45, 65], [49])]⟩, 0) := by rfl
theorem a2 (dv dn : Int → Int) (d : Int) : req16 dv dn (nxt16 dv dn (start16 AF d) 0 GET 0 [([120, 45, 107], [115])]) 0 GET 0 [] = (say16 401 [(WWW, TOKENW)] NOENTRY, 0) := by rfl
theorem a3 (dv dn : Int → Int) (d : Int) : resp16 (nxt16 dv dn (nxt16 dv dn (start16 AF d) 0 GET 0 [([120, 45, 107], [115])]) 0 GET 0 []).fs [] = [([83, 101, 114, 118, 101, 114], [98])] := by rfl
/-- a chain that a law holds -/
structure Lc (w : World) (F : Nat → Prop) (g : Nat) (s : Cn) (W : World) : Prop where
  ch : Ch W F g s
  lo : ∀ k, F k → w.heap.size ≤ k
  below : Below w.heap.size w W
section
variable {w W W' : World} {F F' : Nat → Prop} {g : Nat} {s s' : Cn}
theorem Lc.call (x : Lc w F g s W) (hb : Below W.heap.size W W') : Lc w F g s W' := ⟨x.ch.step (Step.of_below hb (fun _ => False)) (fun _ _ h => h), x.lo, below_chain x.below hb⟩
theorem Lc.turn (x : Lc w F g s W) (hch : Ch W' F' g s') (hs : Step W W' F F') : Lc w F' g s' W' :=
  ⟨hch, fun k hk => (hs.grow k hk).elim (x.lo k) (fun h => Nat.le_trans x.below.size h.1), x.below.trans (hs.below x.below.size x.lo)⟩
end
theorem lst_at {W : World} {base : Nat} {v : Value} {f : HField} {G : List HField} (h : Lst W base v (f :: G)) : ∃ b cap, v = .slice (some ⟨b, 0, none⟩) (G.length + 1) cap ∧ W.cell? ⟨b, 0, none⟩ = some (.string (ofL f.1)) ∧ W.cell? ⟨b, 1, none⟩ = some (.string (ofL f.2)) := by
  obtain ⟨b, cap, hv, _, _, _, hc⟩ := RowKeep.row_at h (Nat.succ_pos _)
  refine ⟨b, cap, hv, ?_, ?_⟩
  · rw [hc 0 (by simp)]; rfl
  · rw [hc 1 (by simp; omega)]; rfl
theorem filts_new (w : World) : Filts (w.alloc (.cells #[.int .i64 4, .string ⟨#[88, 45, 75]⟩, .string ⟨#[115]⟩, .int .i64 0, .int .i64 0, .int .i64 0, .int .i64 1, .string ⟨#[88, 45, 65]⟩, .string ⟨#[49]⟩, .int .i64 0, .int .i64 0, .int .i64 0, .int .i64 8, .string ⟨#[83, 101, 114, 118, 101, 114]⟩, .string ⟨#[98]⟩, .int .i64 0, .int .i64 0, .int .i64 0] 29)) (.slice (some ⟨w.heap.size, 0, none⟩) 3 3) AF := by
  refine ⟨_, _, rfl, by decide, fun _ => ⟨w.heap.size, 0, rfl, by simp, fun i hi j hj => ?_⟩⟩
  rw [(Has.new w _ _).cell]
  have hi2 : i = 0 ∨ i = 1 ∨ i = 2 := by have : i < 3 := hi; omega
  have hj2 : j = 0 ∨ j = 1 ∨ j = 2 ∨ j = 3 ∨ j = 4 ∨ j = 5 := by omega
  rcases hi2 with rfl | rfl | rfl <;> rcases hj2 with rfl | rfl | rfl | rfl | rfl | rfl <;> rfl
theorem fl_one (w : World) : FL (w.alloc (.cells #[.string ⟨#[120, 45, 107]⟩, .string ⟨#[115]⟩] 54)) (.slice (some ⟨w.heap.size, 0, none⟩) 1 1) [([120, 45, 107], [115])] :=
  ⟨_, _, rfl, by decide, fun _ => ⟨w.heap.size, 0, rfl, by simp, fun j hj => by
    obtain rfl : j = 0 := by have : j < 1 := hj; omega
    rw [(Has.new w _ _).cell, (Has.new w _ _).cell]
    exact ⟨rfl, rfl⟩⟩⟩
theorem fl_nil (w : World) : FL w (.slice none 0 0) [] := ⟨none, 0, rfl, Nat.zero_le _, fun h => absurd h (by simp)⟩
theorem few_nil : FewM [] := fun f h => by cases h
set_option maxHeartbeats 6400000 in
theorem anchor_any (w : World) : Calls Try.prog 9 #[] w fun e w' => e = .returned (.bool true) ∧ Below w.heap.size w w' := by
  have HN := Lib.hid (pnew16 AF af_right (by decide) 1 ⟨by decide, by decide⟩ _ _ (filts_new w))
  have HA1 := Lib.hid (a1 dv16 dn16 (seed16 1))
  have HA2 := Lib.hid (a2 dv16 dn16 (seed16 1))
  have HA3 := Lib.hid (a3 dv16 dn16 (seed16 1))
  have HR1 := Lib.hid (fun F g N W h hF => preq16 F g (start16 AF (seed16 1)) 0 ⟨by decide, by decide⟩ ⟨#[71, 69, 84]⟩ (by decide) 0 ⟨by decide, by decide⟩ (.slice (some ⟨N, 0, none⟩) 1 1) [([120, 45, 107], [115])] (fun f hf => by obtain rfl := List.mem_singleton.1 hf; exact ⟨by decide, by decide⟩) (by show 1 + 3 ≤ 16777216; decide) W h hF)
  go_enter Try.func9, Try.ntmps9
  go_wp2_with fail
  refine HN.out.mono ?_
  rintro e w2 ⟨⟨g, F, rfl, hch, hlo⟩, hb2⟩
  have L0 := Lib.hid (show Lc w F g (start16 AF (seed16 1)) w2 from ⟨hch, fun k hk => Nat.le_trans (by simp) (hlo k hk), below_chain ((Below.refl w.heap.size w).alloc (Nat.le_refl _) _) hb2⟩)
  have L1 := Lib.hid (L0.out.call ((Below.refl w2.heap.size w2).alloc (Nat.le_refl _) (.cells #[.string ⟨#[120, 45, 107]⟩, .string ⟨#[115]⟩] 54)))
  have HF1 := Lib.hid (fl_one w2)
  clear hch hlo hb2 L0 HN
  obtain ⟨s1, hs1⟩ : ∃ s1, Hid (s1 = start16 AF (seed16 1)) := ⟨_, Lib.hid rfl⟩
  rw [← hs1.out] at HA1 HA2 HA3 HR1 L1
  go_wp2_with fail
  refine (HR1.out F g _ _ L1.out.ch HF1.out).mono ?_
  rintro e w3 ⟨fl, pl, F2, rfl, hfl, hpl, -, hnf, hch, hst⟩
  obtain ⟨s2, hs2⟩ : ∃ s2, Hid (s2 = nxt16 dv16 dn16 s1 0 (toL ⟨#[71, 69, 84]⟩) 0 [([120, 45, 107], [115])]) := ⟨_, Lib.hid rfl⟩
  rw [← hs2.out] at hch
  replace HA2 : Hid (req16 dv16 dn16 s2 0 GET 0 [] = (say16 401 [(WWW, TOKENW)] NOENTRY, 0)) := Lib.hid (by rw [hs2.out]; exact HA2.out)
  replace HA3 : Hid (resp16 (nxt16 dv16 dn16 s2 0 GET 0 []).fs [] = [([83, 101, 114, 118, 101, 114], [98])]) := Lib.hid (by rw [hs2.out]; exact HA3.out)
  replace HA1 : Hid (req16 dv16 dn16 s1 0 (toL ⟨#[71, 69, 84]⟩) 0 [([120, 45, 107], [115])] = (⟨false, 0, [], [], [([88, 45, 65], [49])]⟩, 0)) := HA1
  have HLen : Hid (s2.fs.length = 3) := Lib.hid (by rw [hs2.out, hs1.out]; rfl)
  rw [HA1.out] at hfl hpl ⊢
  have L3 := Lib.hid (L1.out.turn hch hst)
  obtain ⟨pf, cf, rfl, -⟩ := RowKeep.row_form hfl
  obtain ⟨bp, cp, rfl, x0, x1⟩ := lst_at hpl
  have hbp := hnf bp (.inr rfl)
  have HNF := Lib.hid hbp
  have HP := Lib.hid hpl
  clear L1 HF1 HR1 hs1 hs2 hfl hnf hst HA1 hbp
  dsimp only [vrdA, List.length_nil, Nat.reduceAdd]
  have HR2 := Lib.hid (fun W h => preq16 F2 g s2 0 ⟨by decide, by decide⟩ ⟨#[71, 69, 84]⟩ (by decide) 0 ⟨by decide, by decide⟩ (.slice none 0 0) [] few_nil (by have := h.good.len; have h5 : s2.fs.length = 3 := HLen.out; show 0 + s2.fs.length ≤ _; omega) W h (fl_nil W))
  have hb1 := (Below.refl w3.heap.size w3).alloc (Nat.le_refl _) (.cells #[.bool false, .int .i64 0, .slice pf 0 cf, .string (ofL []), .slice (some ⟨bp, 0, none⟩) 1 cp] 38)
  have L4 := Lib.hid (L3.out.call hb1)
  have X1 := Lib.hid (Has.new w3 38 #[.bool false, .int .i64 0, .slice pf 0 cf, .string (ofL []), .slice (some ⟨bp, 0, none⟩) 1 cp])
  have N1 : Hid (¬ F2 w3.heap.size) := Lib.hid (fun h => by have := L3.out.ch.lt _ h; omega)
  have Y0 : Hid ((w3.alloc (.cells #[.bool false, .int .i64 0, .slice pf 0 cf, .string (ofL []), .slice (some ⟨bp, 0, none⟩) 1 cp] 38)).cell? ⟨bp, 0, none⟩ = some (.string (ofL [88, 45, 65])) ∧ bp < w3.heap.size + 1) := Lib.hid (by
    have hlt := World.block_lt_of_cell? _ _ x0
    exact ⟨(hb1.cell (p := ⟨bp, 0, none⟩) hlt).trans x0, Nat.lt_succ_of_lt hlt⟩)
  obtain ⟨g1, hg1⟩ : ∃ g1, g1 = w3.heap.size := ⟨_, rfl⟩
  rw [← hg1] at X1 N1
  have HG1 := Lib.hid hg1
  clear L3 x0 x1 hb1 hg1 HP
  go_wp2_with fail
  refine (HR2.out _ L4.out.ch).mono ?_
  rintro e w5 ⟨fl2, pl2, F3, rfl, hfl2, hpl2, -, -, hch2, hst2⟩
  rw [← HG1.out]
  obtain ⟨s3, hs3⟩ : ∃ s3, Hid (s3 = nxt16 dv16 dn16 s2 0 (toL ⟨#[71, 69, 84]⟩) 0 []) := ⟨_, Lib.hid rfl⟩
  rw [← hs3.out] at hch2
  replace HA3 : Hid (resp16 s3.fs [] = [([83, 101, 114, 118, 101, 114], [98])]) := Lib.hid (by rw [hs3.out]; exact HA3.out)
  have HLen3 : Hid (s3.fs.length = 3) := Lib.hid (by rw [hs3.out]; have h5 : s2.fs.length = 3 := HLen.out; unfold nxt16; split <;> exact h5)
  replace HA2 : Hid (req16 dv16 dn16 s2 0 (toL ⟨#[71, 69, 84]⟩) 0 [] = (say16 401 [(WWW, TOKENW)] NOENTRY, 0)) := HA2
  rw [HA2.out] at hfl2 hpl2 ⊢
  have L5 := Lib.hid (L4.out.turn hch2 hst2)
  have X2 := Lib.hid (hst2.has X1.out N1.out)
  have Y2 : Hid (w5.cell? ⟨bp, 0, none⟩ = some (.string (ofL [88, 45, 65])) ∧ bp < w5.heap.size) := Lib.hid (by
    have hlt : bp < (w3.alloc (.cells #[.bool false, .int .i64 0, .slice pf 0 cf, .string (ofL []), .slice (some ⟨bp, 0, none⟩) 1 cp] 38)).heap.size := by simpa using Y0.out.2
    exact ⟨(hst2.cell hlt HNF.out).trans Y0.out.1, Nat.lt_of_lt_of_le hlt hst2.size⟩)
  obtain ⟨bf, cf2, rfl, -, -⟩ := lst_at hfl2
  obtain ⟨pp2, cp2, rfl, -⟩ := RowKeep.row_form hpl2
  have N3 : Hid (¬ F3 g1 ∧ ¬ F3 bp) := Lib.hid (by
    refine ⟨fun h => (hst2.grow _ h).elim N1.out (fun q => ?_), fun h => (hst2.grow _ h).elim HNF.out (fun q => ?_)⟩
    · have := X1.out.lt; omega
    · have : bp < (w3.alloc (.cells #[.bool false, .int .i64 0, .slice pf 0 cf, .string (ofL []), .slice (some ⟨bp, 0, none⟩) 1 cp] 38)).heap.size := by simpa using Y0.out.2
      omega)
  clear L4 X1 N1 Y0 HR2 hs3 hfl2 hpl2 hst2 HA2 hch2 HNF HLen
  dsimp only [vrdA, say16, List.length_nil, Nat.reduceAdd]
  have HR3 := Lib.hid (fun W h => presp16 F3 g s3 (.slice none 0 0) [] few_nil (by have h5 : s3.fs.length = 3 := HLen3.out; show 0 + s3.fs.length ≤ _; omega) W h (fl_nil W))
  have hb2 := (Below.refl w5.heap.size w5).alloc (Nat.le_refl _) (.cells #[.bool true, .int .i64 401, .slice (some ⟨bf, 0, none⟩) 1 cf2, .string (ofL NOENTRY), .slice pp2 0 cp2] 38)
  have L6 := Lib.hid (L5.out.call hb2)
  have X5 := Lib.hid (Has.new w5 38 #[.bool true, .int .i64 401, .slice (some ⟨bf, 0, none⟩) 1 cf2, .string (ofL NOENTRY), .slice pp2 0 cp2])
  have N5 : Hid (¬ F3 w5.heap.size) := Lib.hid (fun h => by have := L5.out.ch.lt _ h; omega)
  have X3 := Lib.hid (X2.out.alloc (.cells #[.bool true, .int .i64 401, .slice (some ⟨bf, 0, none⟩) 1 cf2, .string (ofL NOENTRY), .slice pp2 0 cp2] 38))
  have Y3 : Hid ((w5.alloc (.cells #[.bool true, .int .i64 401, .slice (some ⟨bf, 0, none⟩) 1 cf2, .string (ofL NOENTRY), .slice pp2 0 cp2] 38)).cell? ⟨bp, 0, none⟩ = some (.string (ofL [88, 45, 65])) ∧ bp < w5.heap.size + 1) := Lib.hid ⟨(hb2.cell (p := ⟨bp, 0, none⟩) Y2.out.2).trans Y2.out.1, Nat.lt_succ_of_lt Y2.out.2⟩
  obtain ⟨g2, hg2⟩ : ∃ g2, g2 = w5.heap.size := ⟨_, rfl⟩
  rw [← hg2] at X5 N5
  have HG2 := Lib.hid hg2
  clear L5 X2 Y2 hb2 hg2
  go_wp2_with fail
  refine (HR3.out _ L6.out.ch).mono ?_
  rintro e w8 ⟨l, F4, rfl, hl, -, hch3, hst3⟩
  rw [← HG2.out]
  rw [HA3.out] at hl
  have L8 := Lib.hid (L6.out.turn hch3 hst3)
  have Z1 := hst3.has X3.out N3.out.1
  have Z2 := hst3.has X5.out N5.out
  have Z3 : w8.cell? ⟨bp, 0, none⟩ = some (.string (ofL [88, 45, 65])) := by
    have hlt : bp < (w5.alloc (.cells #[.bool true, .int .i64 401, .slice (some ⟨bf, 0, none⟩) 1 cf2, .string (ofL NOENTRY), .slice pp2 0 cp2] 38)).heap.size := by simpa using Y3.out.2
    exact (hst3.cell hlt N3.out.2).trans Y3.out.1
  obtain ⟨bl, cl, rfl, -, y1⟩ := lst_at hl
  have d0 : w8.cell? ⟨g1, 0, none⟩ = some (.bool false) := Z1.cell 0
  have d4 : w8.cell? ⟨g1, 4, none⟩ = some (.slice (some ⟨bp, 0, none⟩) 1 cp) := Z1.cell 4
  have e0 : w8.cell? ⟨g2, 0, none⟩ = some (.bool true) := Z2.cell 0
  have e1 : w8.cell? ⟨g2, 1, none⟩ = some (.int .i64 401) := Z2.cell 1
  have t1 : ((ofL [88, 45, 65]).toList == [88, 45, 65]) = true := by rw [ByteArray.toList_eq]; rfl
  have t2 : ((ofL [98]).toList == [98]) = true := by rw [ByteArray.toList_eq]; rfl
  have t3 : (ofL [88, 45, 65]).toList = [88, 45, 65] := by rw [ByteArray.toList_eq]; rfl
  have t4 : (ofL [98]).toList = [98] := by rw [ByteArray.toList_eq]; rfl
  clear L6 X3 X5 N5 Y3 HR3 hl hst3 hch3 Z1 Z2 N3
  dsimp only [List.length_nil, Nat.reduceAdd] at *
  go_wp2_with fail
  go_ret
  exact ⟨rfl, L8.out.below⟩
end Go.Proofs.Ytfdpoibmlggfbaa.L16Anchor
