/- Answers are memory of their own, spare room too, and the list handed in and its spare room stay as they were: FieldsMemory returns true, for what comes in of bulk at most 1048576. -/
import Derived.Test.YtgkmkkgneipabaaDoorFLaw
import Derived.Test.YtgkmkkgneipabaaDoorPSet
import Derived.Test.YtgkmkkgneipabaaDoorQFieldsMemory
import Derived.JoinedCond
namespace Go.Proofs.YtgkmkkgneipabaaDoor.FieldsMemoryW
open Go.ChangeShapes Go.WideShapes Go.ChangeAt Go.RowKit LexPure Bytes Ret Rows1 Texts FieldsPure Flds R7Get R7Remove PLib FLaw FAnchor Mem Step
set_option maxRecDepth 100000
set_option linter.unusedVariables false
theorem drewN_below {W w : World} (h : Below W.heap.size W w) (m : Nat) : Below W.heap.size W (w.drewN m) := ⟨h.os, h.tape, h.output, h.size, h.block⟩
/-- the front of a list -/
theorem fl_pre {w : World} {p : Option Addr} {m cap : Nat} {G K : List HField} (h : FL w (.slice p m cap) (G ++ K)) (cap' : Nat) : FL w (.slice p G.length cap') G := by
  obtain ⟨p', c', hv, hle, hc⟩ := h
  injection hv with e1 _ _
  subst e1
  have hl : (G ++ K).length = G.length + K.length := by simp
  refine ⟨p, cap', rfl, by omega, fun h0 => ?_⟩
  obtain ⟨g, o, rfl, hlt, hcell⟩ := hc (by omega)
  refine ⟨g, o, rfl, hlt, fun j hj => ?_⟩
  have := hcell j (by omega)
  rw [List.getElem_append_left hj] at this
  exact this
/-- where a row of one's own lies -/
def Zone (v : Value) (lo hi : Nat) : Prop := ∀ j, v.ownBlock = some j → lo ≤ j ∧ j < hi
theorem Zone.sep {v v' : Value} {lo hi lo' hi' : Nat} (h : Zone v lo hi) (h' : Zone v' lo' hi') (hle : hi ≤ lo' ∨ hi' ≤ lo) : ∀ j, v.ownBlock = some j → ¬ v'.ownBlock = some j := fun j h1 h2 => by
  have a := h j h1
  have b := h' j h2
  omega
abbrev own (w : World) (base : Nat) (v : Value) (n : Nat) (xs : List Value) : Prop := w.ownsRow base 38 2 v n xs
def Z (v : Value) : Nat → Prop := fun j => v.ownBlock = some j
theorem fill_open {w : World} {v : Value} {n base k : Nat} {xs : List Value} (hr : own w base v n xs) (hk : k < n) :
    ∃ g cap u0 u1, v = .slice (some ⟨g, 0, none⟩) n cap ∧ w.cell? ⟨g, k * 2, none⟩ = some u0 ∧ w.frozen? ⟨g, k * 2, none⟩ = false ∧ w.cell? ⟨g, k * 2 + 1, none⟩ = some u1 ∧ w.frozen? ⟨g, k * 2 + 1, none⟩ = false := by
  rcases hr.2 with ⟨_, h0⟩ | ⟨g, cap, cur, hv, _, hg, h1, _, h2, _⟩
  · omega
  · have hh : Has w g 38 cur := ⟨hg⟩
    have a0 : k * 2 < cur.size := by omega
    have a1 : k * 2 + 1 < cur.size := by omega
    exact ⟨g, cap, cur[k * 2], cur[k * 2 + 1], hv, by rw [hh.cell, Array.getElem?_eq_getElem a0], hh.free _, by rw [hh.cell, Array.getElem?_eq_getElem a1], hh.free _⟩
theorem fill_set {w : World} {v : Value} {n base g cap : Nat} {xs : List Value} (hr : own w base v n xs) (hv : v = .slice (some ⟨g, 0, none⟩) n cap) (i j : Nat) (x y : Value) :
    (∃ xs', own ((w.setCell ⟨g, i, none⟩ x).setCell ⟨g, j, none⟩ y) base v n xs') ∧ Step w ((w.setCell ⟨g, i, none⟩ x).setCell ⟨g, j, none⟩ y) (Z v) (Z v) := by
  have hz : Z v g := by unfold Z; rw [hv]; rfl
  refine ⟨?_, (Step.set_ w hz i x).trans (Step.set_ _ hz j y)⟩
  rcases hr.2 with ⟨h0, _⟩ | ⟨g', cap', cur, hv', hb, hg, h1, h2, h3, _⟩
  · rw [hv] at h0; cases h0
  · have e : g' = g := by rw [hv] at hv'; injection hv' with e _ _; injection e with e; injection e with e; exact e.symm
    subst e
    have hh : Has w g' 38 cur := ⟨hg⟩
    have h4 := (hh.set_ i x).set_ j y
    refine ⟨(((cur.setIfInBounds i x).setIfInBounds j y).toList.take (n * 2)), ?_, .inr ⟨g', cap', _, hv', hb, h4.at_, h1, h2, by simp [h3], rfl⟩⟩
    rw [List.length_take, Array.length_toList]
    simp [h3]
    omega
theorem row_cap {w : World} {p : Option Addr} {n cap base : Nat} {xs : List Value} (hr : own w base (.slice p n cap) n xs) : n ≤ cap ∧ cap ≤ 9223372036854775807 := by
  rcases hr.2 with ⟨h, _⟩ | ⟨g, c, cur, h, _, _, h2, h3, _⟩
  · injection h with _ h1 h2
    omega
  · injection h with _ _ h
    subst h
    exact ⟨h2, h3⟩
theorem step_below {W w w' : World} {B : Nat} {F : Nat → Prop} (h : Below B W w) (s : Step w w' F F) (hF : ∀ k, F k → B ≤ k) (hB : B ≤ w.heap.size) : Below B W w' :=
  h.trans ⟨s.os, s.tape, s.output, s.size, fun k hk => s.block k (Nat.lt_of_lt_of_le hk hB) (fun hf => by have := hF k hf; omega)⟩
def spare : List HField := [([115, 112, 97, 114, 101], []), ([114, 111, 111, 109], [])]
theorem room_cells {w : World} {base g m c : Nat} {G : List HField} (hr : own w base (.slice (some ⟨g, 0, none⟩) m c) m (encFs (G ++ spare))) :
    w.cell? ⟨g, G.length * 2, none⟩ = some (.string ⟨#[115, 112, 97, 114, 101]⟩) ∧ w.cell? ⟨g, (G.length + 1) * 2, none⟩ = some (.string ⟨#[114, 111, 111, 109]⟩) := by
  have hc := hr.cells (g := g) rfl
  have a1 := hc _ _ (encFs_at (G ++ spare) G.length ([115, 112, 97, 114, 101], []) (by simp [spare])).1
  have a2 := hc _ _ (encFs_at (G ++ spare) (G.length + 1) ([114, 111, 111, 109], []) (by simp [spare])).1
  rw [FArg.add_plain, Nat.zero_add] at a1 a2
  exact ⟨a1, a2⟩
set_option maxHeartbeats 8000000 in
theorem walk {H : Type} {enc : TypeId × Value → H} {W : World} {base : Nat} (v : Value) (d : DataW H) (p : List MemPlace) (hv : Value.okWide Tryd.prog W .any base 22 v)
    (hd : DataW.Trod enc Tryd.prog W 0 (fun _ => true) true 22 v d p) (hl : ∀ x ∈ p, x.block < W.heap.size) (hb : Rows.uptoBulk d ≤ 1048576) (hsh : W.ShapedOpen Tryd.prog) :
    Calls Tryd.prog 6 #[v] W fun e w' => e = .returned (.bool true) ∧ Below W.heap.size W w' := by
  obtain ⟨i0, hi, hz0, hz1, hz2⟩ := info_parts infoF
  have HM := Lib.hid (MaxInt.of_shape hsh)
  obtain ⟨G, hF, hG, hle, hN⟩ := FArg.fields_arg hv hd hb
  clear hv hd hl hb hsh
  have HF := Lib.hid hF
  have HG := Lib.hid hG
  have HN := Lib.hid hN
  obtain ⟨p, cap, rfl, hle2, _⟩ := hF
  have ls : (setF G (toL ⟨#[110, 111, 110, 101, 45, 115, 117, 99, 104]⟩) (toL ⟨#[118]⟩)).length ≤ 1048577 := by unfold setF; rw [List.length_append]; have := remove_len G (toL ⟨#[110, 111, 110, 101, 45, 115, 117, 99, 104]⟩); simp; omega
  have lr : (remove G (toL ⟨#[110, 111, 110, 101, 45, 115, 117, 99, 104]⟩)).length ≤ 1048576 := by have := remove_len G (toL ⟨#[110, 111, 110, 101, 45, 115, 117, 99, 104]⟩); omega
  have lp : (strip G).length ≤ 1048576 := by have := List.length_filter_le (fun f => !one G f.1) G; unfold strip; omega
  clear hG hN
  go_enter Tryd.func6, Tryd.ntmps6
  go_wp2_with fail
  refine (anchor_any _ HM.out).mono ?_
  rintro e w1 ⟨rfl, hb1⟩
  have HF1 := Lib.hid (HF.out.below hb1)
  have hF1 := HF1.out.below ((Below.refl w1.heap.size w1).alloc (Nat.le_refl _) (.cells #[] 38))
  have hsz : w1.heap.size ≤ (w1.alloc (.cells #[] 38)).heap.size := by simp
  replace HM := Lib.hid (HM.out.below hb1)
  have HB := Lib.hid hb1
  clear hb1
  go_wp2_with (first
    | (at_builtin; refine wpList_append_list rfl _ _ rfl w1.heap.size _ 0 [] rfl (owns_none w1 _ _ (Nat.le_refl _)) _ G rfl hF1 HN.out (by omega) hsz ?_; intro v4 w4 hown4 hg4; obtain ⟨hrow, hb4⟩ := copied hown4 hg4; have hrow4 := row_below hrow ((Below.refl w4.heap.size w4).alloc (Nat.le_refl _) (.cells #[.string ⟨#[115, 112, 97, 114, 101]⟩, .string ⟨#[]⟩, .string ⟨#[114, 111, 111, 109]⟩, .string ⟨#[]⟩] 38)); have hnw4 := World.news_of_block (heap_alloc_new w4 (.cells #[.string ⟨#[115, 112, 97, 114, 101]⟩, .string ⟨#[]⟩, .string ⟨#[114, 111, 111, 109]⟩, .string ⟨#[]⟩] 38)); have hsz4 : w1.heap.size ≤ (w4.alloc (.cells #[.string ⟨#[115, 112, 97, 114, 101]⟩, .string ⟨#[]⟩, .string ⟨#[114, 111, 111, 109]⟩, .string ⟨#[]⟩] 38)).heap.size := by have := hb4.size; simp; omega)
    | (at_builtin; refine wpList_append_own_at _ rfl _ _ 22 rfl w1.heap.size 38 i0 _ 2 32 Tryd.underlying22 hi hz0 hz1 hz2 rfl (by omega) v4 _ _ rfl hrow4 ⟨w4.heap.size, 0, none⟩ 2 2 [.string ⟨#[115, 112, 97, 114, 101]⟩, .string ⟨#[]⟩, .string ⟨#[114, 111, 111, 109]⟩, .string ⟨#[]⟩] rfl rfl hnw4 (by simp [Value.oneCell']) (by simp only [maxLen]; omega) (by omega) hsz4 ?_; intro v5 w5 hown5 hg5 _ hat5; obtain ⟨pr, cr, rfl, hpr⟩ := row_form hown5; obtain ⟨gr, rfl, _⟩ := hpr (by omega); obtain ⟨hcr1, hcr2⟩ := row_cap hown5; have hcri : (G.length : Int) ≤ (cr : Int) := (by omega); have hcrj : (cr : Int) ≤ 9223372036854775807 := (by omega)))
  have HRr : Hid (own w5 w1.heap.size (.slice (some ⟨gr, 0, none⟩) (G.length + 2) cr) (G.length + 2) (encFs (G ++ spare))) := Lib.hid (by rw [encFs_append]; exact hown5)
  have hb5 : Below w1.heap.size w1 w5 := (hb4.alloc hb4.size (.cells #[.string ⟨#[115, 112, 97, 114, 101]⟩, .string ⟨#[]⟩, .string ⟨#[114, 111, 111, 109]⟩, .string ⟨#[]⟩] 38)).grown hg5 hsz4 (fun j hj => (hrow4.lt j hj).1)
  replace HB := Lib.hid (below_chain HB.out hb5)
  have hW5' := HB.out.size
  replace HM := Lib.hid (HM.out.below hb5)
  have HL := Lib.hid (HF1.out.below hb5)
  have HA : Hid (FL w5 (.slice (some ⟨gr, 0, none⟩) G.length cr) G) := Lib.hid (fl_pre (fl_of (G := G ++ spare) (by rw [List.length_append]; exact HRr.out) (by rw [List.length_append]; simp [spare]; omega)) cr)
  have hzr : Zone (.slice (some ⟨gr, 0, none⟩) (G.length + 2) cr) w1.heap.size w5.heap.size := fun j hj => HRr.out.lt j hj
  have HZr := Lib.hid hzr
  clear hrow hb4 hrow4 hnw4 hsz4 hown4 hg4 hown5 hg5 hat5 hpr hF1 hsz HF1 HN hb5 hzr
  refine (PSet.pset_any (.slice (some ⟨gr, 0, none⟩) G.length cr) G ⟨#[110, 111, 110, 101, 45, 115, 117, 99, 104]⟩ ⟨#[118]⟩ HG.out hle w5 HA.out).mono ?_
  rintro e w6 ⟨va, rfl, ra, hb6⟩
  obtain ⟨pa, ca, rfl, _⟩ := row_form ra
  have HRa := Lib.hid ra
  have HZa : Hid (Zone _ w5.heap.size w6.heap.size) := Lib.hid (fun j hj => ra.lt j hj)
  have HS6 := Lib.hid hb6.size
  replace HA := Lib.hid (HA.out.below hb6)
  replace HL := Lib.hid (HL.out.below hb6)
  replace HM := Lib.hid (HM.out.below hb6)
  replace HB := Lib.hid (below_chain HB.out hb6)
  replace HRr := Lib.hid (row_below HRr.out hb6)
  clear ra hb6
  go_wp2_with fail
  refine (PRemove.premove_any (.slice (some ⟨gr, 0, none⟩) G.length cr) G ⟨#[110, 111, 110, 101, 45, 115, 117, 99, 104]⟩ HG.out hle w6 HA.out).mono ?_
  rintro e w7 ⟨vb, rfl, ra, hb6⟩
  obtain ⟨pb, cb, rfl, _⟩ := row_form ra
  have HRb := Lib.hid ra
  have HZb : Hid (Zone _ w6.heap.size w7.heap.size) := Lib.hid (fun j hj => ra.lt j hj)
  have HS7 := Lib.hid hb6.size
  replace HA := Lib.hid (HA.out.below hb6)
  replace HL := Lib.hid (HL.out.below hb6)
  replace HM := Lib.hid (HM.out.below hb6)
  replace HB := Lib.hid (below_chain HB.out hb6)
  replace HRr := Lib.hid (row_below HRr.out hb6)
  replace HRa := Lib.hid (row_below HRa.out hb6)
  clear ra hb6
  go_wp2_with fail
  refine (PStrip.pstrip_any (.slice (some ⟨gr, 0, none⟩) G.length cr) G HG.out hle w7 HM.out HA.out).mono ?_
  rintro e w8 ⟨vc, rfl, ra, hb6⟩
  obtain ⟨pc, cc, rfl, _⟩ := row_form ra
  have HRc := Lib.hid ra
  have HZc : Hid (Zone _ w7.heap.size w8.heap.size) := Lib.hid (fun j hj => ra.lt j hj)
  have HS8 := Lib.hid hb6.size
  replace HA := Lib.hid (HA.out.below hb6)
  replace HL := Lib.hid (HL.out.below hb6)
  replace HM := Lib.hid (HM.out.below hb6)
  replace HB := Lib.hid (below_chain HB.out hb6)
  replace HRr := Lib.hid (row_below HRr.out hb6)
  replace HRa := Lib.hid (row_below HRa.out hb6)
  replace HRb := Lib.hid (row_below HRb.out hb6)
  clear ra hb6
  go_wp2_with fail
  refine (PSet.pset_any (.slice (some ⟨gr, 0, none⟩) G.length cr) G ⟨#[110, 111, 110, 101, 45, 115, 117, 99, 104]⟩ ⟨#[118]⟩ HG.out hle w8 HA.out).mono ?_
  rintro e w9 ⟨vd, rfl, ra, hb6⟩
  obtain ⟨pd, cd, rfl, _⟩ := row_form ra
  have HRd := Lib.hid ra
  have HZd : Hid (Zone _ w8.heap.size w9.heap.size) := Lib.hid (fun j hj => ra.lt j hj)
  have HS9 := Lib.hid hb6.size
  replace HA := Lib.hid (HA.out.below hb6)
  replace HL := Lib.hid (HL.out.below hb6)
  replace HM := Lib.hid (HM.out.below hb6)
  replace HB := Lib.hid (below_chain HB.out hb6)
  replace HRr := Lib.hid (row_below HRr.out hb6)
  replace HRa := Lib.hid (row_below HRa.out hb6)
  replace HRb := Lib.hid (row_below HRb.out hb6)
  replace HRc := Lib.hid (row_below HRc.out hb6)
  clear ra hb6
  go_wp2_with fail
  refine (PStrip.pstrip_any (.slice (some ⟨gr, 0, none⟩) G.length cr) G HG.out hle w9 HM.out HA.out).mono ?_
  rintro e w10 ⟨ve, rfl, ra, hb6⟩
  obtain ⟨pe, ce, rfl, _⟩ := row_form ra
  have HRe := Lib.hid ra
  have HZe : Hid (Zone _ w9.heap.size w10.heap.size) := Lib.hid (fun j hj => ra.lt j hj)
  replace HL := Lib.hid (HL.out.below hb6)
  replace HB := Lib.hid (below_chain HB.out hb6)
  replace HRr := Lib.hid (row_below HRr.out hb6)
  replace HRa := Lib.hid (row_below HRa.out hb6)
  replace HRb := Lib.hid (row_below HRb.out hb6)
  replace HRc := Lib.hid (row_below HRc.out hb6)
  replace HRd := Lib.hid (row_below HRd.out hb6)
  clear ra hb6 HA HM
  have P1 := Lib.hid (fun w h => R7Set.rset_any (.slice p G.length cap) G ⟨#[110, 111, 110, 101, 45, 115, 117, 99, 104]⟩ ⟨#[118]⟩ (by decide) HG.out hle w h)
  have P2 := Lib.hid (fun w h => R7Strip.r7strip_any (.slice p G.length cap) G HG.out hle w h)
  generalize setF G (toL ⟨#[110, 111, 110, 101, 45, 115, 117, 99, 104]⟩) (toL ⟨#[118]⟩) = SL at *
  generalize remove G (toL ⟨#[110, 111, 110, 101, 45, 115, 117, 99, 104]⟩) = RL at *
  generalize strip G = PL at *
  obtain ⟨cs1, cs2⟩ := room_cells HRr.out
  have g1 : (G.length : Int) < (cr : Int) := by omega
  have q1 : ((SL.length : Int) != (SL.length : Int)) = false := bne_self_eq_false _
  have q2 : ((PL.length : Int) != (PL.length : Int)) = false := bne_self_eq_false _
  have q3 : ((SL.length : Int) + 2 + ((RL.length : Int) + 2) + ((PL.length : Int) + 2) == (SL.length : Int) + (RL.length : Int) + (PL.length : Int) + 6) = true := beq_iff_eq.2 (by omega)
  have hW5 : W.heap.size ≤ w5.heap.size := hW5'
  have HI : Hid ((∃ xs, own w10 w5.heap.size (.slice pa SL.length ca) SL.length xs) ∧ Step w10 w10 (Z (.slice pa SL.length ca)) (Z (.slice pa SL.length ca))) := Lib.hid ⟨⟨_, HRa.out⟩, Step.refl _ _⟩
  go_wp2_with fail
  go_loopw [70] (fun i wr => ∃ k : Nat, k ≤ SL.length ∧ i = .int .i64 k ∧ Hid ((∃ xs, own wr w5.heap.size (.slice pa SL.length ca) SL.length xs) ∧ Step w10 wr (Z (.slice pa SL.length ca)) (Z (.slice pa SL.length ca)))) (fun i _ => SL.length - (intOf i).toNat)
  case atStart => exact ⟨0, Nat.zero_le _, rfl, HI⟩
  case round =>
    obtain ⟨k, hk, rfl, HJ⟩ := hrel
    clear HI
    by_cases hlt : k < SL.length
    · have hki : (k : Int) < (SL.length : Int) := by omega
      obtain ⟨⟨xs, hrx⟩, hst⟩ := HJ.out
      obtain ⟨g, c', u0, u1, hvg, c0, f0, c1, f1⟩ := fill_open hrx hlt
      injection hvg with a1 _ a3
      subst a1 a3
      obtain ⟨hj1, hj2⟩ := fill_set hrx rfl (k * 2) (k * 2 + 1) (.string ⟨#[65]⟩) (.string ⟨#[]⟩)
      have HJ2 := Lib.hid hj1
      have HSt := Lib.hid (hst.trans hj2)
      clear hrx hst HJ hj1 hj2
      go_wp2_with fail
      go_roundw
      case rel => exact ⟨k + 1, by omega, by go_num, Lib.hid ⟨HJ2.out, HSt.out⟩⟩
      case measure => simp [intOf]; omega
    · obtain ⟨⟨xsa, hrx⟩, hst⟩ := HJ.out
      have HSa := Lib.hid hst
      replace HRa := Lib.hid hrx
      replace HRb := Lib.hid (Step.row HSa.out HRb.out (Zone.sep HZb.out HZa.out (.inr (by have := HS6.out; have := HS7.out; have := HS8.out; have := HS9.out; omega))))
      replace HRc := Lib.hid (Step.row HSa.out HRc.out (Zone.sep HZc.out HZa.out (.inr (by have := HS6.out; have := HS7.out; have := HS8.out; have := HS9.out; omega))))
      replace HRd := Lib.hid (Step.row HSa.out HRd.out (Zone.sep HZd.out HZa.out (.inr (by have := HS6.out; have := HS7.out; have := HS8.out; have := HS9.out; omega))))
      replace HRe := Lib.hid (Step.row HSa.out HRe.out (Zone.sep HZe.out HZa.out (.inr (by have := HS6.out; have := HS7.out; have := HS8.out; have := HS9.out; omega))))
      replace HRr := Lib.hid (Step.row HSa.out HRr.out (Zone.sep HZr.out HZa.out (.inl (by have := HS6.out; have := HS7.out; have := HS8.out; have := HS9.out; omega))))
      replace HB := Lib.hid (step_below HB.out HSa.out (fun k hk => by have := HZa.out k hk; have := HS6.out; have := HS7.out; have := HS8.out; have := HS9.out; omega) HB.out.size)
      clear hrx hst HJ HSa
      generalize wr = wA at *
      have HI : Hid ((∃ xs, own wA w6.heap.size (.slice pb RL.length cb) RL.length xs) ∧ Step wA wA (Z (.slice pb RL.length cb)) (Z (.slice pb RL.length cb))) := Lib.hid ⟨⟨_, HRb.out⟩, Step.refl _ _⟩
      go_wp2_with fail
      go_loopw [80] (fun i wr => ∃ k : Nat, k ≤ RL.length ∧ i = .int .i64 k ∧ Hid ((∃ xs, own wr w6.heap.size (.slice pb RL.length cb) RL.length xs) ∧ Step wA wr (Z (.slice pb RL.length cb)) (Z (.slice pb RL.length cb)))) (fun i _ => RL.length - (intOf i).toNat)
      case atStart => exact ⟨0, Nat.zero_le _, rfl, HI⟩
      case round =>
        obtain ⟨k, hk, rfl, HJ⟩ := hrel
        clear HI
        by_cases hlt : k < RL.length
        · have hki : (k : Int) < (RL.length : Int) := by omega
          obtain ⟨⟨xs, hrx⟩, hst⟩ := HJ.out
          obtain ⟨g, c', u0, u1, hvg, c0, f0, c1, f1⟩ := fill_open hrx hlt
          injection hvg with a1 _ a3
          subst a1 a3
          obtain ⟨hj1, hj2⟩ := fill_set hrx rfl (k * 2) (k * 2 + 1) (.string ⟨#[66]⟩) (.string ⟨#[]⟩)
          have HJ2 := Lib.hid hj1
          have HSt := Lib.hid (hst.trans hj2)
          clear hrx hst HJ hj1 hj2
          go_wp2_with fail
          go_roundw
          case rel => exact ⟨k + 1, by omega, by go_num, Lib.hid ⟨HJ2.out, HSt.out⟩⟩
          case measure => simp [intOf]; omega
        · obtain ⟨⟨xsb, hrx⟩, hst⟩ := HJ.out
          have HSb := Lib.hid hst
          replace HRb := Lib.hid hrx
          replace HRa := Lib.hid (Step.row HSb.out HRa.out (Zone.sep HZa.out HZb.out (.inl (by have := HS6.out; have := HS7.out; have := HS8.out; have := HS9.out; omega))))
          replace HRc := Lib.hid (Step.row HSb.out HRc.out (Zone.sep HZc.out HZb.out (.inr (by have := HS6.out; have := HS7.out; have := HS8.out; have := HS9.out; omega))))
          replace HRd := Lib.hid (Step.row HSb.out HRd.out (Zone.sep HZd.out HZb.out (.inr (by have := HS6.out; have := HS7.out; have := HS8.out; have := HS9.out; omega))))
          replace HRe := Lib.hid (Step.row HSb.out HRe.out (Zone.sep HZe.out HZb.out (.inr (by have := HS6.out; have := HS7.out; have := HS8.out; have := HS9.out; omega))))
          replace HRr := Lib.hid (Step.row HSb.out HRr.out (Zone.sep HZr.out HZb.out (.inl (by have := HS6.out; have := HS7.out; have := HS8.out; have := HS9.out; omega))))
          replace HB := Lib.hid (step_below HB.out HSb.out (fun k hk => by have := HZb.out k hk; have := HS6.out; have := HS7.out; have := HS8.out; have := HS9.out; omega) HB.out.size)
          clear hrx hst HJ HSb
          generalize wr = wB at *
          have HI : Hid ((∃ xs, own wB w7.heap.size (.slice pc PL.length cc) PL.length xs) ∧ Step wB wB (Z (.slice pc PL.length cc)) (Z (.slice pc PL.length cc))) := Lib.hid ⟨⟨_, HRc.out⟩, Step.refl _ _⟩
          go_wp2_with fail
          go_loopw [90] (fun i wr => ∃ k : Nat, k ≤ PL.length ∧ i = .int .i64 k ∧ Hid ((∃ xs, own wr w7.heap.size (.slice pc PL.length cc) PL.length xs) ∧ Step wB wr (Z (.slice pc PL.length cc)) (Z (.slice pc PL.length cc)))) (fun i _ => PL.length - (intOf i).toNat)
          case atStart => exact ⟨0, Nat.zero_le _, rfl, HI⟩
          case round =>
            obtain ⟨k, hk, rfl, HJ⟩ := hrel
            clear HI
            by_cases hlt : k < PL.length
            · have hki : (k : Int) < (PL.length : Int) := by omega
              obtain ⟨⟨xs, hrx⟩, hst⟩ := HJ.out
              obtain ⟨g, c', u0, u1, hvg, c0, f0, c1, f1⟩ := fill_open hrx hlt
              injection hvg with a1 _ a3
              subst a1 a3
              obtain ⟨hj1, hj2⟩ := fill_set hrx rfl (k * 2) (k * 2 + 1) (.string ⟨#[67]⟩) (.string ⟨#[]⟩)
              have HJ2 := Lib.hid hj1
              have HSt := Lib.hid (hst.trans hj2)
              clear hrx hst HJ hj1 hj2
              go_wp2_with fail
              go_roundw
              case rel => exact ⟨k + 1, by omega, by go_num, Lib.hid ⟨HJ2.out, HSt.out⟩⟩
              case measure => simp [intOf]; omega
            · obtain ⟨⟨xsc, hrx⟩, hst⟩ := HJ.out
              have HSc := Lib.hid hst
              replace HRc := Lib.hid hrx
              replace HRa := Lib.hid (Step.row HSc.out HRa.out (Zone.sep HZa.out HZc.out (.inl (by have := HS6.out; have := HS7.out; have := HS8.out; have := HS9.out; omega))))
              replace HRb := Lib.hid (Step.row HSc.out HRb.out (Zone.sep HZb.out HZc.out (.inl (by have := HS6.out; have := HS7.out; have := HS8.out; have := HS9.out; omega))))
              replace HRd := Lib.hid (Step.row HSc.out HRd.out (Zone.sep HZd.out HZc.out (.inr (by have := HS6.out; have := HS7.out; have := HS8.out; have := HS9.out; omega))))
              replace HRe := Lib.hid (Step.row HSc.out HRe.out (Zone.sep HZe.out HZc.out (.inr (by have := HS6.out; have := HS7.out; have := HS8.out; have := HS9.out; omega))))
              replace HRr := Lib.hid (Step.row HSc.out HRr.out (Zone.sep HZr.out HZc.out (.inl (by have := HS6.out; have := HS7.out; have := HS8.out; have := HS9.out; omega))))
              replace HB := Lib.hid (step_below HB.out HSc.out (fun k hk => by have := HZc.out k hk; have := HS6.out; have := HS7.out; have := HS8.out; have := HS9.out; omega) HB.out.size)
              clear hrx hst HJ HSc
              generalize wr = wC at *
              have hra := row_mono (row_below HRa.out ((Below.refl wC.heap.size wC).alloc (Nat.le_refl _) (.cells #[.string ⟨#[]⟩, .string ⟨#[]⟩, .string ⟨#[]⟩, .string ⟨#[]⟩] 38))) (Nat.zero_le _)
              have hna := World.news_of_block (heap_alloc_new wC (.cells #[.string ⟨#[]⟩, .string ⟨#[]⟩, .string ⟨#[]⟩, .string ⟨#[]⟩] 38))
              go_wp2_with (first
                | (at_builtin; refine wpList_append_own_at _ rfl _ _ 22 rfl 0 38 i0 _ 2 32 Tryd.underlying22 hi hz0 hz1 hz2 rfl (by omega) (.slice pa SL.length ca) _ _ rfl hra ⟨wC.heap.size, 0, none⟩ 2 2 [.string ⟨#[]⟩, .string ⟨#[]⟩, .string ⟨#[]⟩, .string ⟨#[]⟩] rfl rfl hna (by simp [Value.oneCell']) (by simp only [maxLen]; omega) (by omega) (Nat.zero_le _) ?_; intro vn wD hown hg _ hat; obtain ⟨pn, cn, rfl, _⟩ := row_form hown; have st := (Step.alloc wC (.cells #[.string ⟨#[]⟩, .string ⟨#[]⟩, .string ⟨#[]⟩, .string ⟨#[]⟩] 38) (Z (.slice pa SL.length ca))).trans (Step.of_grown (F := Z (.slice pa SL.length ca)) hg (fun k e => e)); replace HRb := Lib.hid (Step.row st HRb.out (Zone.sep HZb.out HZa.out (.inr (by have := HS6.out; have := HS7.out; have := HS8.out; have := HS9.out; omega)))); replace HRc := Lib.hid (Step.row st HRc.out (Zone.sep HZc.out HZa.out (.inr (by have := HS6.out; have := HS7.out; have := HS8.out; have := HS9.out; omega)))); replace HRd := Lib.hid (Step.row st HRd.out (Zone.sep HZd.out HZa.out (.inr (by have := HS6.out; have := HS7.out; have := HS8.out; have := HS9.out; omega)))); replace HRe := Lib.hid (Step.row st HRe.out (Zone.sep HZe.out HZa.out (.inr (by have := HS6.out; have := HS7.out; have := HS8.out; have := HS9.out; omega)))); replace HRr := Lib.hid (Step.row st HRr.out (Zone.sep HZr.out HZa.out (.inl (by have := HS6.out; have := HS7.out; have := HS8.out; have := HS9.out; omega)))); replace HB := Lib.hid (step_below HB.out st (fun k hk => (by have := HZa.out k hk; have := HS6.out; have := HS7.out; have := HS8.out; have := HS9.out; omega)) HB.out.size); clear st hown hg hat; have hrb := row_mono (row_below HRb.out ((Below.refl wD.heap.size wD).alloc (Nat.le_refl _) (.cells #[.string ⟨#[]⟩, .string ⟨#[]⟩, .string ⟨#[]⟩, .string ⟨#[]⟩] 38))) (Nat.zero_le _); have hnb := World.news_of_block (heap_alloc_new wD (.cells #[.string ⟨#[]⟩, .string ⟨#[]⟩, .string ⟨#[]⟩, .string ⟨#[]⟩] 38)))
                | (at_builtin; refine wpList_append_own_at _ rfl _ _ 22 rfl 0 38 i0 _ 2 32 Tryd.underlying22 hi hz0 hz1 hz2 rfl (by omega) (.slice pb RL.length cb) _ _ rfl hrb ⟨wD.heap.size, 0, none⟩ 2 2 [.string ⟨#[]⟩, .string ⟨#[]⟩, .string ⟨#[]⟩, .string ⟨#[]⟩] rfl rfl hnb (by simp [Value.oneCell']) (by simp only [maxLen]; omega) (by omega) (Nat.zero_le _) ?_; intro vn wE hown hg _ hat; obtain ⟨pn, cn, rfl, _⟩ := row_form hown; have st := (Step.alloc wD (.cells #[.string ⟨#[]⟩, .string ⟨#[]⟩, .string ⟨#[]⟩, .string ⟨#[]⟩] 38) (Z (.slice pb RL.length cb))).trans (Step.of_grown (F := Z (.slice pb RL.length cb)) hg (fun k e => e)); replace HRc := Lib.hid (Step.row st HRc.out (Zone.sep HZc.out HZb.out (.inr (by have := HS6.out; have := HS7.out; have := HS8.out; have := HS9.out; omega)))); replace HRd := Lib.hid (Step.row st HRd.out (Zone.sep HZd.out HZb.out (.inr (by have := HS6.out; have := HS7.out; have := HS8.out; have := HS9.out; omega)))); replace HRe := Lib.hid (Step.row st HRe.out (Zone.sep HZe.out HZb.out (.inr (by have := HS6.out; have := HS7.out; have := HS8.out; have := HS9.out; omega)))); replace HRr := Lib.hid (Step.row st HRr.out (Zone.sep HZr.out HZb.out (.inl (by have := HS6.out; have := HS7.out; have := HS8.out; have := HS9.out; omega)))); replace HB := Lib.hid (step_below HB.out st (fun k hk => (by have := HZb.out k hk; have := HS6.out; have := HS7.out; have := HS8.out; have := HS9.out; omega)) HB.out.size); clear st hown hg hat; have hrc := row_mono (row_below HRc.out ((Below.refl wE.heap.size wE).alloc (Nat.le_refl _) (.cells #[.string ⟨#[]⟩, .string ⟨#[]⟩, .string ⟨#[]⟩, .string ⟨#[]⟩] 38))) (Nat.zero_le _); have hnc := World.news_of_block (heap_alloc_new wE (.cells #[.string ⟨#[]⟩, .string ⟨#[]⟩, .string ⟨#[]⟩, .string ⟨#[]⟩] 38)))
                | (at_builtin; refine wpList_append_own_at _ rfl _ _ 22 rfl 0 38 i0 _ 2 32 Tryd.underlying22 hi hz0 hz1 hz2 rfl (by omega) (.slice pc PL.length cc) _ _ rfl hrc ⟨wE.heap.size, 0, none⟩ 2 2 [.string ⟨#[]⟩, .string ⟨#[]⟩, .string ⟨#[]⟩, .string ⟨#[]⟩] rfl rfl hnc (by simp [Value.oneCell']) (by simp only [maxLen]; omega) (by omega) (Nat.zero_le _) ?_; intro vn wF hown hg _ hat; obtain ⟨pn, cn, rfl, _⟩ := row_form hown; have st := (Step.alloc wE (.cells #[.string ⟨#[]⟩, .string ⟨#[]⟩, .string ⟨#[]⟩, .string ⟨#[]⟩] 38) (Z (.slice pc PL.length cc))).trans (Step.of_grown (F := Z (.slice pc PL.length cc)) hg (fun k e => e)); replace HRd := Lib.hid (Step.row st HRd.out (Zone.sep HZd.out HZc.out (.inr (by have := HS6.out; have := HS7.out; have := HS8.out; have := HS9.out; omega)))); replace HRe := Lib.hid (Step.row st HRe.out (Zone.sep HZe.out HZc.out (.inr (by have := HS6.out; have := HS7.out; have := HS8.out; have := HS9.out; omega)))); replace HRr := Lib.hid (Step.row st HRr.out (Zone.sep HZr.out HZc.out (.inl (by have := HS6.out; have := HS7.out; have := HS8.out; have := HS9.out; omega)))); replace HB := Lib.hid (step_below HB.out st (fun k hk => (by have := HZc.out k hk; have := HS6.out; have := HS7.out; have := HS8.out; have := HS9.out; omega)) HB.out.size); clear st hown hg hat))
              have HA : Hid (FL wF (.slice (some ⟨gr, 0, none⟩) G.length cr) G) := Lib.hid (fl_pre (fl_of (G := G ++ spare) (by rw [List.length_append]; exact HRr.out) (by rw [List.length_append]; simp [spare]; omega)) cr)
              have HL2 := Lib.hid (HF.out.below HB.out)
              have HD := Lib.hid (fl_of HRd.out (by omega))
              have HE := Lib.hid (fl_of HRe.out (by omega))
              have gs : (G == G) = true := beq_self_eq_true _
              have ss : (SL == SL) = true := beq_self_eq_true _
              have ps : (PL == PL) = true := beq_self_eq_true _
              refine (R7Same.r7same_any _ _ _ _ _ HA.out HL2.out).mono ?_
              rintro e wG ⟨rfl, m, rfl⟩
              rw [gs]
              replace HL2 : Hid (FL (wF.drewN m) (.slice p G.length cap) G) := Lib.hid HL2.out
              replace HD : Hid (FL (wF.drewN m) (.slice pd SL.length cd) SL) := Lib.hid HD.out
              replace HE : Hid (FL (wF.drewN m) (.slice pe PL.length ce) PL) := Lib.hid HE.out
              replace HB : Hid (Below W.heap.size W (wF.drewN m)) := Lib.hid (drewN_below HB.out m)
              clear HA HRr HRd HRe
              generalize wF.drewN m = wG at *
              go_wp2_with fail
              refine (P1.out _ HL2.out).mono ?_
              rintro e wH ⟨t1, rfl, r1, hb5⟩
              have HT1 := Lib.hid (fl_of r1 (by omega))
              replace HL2 := Lib.hid (HL2.out.below hb5)
              replace HD := Lib.hid (HD.out.below hb5)
              replace HE := Lib.hid (HE.out.below hb5)
              replace HB := Lib.hid (below_chain HB.out hb5)
              clear hb5 r1 P1
              go_wp2_with fail
              refine (R7Same.r7same_any _ _ _ _ _ HD.out HT1.out).mono ?_
              rintro e wI ⟨rfl, m, rfl⟩
              rw [ss]
              replace HL2 : Hid (FL (wH.drewN m) (.slice p G.length cap) G) := Lib.hid HL2.out
              replace HE : Hid (FL (wH.drewN m) (.slice pe PL.length ce) PL) := Lib.hid HE.out
              replace HB : Hid (Below W.heap.size W (wH.drewN m)) := Lib.hid (drewN_below HB.out m)
              clear HT1 HD
              generalize wH.drewN m = wI at *
              go_wp2_with fail
              refine (P2.out _ HL2.out).mono ?_
              rintro e wJ ⟨t2, rfl, r2, hb5⟩
              have HT2 := Lib.hid (fl_of r2 (by omega))
              replace HE := Lib.hid (HE.out.below hb5)
              replace HB := Lib.hid (below_chain HB.out hb5)
              clear hb5 r2 P2
              go_wp2_with fail
              refine (R7Same.r7same_any _ _ _ _ _ HE.out HT2.out).mono ?_
              rintro e wK ⟨rfl, m, rfl⟩
              rw [ps]
              have hB := drewN_below HB.out m
              go_wp2_with fail
              go_ret
              exact ⟨rfl, hB⟩
end Go.Proofs.YtgkmkkgneipabaaDoor.FieldsMemoryW
