/- Layer 7 of the program: Has. -/
import Derived.Test.YtgkmkkgneipabaaDoorPElems7
import Derived.Test.YtgkmkkgneipabaaDoorPFindT
import Derived.Test.YtgkmkkgneipabaaDoorR7Has
import Derived.Laws.EntriesVeiled
namespace Go.Proofs.YtgkmkkgneipabaaDoor.PHas7
open Go.ChangeShapes Go.WideShapes Go.ChangeAt Go.RowKit LexPure Bytes Ret Rows1 Texts FieldsPure Flds R7Get R7Remove R7Elements PAlike PLib PElements PVals PGet PElems7 LexFlat Mem Go.Shelf
set_option maxRecDepth 100000
attribute [local go_sem] Oper.semAt_some
set_option maxHeartbeats 1600000 in
theorem phas1_any (a x : ByteArray) (ha : a.size ≤ maxLen) (bx : Nat) (w : World) (hx : w.cell? ⟨bx, 0, none⟩ = some (.string x)) :
    Calls Tryd.prog 35 #[.string a, .pointer (some ⟨bx, 0, none⟩)] w fun e w' => e = .returned (.bool (alike (toL a) (toL x))) ∧ Below w.heap.size w w' := by
  have HA := Lib.hid (fun w => palike_any a x ha w)
  go_enter Tryd.func35, Tryd.ntmps35
  go_wp2_with fail
  refine (HA.out _).mono ?_
  rintro e w2 ⟨rfl, hb2⟩
  have HB := Lib.hid hb2
  clear hb2 hx
  go_wp2_with fail
  go_ret
  exact ⟨rfl, HB.out⟩
def anyV (l : List V) (x : List UInt8) : Bool := l.any (fun v => (elements v.1).any (fun e => alike e x))
theorem anyV_snoc (pre : List V) (v : V) (x : List UInt8) : anyV (pre ++ [v]) x = (anyV pre x || (elements v.1).any (fun e => alike e x)) := by simp [anyV]
theorem anyV_elems (l : List V) (x : List UInt8) : anyV l x = (elemsV l).any (fun e => alike e x) := by
  unfold anyV elemsV
  rw [List.any_flatMap]
theorem anyV_prefix {pre l : List V} {x : List UInt8} (h : pre <+: l) (ha : anyV pre x = true) : anyV l x = true := by
  obtain ⟨r, rfl⟩ := h
  unfold anyV at *
  rw [List.any_append, ha]
  rfl
theorem elements_few (s : List UInt8) (h : s.length ≤ 1048576) : (elements s).length ≤ 1048577 := by have := elements_len s; omega
theorem grown_row {w w' : World} (h : Below w.heap.size w w') (row : Option Nat) : w.grownBy w' row := ⟨h.os, h.tape, h.output, h.size, fun k hk _ => h.block k hk⟩
theorem Boxed.low {W W' : World} {B : Nat} {t : TypeId} {v : Value} (h : Boxed W B t v) (hb : Below W.heap.size W W') : Boxed W' B t v := h.kept (grown_row hb none) (by simp)
set_option maxHeartbeats 3200000 in
theorem phas_any (v : Value) (G : List HField) (nm x : ByteArray) (hG : Few G) (w : World) (hm : MaxInt w) (hF : FL w v G) :
    Calls Tryd.prog 17 #[v, .string nm, .string x] w fun e w' => e = .returned (.bool (hasE G (toL nm) (toL x))) ∧ Below w.heap.size w w' := by
  have HV : Hid (hasE G (toL nm) (toL x) = anyV (vs G (toL nm)) (toL x)) := Lib.hid (by rw [anyV_elems, elemsV_vs G (fun f hf => (few_all hG f hf).2) (toL nm)]; rfl)
  obtain ⟨p, cap, hvv, hle, _⟩ := id hF
  subst hvv
  have HF := Lib.hid hF
  have HG := Lib.hid hG
  have HM := Lib.hid hm
  clear hF hG hm
  refine (callsIn_wide (n := 3)).1 ?_
  refine callsIn_of_wp_marks Tryd.func17 rfl trivial ?_ rfl
  simp only [Tryd.ntmps17, List.size_toArray, List.length_cons, List.length_nil, Nat.reduceAdd, Nat.reduceSub, Array.replicate_succ, Array.replicate_zero, List.push_toArray, List.append_toArray, List.nil_append, List.cons_append]
  gi_wp2_with fail
  refine ⟨trivial, ?_⟩
  refine (callsIn_wide.2 (pvalues_any _ _ _ nm _)).mono ?_
  rintro e w' ⟨rfl, rfl⟩
  gi_wp2
  have bE := ((((Boxed.new w 9 (.string x)).alloc (.cells #[.bool false] 4)).alloc (.cells #[.func (.func 35) #[] #[.pointer (some ⟨w.heap.size, 0, none⟩)]] 49)).alloc (.cells #[.slice p G.length cap] 22)).alloc (.cells #[.string nm] 9)
  have bR := (((Boxed.new (w.alloc (.cells #[.string x] 9)) 4 (.bool false)).alloc (.cells #[.func (.func 35) #[] #[.pointer (some ⟨w.heap.size, 0, none⟩)]] 49)).alloc (.cells #[.slice p G.length cap] 22)).alloc (.cells #[.string nm] 9)
  have bF := ((Boxed.new ((w.alloc (.cells #[.string x] 9)).alloc (.cells #[.bool false] 4)) 49 (.func (.func 35) #[] #[.pointer (some ⟨w.heap.size, 0, none⟩)])).alloc (.cells #[.slice p G.length cap] 22)).alloc (.cells #[.string nm] 9)
  have b2 := (Boxed.new (((w.alloc (.cells #[.string x] 9)).alloc (.cells #[.bool false] 4)).alloc (.cells #[.func (.func 35) #[] #[.pointer (some ⟨w.heap.size, 0, none⟩)]] 49)) 22 (.slice p G.length cap)).alloc (.cells #[.string nm] 9)
  have b3 := Boxed.new ((((w.alloc (.cells #[.string x] 9)).alloc (.cells #[.bool false] 4)).alloc (.cells #[.func (.func 35) #[] #[.pointer (some ⟨w.heap.size, 0, none⟩)]] 49)).alloc (.cells #[.slice p G.length cap] 22)) 9 (.string nm)
  have hB0 : Below w.heap.size w (((((w.alloc (.cells #[.string x] 9)).alloc (.cells #[.bool false] 4)).alloc (.cells #[.func (.func 35) #[] #[.pointer (some ⟨w.heap.size, 0, none⟩)]] 49)).alloc (.cells #[.slice p G.length cap] 22)).alloc (.cells #[.string nm] 9)) :=
    (((((Below.refl _ w).alloc (Nat.le_refl _) _).alloc (by simp) _).alloc (by simp; omega) _).alloc (by simp; omega) _).alloc (by simp; omega) _
  have hsz : (((((w.alloc (.cells #[.string x] 9)).alloc (.cells #[.bool false] 4)).alloc (.cells #[.func (.func 35) #[] #[.pointer (some ⟨w.heap.size, 0, none⟩)]] 49)).alloc (.cells #[.slice p G.length cap] 22)).alloc (.cells #[.string nm] 9)).heap.size = w.heap.size + 1 + 1 + 1 + 1 + 1 := by simp
  simp only [World.size_alloc] at bR bF b2 b3
  generalize (((((w.alloc (.cells #[.string x] 9)).alloc (.cells #[.bool false] 4)).alloc (.cells #[.func (.func 35) #[] #[.pointer (some ⟨w.heap.size, 0, none⟩)]] 49)).alloc (.cells #[.slice p G.length cap] 22)).alloc (.cells #[.string nm] 9)) = W0 at *
  have hU := (FL.under HF.out).below hB0
  clear HF
  refine wpIn_rangeFunc_ownG rfl (by omega) (gf := 44) (lb := #[.pointer (some ⟨w.heap.size + 1 + 1 + 1, 0, none⟩), .pointer (some ⟨w.heap.size + 1 + 1 + 1 + 1, 0, none⟩)]) rfl trivial (enters_of Tryd.func44 (by kernel_rfl) rfl)
    (vals_stops (3 - 1) (w.heap.size + 1 + 1 + 1) (w.heap.size + 1 + 1 + 1 + 1) w.heap.size G HG.out nm (.slice p G.length cap) W0 b2.lt (by omega) b2.cell b3.cell hU) kp_t (kp_b (by omega) b3.lt) (Below.refl _ _) (fun _ => rfl)
    (fun pre W => anyV pre (toL x) = false ∧ Boxed W w.heap.size 9 (.string x) ∧ Boxed W (w.heap.size + 1) 4 (.bool false) ∧ Boxed W (w.heap.size + 1 + 1) 49 (.func (.func 35) #[] #[.pointer (some ⟨w.heap.size, 0, none⟩)]) ∧ Boxed W (w.heap.size + 1 + 1 + 1 + 1) 9 (.string nm) ∧ Below w.heap.size w W)
    (fun c pre W => (c = .ret ∧ anyV pre (toL x) = true) ∧ Boxed W (w.heap.size + 1) 4 (.bool true) ∧ Below w.heap.size w W)
    (OwnFrom.and (ownFrom_pure _ _) (OwnFrom.and (Own.from (boxed_own _ _ (fun _ => Value.string x)) _) (OwnFrom.and (Own.from (boxed_own _ _ (fun _ => Value.bool false)) _) (OwnFrom.and (Own.from (boxed_own _ _ (fun _ => Value.func (.func 35) #[] #[.pointer (some ⟨w.heap.size, 0, none⟩)])) _) (OwnFrom.and (Own.from (boxed_own _ _ (fun _ => Value.string nm)) _) (ownFrom_below (Nat.le_refl _) (by omega)))))))
    (fun _ => OwnFrom.and (ownFrom_pure _ _) (OwnFrom.and (Own.from (boxed_own _ _ (fun _ => Value.bool true)) _) (ownFrom_below (Nat.le_refl _) (by omega))))
    ⟨rfl, bE, bR, bF, b3, hB0⟩
    (fun y => { tmps := #[.slice p G.length cap, .string nm, .string x, undef, undef, .pointer (some ⟨w.heap.size, 0, none⟩), .pointer (some ⟨w.heap.size + 1, 0, none⟩), .pointer (some ⟨w.heap.size + 1 + 1, 0, none⟩), .string (ofL y.1), .func (.func 35) #[] #[.pointer (some ⟨w.heap.size, 0, none⟩)], .slice p G.length cap, .string nm, .func (.func 44) #[] #[.pointer (some ⟨w.heap.size + 1 + 1 + 1, 0, none⟩), .pointer (some ⟨w.heap.size + 1 + 1 + 1 + 1, 0, none⟩)], .string (ofL y.1), undef, undef, undef, undef], defers := [] }) ?assign ?body ?done ?stop
  case assign =>
    intro l y W K hK
    dsimp only [encV]
    gi_wp2
    exact hK
  case body =>
    rintro l pre y W ⟨ha, hE, hR, hFn, h3, hB⟩ hlt
    clear bE bR bF b2 b3 hU HG HV
    have hmx : Tryd.prog.follows .mixedOrders = true := by kernel_rfl
    have hcf := hFn.cell
    have hEl : Calls Tryd.prog 33 #[.string (ofL y.1)] W.drew fun e w' => ∃ v, e = .returned v ∧ Texts w' v (elements y.1) ∧ Below W.heap.size W w' := by
      have h := pelements_any (ofL y.1) (by rw [ofL_size]; have := y.2; omega) W.drew (HM.out.below (hB.trans ⟨rfl, rfl, rfl, Nat.le_refl _, fun _ _ => rfl⟩))
      rw [toL_ofL] at h
      refine h.mono ?_
      rintro e w' ⟨v, rfl, hr, hb⟩
      exact ⟨v, rfl, texts_of hr, ⟨hb.os, hb.tape, hb.output, hb.size, hb.block⟩⟩
    replace hEl := Lib.hid hEl
    have hCo : ∀ w' v3, Below W.heap.size W w' → Texts w' v3 (elements y.1) → Calls Tryd.prog 37 #[v3, .func (.func 35) #[] #[.pointer (some ⟨w.heap.size, 0, none⟩)]] w' fun e w2 => e = .returned (.bool ((elements y.1).any (fun e => alike e (toL x)))) ∧ Below w'.heap.size w' w2 := fun w' v3 hb hT => by
      have hc := (Boxed.low hE hb).cell
      have hbx := World.block_lt_of_cell? _ _ hc
      exact PFindT.contains_any 35 w.heap.size (enters_of Tryd.func35 (by kernel_rfl) rfl) (fun e => alike e (toL x)) v3 (elements y.1) (by have := elements_few y.1 y.2; omega) w' hT (fun j hj W3 hW3 => by
        have h := phas1_any (ofL (elements y.1)[j]) x (by rw [ofL_size]; have := elements_short (List.getElem_mem hj); have := y.2; unfold maxLen; omega) w.heap.size W3 ((hW3.cell (p := ⟨w.heap.size, 0, none⟩) hbx).trans hc)
        rw [toL_ofL] at h
        exact h)
    replace hCo := Lib.hid hCo
    have hsn := Lib.hid (anyV_snoc pre y (toL x))
    have hfin : ∀ w', Below W.heap.size W w' → KeepsFrom W0.heap.size W w' ∧ Below w.heap.size W w' ∧ Boxed w' w.heap.size 9 (.string x) ∧ Boxed w' (w.heap.size + 1) 4 (.bool false) ∧ Boxed w' (w.heap.size + 1 + 1) 49 (.func (.func 35) #[] #[.pointer (some ⟨w.heap.size, 0, none⟩)]) ∧ Boxed w' (w.heap.size + 1 + 1 + 1 + 1) 9 (.string nm) := fun w' hb =>
      ⟨KeepsFrom.of_grownBy (grown_row hb none) (fun j e => by cases e), hb.mono hB.size, Boxed.low hE hb, Boxed.low hR hb, Boxed.low hFn hb, Boxed.low h3 hb⟩
    replace hfin := Lib.hid hfin
    gi_wp2
    refine wpIn_region_any hmx ?_
    change wpAnyIn _ _ _ _ _ _ _ _ _ (World.drew _)
    refine wpAnyIn_ready (rs := [0, 2]) (by kernel_rfl) (by simp) (AllReadyIn.cons rfl (fun K hK => ?_) (AllReadyIn.cons rfl (fun K hK => ?_) AllReadyIn.nil))
    · go_simp
      refine hK _ _ ?_
      clear hK K
      refine wpAnyIn_ready (rs := [1, 2]) (by kernel_rfl) (by simp) (AllReadyIn.cons rfl (fun K hK => ?_) (AllReadyIn.cons rfl (fun K hK => ?_) AllReadyIn.nil))
      · go_simp
        refine ⟨trivial, ?_⟩
        refine (CallsIn.inRound l (callsIn_wide.2 hEl.out)).mono ?_
        rintro e w' ⟨v3, rfl, hT3, hb3⟩
        refine hK _ _ ?_
        clear hK K
        have hcf3 := (Boxed.low hFn hb3).cell
        have hCo3 := Lib.hid (hCo.out w' v3 hb3 hT3)
        obtain ⟨p3, cap3, rfl, _⟩ := hT3
        refine wpAnyIn_ready (rs := [2]) (by kernel_rfl) (by simp) (AllReadyIn.cons rfl (fun K hK => ?_) AllReadyIn.nil)
        go_simp
        refine hK _ _ ?_
        clear hK K
        refine wpAnyIn_ready (rs := [3]) (by kernel_rfl) (by simp) (AllReadyIn.cons rfl (fun K hK => ?_) AllReadyIn.nil)
        go_simp
        refine ⟨trivial, ?_⟩
        refine (CallsIn.inRound l (callsIn_wide.2 hCo3.out)).mono ?_
        rintro e w6 ⟨rfl, hb6⟩
        refine hK _ _ ?_
        clear hK K
        have hb7 := below_chain hb3 hb6
        have HR := Lib.hid (hfin.out w6 hb7)
        have hcr := (hfin.out w6 hb7).2.2.2.1.cell
        have hfr := (hfin.out w6 hb7).2.2.2.1.frozen
        clear hb3 hb6 hcf3 hCo3 hcf hb7 hR hE hFn h3
        refine wpAnyIn_done (by kernel_rfl) ?_ _
        cases hq : (elements y.1).any (fun e => alike e (toL x))
        · rw [hq, ha] at hsn
          gi_wp2
          obtain ⟨r1, r2, r3, r4, r5, r6⟩ := HR.out
          exact ⟨r1, ⟨r2, fun _ => r6.cell⟩, hsn.out, r3, r4, r5, r6, hB.trans r2⟩
        · rw [hq, Bool.or_true] at hsn
          gi_wp2
          obtain ⟨r1, r2, r3, r4, r5, r6⟩ := HR.out
          exact ⟨r1.trans ((KeepsOthers.setCell _ _ _).from _), ⟨rfl, hsn.out⟩, r4.set _, (hB.trans r2).setCell (p := ⟨w.heap.size + 1, 0, none⟩) (by simp) _⟩
      · go_simp
        refine hK _ _ ?_
        clear hK K
        refine wpAnyIn_ready (rs := [1]) (by kernel_rfl) (by simp) (AllReadyIn.cons rfl (fun K hK => ?_) AllReadyIn.nil)
        go_simp
        refine ⟨trivial, ?_⟩
        refine (CallsIn.inRound l (callsIn_wide.2 hEl.out)).mono ?_
        rintro e w' ⟨v3, rfl, hT3, hb3⟩
        refine hK _ _ ?_
        clear hK K
        have hcf3 := (Boxed.low hFn hb3).cell
        have hCo3 := Lib.hid (hCo.out w' v3 hb3 hT3)
        obtain ⟨p3, cap3, rfl, _⟩ := hT3
        refine wpAnyIn_ready (rs := [3]) (by kernel_rfl) (by simp) (AllReadyIn.cons rfl (fun K hK => ?_) AllReadyIn.nil)
        go_simp
        refine ⟨trivial, ?_⟩
        refine (CallsIn.inRound l (callsIn_wide.2 hCo3.out)).mono ?_
        rintro e w6 ⟨rfl, hb6⟩
        refine hK _ _ ?_
        clear hK K
        have hb7 := below_chain hb3 hb6
        have HR := Lib.hid (hfin.out w6 hb7)
        have hcr := (hfin.out w6 hb7).2.2.2.1.cell
        have hfr := (hfin.out w6 hb7).2.2.2.1.frozen
        clear hb3 hb6 hcf3 hCo3 hcf hb7 hR hE hFn h3
        refine wpAnyIn_done (by kernel_rfl) ?_ _
        cases hq : (elements y.1).any (fun e => alike e (toL x))
        · rw [hq, ha] at hsn
          gi_wp2
          obtain ⟨r1, r2, r3, r4, r5, r6⟩ := HR.out
          exact ⟨r1, ⟨r2, fun _ => r6.cell⟩, hsn.out, r3, r4, r5, r6, hB.trans r2⟩
        · rw [hq, Bool.or_true] at hsn
          gi_wp2
          obtain ⟨r1, r2, r3, r4, r5, r6⟩ := HR.out
          exact ⟨r1.trans ((KeepsOthers.setCell _ _ _).from _), ⟨rfl, hsn.out⟩, r4.set _, (hB.trans r2).setCell (p := ⟨w.heap.size + 1, 0, none⟩) (by simp) _⟩
    · go_simp
      refine hK _ _ ?_
      clear hK K
      refine wpAnyIn_ready (rs := [0]) (by kernel_rfl) (by simp) (AllReadyIn.cons rfl (fun K hK => ?_) AllReadyIn.nil)
      go_simp
      refine hK _ _ ?_
      clear hK K
      refine wpAnyIn_ready (rs := [1]) (by kernel_rfl) (by simp) (AllReadyIn.cons rfl (fun K hK => ?_) AllReadyIn.nil)
      go_simp
      refine ⟨trivial, ?_⟩
      refine (CallsIn.inRound l (callsIn_wide.2 hEl.out)).mono ?_
      rintro e w' ⟨v3, rfl, hT3, hb3⟩
      refine hK _ _ ?_
      clear hK K
      have hcf3 := (Boxed.low hFn hb3).cell
      have hCo3 := Lib.hid (hCo.out w' v3 hb3 hT3)
      obtain ⟨p3, cap3, rfl, _⟩ := hT3
      refine wpAnyIn_ready (rs := [3]) (by kernel_rfl) (by simp) (AllReadyIn.cons rfl (fun K hK => ?_) AllReadyIn.nil)
      go_simp
      refine ⟨trivial, ?_⟩
      refine (CallsIn.inRound l (callsIn_wide.2 hCo3.out)).mono ?_
      rintro e w6 ⟨rfl, hb6⟩
      refine hK _ _ ?_
      clear hK K
      have hb7 := below_chain hb3 hb6
      have HR := Lib.hid (hfin.out w6 hb7)
      have hcr := (hfin.out w6 hb7).2.2.2.1.cell
      have hfr := (hfin.out w6 hb7).2.2.2.1.frozen
      clear hb3 hb6 hcf3 hCo3 hcf hb7 hR hE hFn h3
      refine wpAnyIn_done (by kernel_rfl) ?_ _
      cases hq : (elements y.1).any (fun e => alike e (toL x))
      · rw [hq, ha] at hsn
        gi_wp2
        obtain ⟨r1, r2, r3, r4, r5, r6⟩ := HR.out
        exact ⟨r1, ⟨r2, fun _ => r6.cell⟩, hsn.out, r3, r4, r5, r6, hB.trans r2⟩
      · rw [hq, Bool.or_true] at hsn
        gi_wp2
        obtain ⟨r1, r2, r3, r4, r5, r6⟩ := HR.out
        exact ⟨r1.trans ((KeepsOthers.setCell _ _ _).from _), ⟨rfl, hsn.out⟩, r4.set _, (hB.trans r2).setCell (p := ⟨w.heap.size + 1, 0, none⟩) (by simp) _⟩
  case done =>
    rintro D ys W hD rfl ⟨ha, hE, hR, hFn, h3, hB⟩ hK
    have hcr := hR.cell
    have hfr := hR.frozen
    clear bE bR bF b2 b3 hU HG
    gi_wp2
    have hK' := (KeepsOthers.setCell W ⟨w.heap.size + 1, 0, none⟩ (.bool false)).same D _ hK rfl
    have hBd : Below w.heap.size w (W.setCell ⟨w.heap.size + 1, 0, none⟩ (.bool false)) := hB.setCell (p := ⟨w.heap.size + 1, 0, none⟩) (by simp) _
    refine ⟨by simp, .inl ⟨_, _, rfl, run_takeDeferred hK', ?_⟩⟩
    have hc5 := cell_kept (hR.set (.bool false)).cell (grownBy_putObj' _ D (.deferred none)) (fun r e => by cases e; exact ⟨_, hK', rfl⟩)
    refine ⟨.bool false, ?_, by rw [HV.out, ha], hBd.trans (belowK_b (w := w) (Nat.le_refl _) _ D _ _ (by omega) hK' rfl rfl)⟩
    simp [results, Tryd.f17, go_sem, hc5]
  case stop =>
    rintro D c pre W hD hSp ⟨⟨rfl, ha⟩, hR, hB⟩ hK
    have hfull := anyV_prefix hSp ha
    clear bE bR bF b2 b3 hU HG
    gi_wp2
    refine ⟨by simp, .inl ⟨_, _, rfl, run_takeDeferred hK, ?_⟩⟩
    have hc5 := cell_kept hR.cell (grownBy_putObj' _ D (.deferred none)) (fun r e => by cases e; exact ⟨_, hK, rfl⟩)
    refine ⟨.bool true, ?_, by rw [HV.out, hfull], hB.trans (belowK_b (w := w) (Nat.le_refl _) W D _ _ (by omega) hK rfl rfl)⟩
    simp [results, Tryd.f17, go_sem, hc5]
end Go.Proofs.YtgkmkkgneipabaaDoor.PHas7
