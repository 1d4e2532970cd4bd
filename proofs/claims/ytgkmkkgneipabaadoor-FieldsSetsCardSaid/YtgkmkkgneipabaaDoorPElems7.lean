/- Layer 7 of the program: Elements. -/
import Derived.Test.YtgkmkkgneipabaaDoorPGet
import Derived.Test.YtgkmkkgneipabaaDoorPElements
import Derived.Test.YtgkmkkgneipabaaDoorR7Elements
import Derived.Test.YtgkmkkgneipabaaDoorAppendIn
namespace Go.Proofs.YtgkmkkgneipabaaDoor.PElems7
open Go.ChangeShapes Go.WideShapes Go.ChangeAt Go.RowKit LexPure Bytes Ret Rows1 Texts FieldsPure Flds R7Get R7Remove R7Elements PAlike PLib PElements PVals PGet AppendIn Mem Go.Shelf
set_option maxRecDepth 100000
attribute [local go_sem] Oper.semAt_some
def elemsV (l : List V) : List (List UInt8) := l.flatMap (fun x => elements x.1)
theorem elemsV_snoc (pre : List V) (x : V) : elemsV (pre ++ [x]) = elemsV pre ++ elements x.1 := by simp [elemsV]
theorem elemsV_len (pre : List V) : (elemsV pre).length ≤ pre.length * 1048577 := by
  induction pre with
  | nil => simp [elemsV]
  | cons x pre ih =>
    rw [show x :: pre = [x] ++ pre from rfl]
    unfold elemsV at *
    rw [List.flatMap_append, List.length_append, List.flatMap_singleton, List.length_append, List.length_singleton, Nat.add_mul]
    have := elements_len x.1
    have := x.2
    omega
theorem elemsV_vs (G : List HField) (hG : ∀ f ∈ G, f.2.length ≤ 1048576) (n : List UInt8) : elemsV (vs G n) = elems G n := by
  induction G with
  | nil => rfl
  | cons f G ih =>
    have h1 := ih (fun g hg => hG g (List.mem_cons_of_mem _ hg))
    rw [show f :: G = [f] ++ G from rfl, vs_append, vs_one]
    unfold elemsV elems at *
    rw [List.flatMap_append, h1, List.filter_append, List.flatMap_append]
    congr 1
    cases h : hit n f
    · simp [h]
    · simp [h, clamp_val (hG f List.mem_cons_self)]
theorem ownsRow_below2 {w w' : World} {base n size : Nat} {e : TypeId} {v : Value} {xs : List Value} (h : w.ownsRow base e size v n xs) (hb : Below w.heap.size w w') : w'.ownsRow base e size v n xs := row_below h hb
set_option maxHeartbeats 3200000 in
theorem pelems_any (v : Value) (G : List HField) (nm : ByteArray) (hG : Few G) (hle2 : G.length ≤ 1048576) (w : World) (hm : MaxInt w) (hF : FL w v G) :
    Calls Tryd.prog 15 #[v, .string nm] w fun e w' => ∃ v', e = .returned v' ∧ w'.ownsRow w.heap.size 9 1 v' (elems G (toL nm)).length (strs (elems G (toL nm))) ∧ Below w.heap.size w w' := by
  obtain ⟨i0, hi, hz0, hz1, hz2⟩ := info_parts infoS
  have HV := Lib.hid (elemsV_vs G (fun f hf => (few_all hG f hf).2) (toL nm))
  obtain ⟨p, cap, hvv, hle, _⟩ := id hF
  subst hvv
  have HF := Lib.hid hF
  have HG := Lib.hid hG
  have HM := Lib.hid hm
  clear hF hG hm
  refine (callsIn_wide (n := 3)).1 ?_
  refine callsIn_of_wp_marks Tryd.func15 rfl trivial ?_ rfl
  simp only [Tryd.ntmps15, List.size_toArray, List.length_cons, List.length_nil, Nat.reduceAdd, Nat.reduceSub, Array.replicate_succ, Array.replicate_zero, List.push_toArray, List.append_toArray, List.nil_append, List.cons_append]
  gi_wp2_with fail
  refine ⟨trivial, ?_⟩
  refine (callsIn_wide.2 (pvalues_any _ _ _ nm _)).mono ?_
  rintro e w' ⟨rfl, rfl⟩
  gi_wp2
  have b0 := ((Boxed.new w 30 (.slice none 0 0)).alloc (.cells #[.slice p G.length cap] 22)).alloc (.cells #[.string nm] 9)
  have b2 := (Boxed.new (w.alloc (.cells #[.slice none 0 0] 30)) 22 (.slice p G.length cap)).alloc (.cells #[.string nm] 9)
  have b3 := Boxed.new ((w.alloc (.cells #[.slice none 0 0] 30)).alloc (.cells #[.slice p G.length cap] 22)) 9 (.string nm)
  have hB0 : Below w.heap.size w (((w.alloc (.cells #[.slice none 0 0] 30)).alloc (.cells #[.slice p G.length cap] 22)).alloc (.cells #[.string nm] 9)) :=
    (((Below.refl _ w).alloc (Nat.le_refl _) _).alloc (by simp) _).alloc (by simp; omega) _
  have hsz : (((w.alloc (.cells #[.slice none 0 0] 30)).alloc (.cells #[.slice p G.length cap] 22)).alloc (.cells #[.string nm] 9)).heap.size = w.heap.size + 1 + 1 + 1 := by simp
  simp only [World.size_alloc] at b2 b3
  generalize (((w.alloc (.cells #[.slice none 0 0] 30)).alloc (.cells #[.slice p G.length cap] 22)).alloc (.cells #[.string nm] 9)) = W0 at *
  have hU := (FL.under HF.out).below hB0
  clear HF
  refine wpIn_rangeFunc_ownG rfl (by omega) (gf := 44) (lb := #[.pointer (some ⟨w.heap.size + 1, 0, none⟩), .pointer (some ⟨w.heap.size + 1 + 1, 0, none⟩)]) rfl trivial (enters_of Tryd.func44 (by kernel_rfl) rfl)
    (vals_stops (3 - 1) (w.heap.size + 1) (w.heap.size + 1 + 1) w.heap.size G HG.out nm (.slice p G.length cap) W0 b2.lt (by omega) b2.cell b3.cell hU) kp_t (kp_b (by omega) b3.lt) (Below.refl _ _) (fun _ => rfl)
    (fun pre W => (∃ v, Boxed W w.heap.size 30 v ∧ W.ownsRow W0.heap.size 9 1 v (elemsV pre).length (strs (elemsV pre)) ∧ True) ∧ Boxed W (w.heap.size + 1 + 1) 9 (.string nm) ∧ W0.heap.size ≤ W.heap.size ∧ Below w.heap.size w W)
    (fun _ _ _ => False)
    (OwnFrom.and (Own.from (holdsRow_own W0.heap.size w.heap.size 30 9 1 (fun pre => (elemsV pre).length) (fun pre => strs (elemsV pre)) (fun _ _ => True)) _) (OwnFrom.and (Own.from (boxed_own _ _ (fun _ => Value.string nm)) _) (OwnFrom.and (fun _ _ _ _ hs hg _ => Nat.le_trans hs hg.size) (ownFrom_below (Nat.le_refl _) (by omega)))))
    (fun _ _ _ _ _ hs _ _ => hs)
    ⟨⟨_, b0, World.ownsRow_nil _ _ _ _, trivial⟩, b3, Nat.le_refl _, hB0⟩
    (fun x => { tmps := #[.slice p G.length cap, .string nm, undef, undef, .slice none 0 0, .pointer (some ⟨w.heap.size, 0, none⟩), .string (ofL x.1), .slice p G.length cap, .string nm, .func (.func 44) #[] #[.pointer (some ⟨w.heap.size + 1, 0, none⟩), .pointer (some ⟨w.heap.size + 1 + 1, 0, none⟩)], .string (ofL x.1), undef, undef, undef, undef, undef], defers := [] }) ?assign ?body ?done ?stop
  case assign =>
    intro l x W K hK
    dsimp only [encV]
    gi_wp2
    exact hK
  case body =>
    rintro l pre x W ⟨⟨v, h0, hrow, _⟩, h3, hW0, hB⟩ hlt
    clear b0 b2 b3 hU HG HV
    have hc := h0.cell
    have hmx : Tryd.prog.follows .mixedOrders = true := by kernel_rfl
    have hE : Calls Tryd.prog 33 #[.string (ofL x.1)] W.drew fun e w' => ∃ v, e = .returned v ∧ w'.ownsRow W.heap.size 9 1 v (elements x.1).length (strs (elements x.1)) ∧ Below W.heap.size W w' := by
      have h := pelements_any (ofL x.1) (by rw [ofL_size]; have := x.2; omega) W.drew (HM.out.below (hB.trans ⟨rfl, rfl, rfl, Nat.le_refl _, fun _ _ => rfl⟩))
      rw [toL_ofL] at h
      refine h.mono ?_
      rintro e w' ⟨v, rfl, hr, hb⟩
      exact ⟨v, rfl, hr, ⟨hb.os, hb.tape, hb.output, hb.size, hb.block⟩⟩
    replace hE := Lib.hid hE
    have hlen : (elemsV pre).length + (elements x.1).length ≤ 1099512676352 := by
      have h1 := elemsV_len (pre ++ [x])
      rw [elemsV_snoc, List.length_append, List.length_append, List.length_singleton] at h1
      have h2 : pre.length + 1 ≤ 1048576 := by omega
      have h3 := Nat.mul_le_mul_right 1048577 h2
      omega
    have hX : Hid (strs (elemsV (pre ++ [x])) = strs (elemsV pre) ++ strs (elements x.1) ∧ (elemsV (pre ++ [x])).length = (elemsV pre).length + (elements x.1).length) := Lib.hid ⟨by rw [elemsV_snoc, strs_append], by rw [elemsV_snoc, List.length_append]⟩
    gi_wp2
    refine wpIn_region_any hmx ?_
    change wpAnyIn _ _ _ _ _ _ _ _ _ (World.drew _)
    refine wpAnyIn_ready (rs := [0, 1]) (by kernel_rfl) (by simp) (AllReadyIn.cons rfl (fun K hK => ?_) (AllReadyIn.cons rfl (fun K hK => ?_) AllReadyIn.nil))
    · go_simp
      refine hK _ _ ?_
      clear hK K
      refine wpAnyIn_ready (rs := [1]) (by kernel_rfl) (by simp) (AllReadyIn.cons rfl (fun K hK => ?_) AllReadyIn.nil)
      go_simp
      refine hK _ _ ?_
      clear hK K
      refine wpAnyIn_ready (rs := [2]) (by kernel_rfl) (by simp) (AllReadyIn.cons rfl (fun K hK => ?_) AllReadyIn.nil)
      go_simp
      refine ⟨trivial, ?_⟩
      refine (CallsIn.inRound l (callsIn_wide.2 hE.out)).mono ?_
      rintro e w' ⟨v3, rfl, hr3, hb3⟩
      refine hK _ _ ?_
      clear hK K
      have hrow1 := ownsRow_below2 hrow hb3
      refine wpAnyIn_ready (rs := [3]) (by kernel_rfl) (by simp) (AllReadyIn.cons rfl (fun K hK => ?_) AllReadyIn.nil)
      rw [if_pos (by rfl)]
      refine wpIn_append_row _ _ 30 rfl W0.heap.size 9 i0 (.string ByteArray.empty) 1 16 Tryd.underlying30 hi hz0 hz1 hz2 rfl (by decide) v _ _ rfl hrow1 v3 W.heap.size _ _ rfl hr3 (strs_cells _) (by simp only [maxLen]; omega) (by omega) (Nat.le_trans hW0 hb3.size) (fun v4 w4 hown4 hg4 => hK _ _ ?_)
      clear hK K
      obtain ⟨q1, q2, q3, q4, q5, q6⟩ := appended (n₀ := w.heap.size) h0 (by decide) hrow (by omega) hW0 (Nat.le_refl _) hb3 hrow1 hown4 hg4
      obtain ⟨p4, cap4, rfl, _⟩ := row_form hown4
      have qc := q1.cell
      have qf := q1.frozen
      have q7 := q6 _ _ _ h3 (by omega) (by omega)
      have HR := Lib.hid (And.intro (q4.from W0.heap.size) (And.intro q5 (And.intro q2 (And.intro q3 q7))))
      clear q1 q2 q3 q4 q5 q6 q7 hown4 hg4 hr3 hb3 hrow1 h0 hrow hc h3
      refine wpAnyIn_ready (rs := [4]) (by kernel_rfl) (by simp) (AllReadyIn.cons rfl (fun K hK => ?_) AllReadyIn.nil)
      go_simp
      refine hK _ _ ?_
      clear hK K
      refine wpAnyIn_done (by kernel_rfl) ?_ _
      gi_wp2
      obtain ⟨r1, r2, r3, r4, r5⟩ := HR.out; exact ⟨r1, ⟨r2, fun _ => r5.cell⟩, ⟨_, r3, by rw [hX.out.1, hX.out.2]; exact r4, trivial⟩, r5, Nat.le_trans hW0 r2.size, hB.trans r2⟩
    · go_simp
      refine hK _ _ ?_
      clear hK K
      refine wpAnyIn_ready (rs := [0, 2]) (by kernel_rfl) (by simp) (AllReadyIn.cons rfl (fun K hK => ?_) (AllReadyIn.cons rfl (fun K hK => ?_) AllReadyIn.nil))
      · go_simp
        refine hK _ _ ?_
        clear hK K
        refine wpAnyIn_ready (rs := [2]) (by kernel_rfl) (by simp) (AllReadyIn.cons rfl (fun K hK => ?_) AllReadyIn.nil)
        go_simp
        refine ⟨trivial, ?_⟩
        refine (CallsIn.inRound l (callsIn_wide.2 hE.out)).mono ?_
        rintro e w' ⟨v3, rfl, hr3, hb3⟩
        refine hK _ _ ?_
        clear hK K
        have hrow1 := ownsRow_below2 hrow hb3
        refine wpAnyIn_ready (rs := [3]) (by kernel_rfl) (by simp) (AllReadyIn.cons rfl (fun K hK => ?_) AllReadyIn.nil)
        rw [if_pos (by rfl)]
        refine wpIn_append_row _ _ 30 rfl W0.heap.size 9 i0 (.string ByteArray.empty) 1 16 Tryd.underlying30 hi hz0 hz1 hz2 rfl (by decide) v _ _ rfl hrow1 v3 W.heap.size _ _ rfl hr3 (strs_cells _) (by simp only [maxLen]; omega) (by omega) (Nat.le_trans hW0 hb3.size) (fun v4 w4 hown4 hg4 => hK _ _ ?_)
        clear hK K
        obtain ⟨q1, q2, q3, q4, q5, q6⟩ := appended (n₀ := w.heap.size) h0 (by decide) hrow (by omega) hW0 (Nat.le_refl _) hb3 hrow1 hown4 hg4
        obtain ⟨p4, cap4, rfl, _⟩ := row_form hown4
        have qc := q1.cell
        have qf := q1.frozen
        have q7 := q6 _ _ _ h3 (by omega) (by omega)
        have HR := Lib.hid (And.intro (q4.from W0.heap.size) (And.intro q5 (And.intro q2 (And.intro q3 q7))))
        clear q1 q2 q3 q4 q5 q6 q7 hown4 hg4 hr3 hb3 hrow1 h0 hrow hc h3
        refine wpAnyIn_ready (rs := [4]) (by kernel_rfl) (by simp) (AllReadyIn.cons rfl (fun K hK => ?_) AllReadyIn.nil)
        go_simp
        refine hK _ _ ?_
        clear hK K
        refine wpAnyIn_done (by kernel_rfl) ?_ _
        gi_wp2
        obtain ⟨r1, r2, r3, r4, r5⟩ := HR.out; exact ⟨r1, ⟨r2, fun _ => r5.cell⟩, ⟨_, r3, by rw [hX.out.1, hX.out.2]; exact r4, trivial⟩, r5, Nat.le_trans hW0 r2.size, hB.trans r2⟩
      · go_simp
        refine ⟨trivial, ?_⟩
        refine (CallsIn.inRound l (callsIn_wide.2 hE.out)).mono ?_
        rintro e w' ⟨v3, rfl, hr3, hb3⟩
        refine hK _ _ ?_
        clear hK K
        have hrow1 := ownsRow_below2 hrow hb3
        have hc3 := (h0.kept (show W.grownBy w' none from ⟨hb3.os, hb3.tape, hb3.output, hb3.size, fun k hk _ => hb3.block k hk⟩) (by simp)).cell
        refine wpAnyIn_ready (rs := [0]) (by kernel_rfl) (by simp) (AllReadyIn.cons rfl (fun K hK => ?_) AllReadyIn.nil)
        go_simp
        refine hK _ _ ?_
        clear hK K
        refine wpAnyIn_ready (rs := [3]) (by kernel_rfl) (by simp) (AllReadyIn.cons rfl (fun K hK => ?_) AllReadyIn.nil)
        rw [if_pos (by rfl)]
        refine wpIn_append_row _ _ 30 rfl W0.heap.size 9 i0 (.string ByteArray.empty) 1 16 Tryd.underlying30 hi hz0 hz1 hz2 rfl (by decide) v _ _ rfl hrow1 v3 W.heap.size _ _ rfl hr3 (strs_cells _) (by simp only [maxLen]; omega) (by omega) (Nat.le_trans hW0 hb3.size) (fun v4 w4 hown4 hg4 => hK _ _ ?_)
        clear hK K
        obtain ⟨q1, q2, q3, q4, q5, q6⟩ := appended (n₀ := w.heap.size) h0 (by decide) hrow (by omega) hW0 (Nat.le_refl _) hb3 hrow1 hown4 hg4
        obtain ⟨p4, cap4, rfl, _⟩ := row_form hown4
        have qc := q1.cell
        have qf := q1.frozen
        have q7 := q6 _ _ _ h3 (by omega) (by omega)
        have HR := Lib.hid (And.intro (q4.from W0.heap.size) (And.intro q5 (And.intro q2 (And.intro q3 q7))))
        clear q1 q2 q3 q4 q5 q6 q7 hown4 hg4 hr3 hb3 hrow1 h0 hrow hc h3
        refine wpAnyIn_ready (rs := [4]) (by kernel_rfl) (by simp) (AllReadyIn.cons rfl (fun K hK => ?_) AllReadyIn.nil)
        go_simp
        refine hK _ _ ?_
        clear hK K
        refine wpAnyIn_done (by kernel_rfl) ?_ _
        gi_wp2
        obtain ⟨r1, r2, r3, r4, r5⟩ := HR.out; exact ⟨r1, ⟨r2, fun _ => r5.cell⟩, ⟨_, r3, by rw [hX.out.1, hX.out.2]; exact r4, trivial⟩, r5, Nat.le_trans hW0 r2.size, hB.trans r2⟩
  case done =>
    rintro D ys W hD rfl ⟨⟨v, h0, hrow, _⟩, h3, _, hB⟩ hK
    have hc := h0.cell
    clear b0 b2 b3 hU HG
    gi_wp2
    refine ⟨by simp, .inl ⟨_, _, rfl, run_takeDeferred hK, ?_⟩⟩
    rw [HV.out] at hrow
    exact ⟨_, results_tmp rfl _ _ _, v, rfl, ownsRow_mono (ownsRow_putObj hrow _ hK rfl) (by omega), hB.trans (belowK_b (w := w) (Nat.le_refl _) W D _ _ (by omega) hK rfl rfl)⟩
  case stop =>
    rintro D c pre W _ _ h _
    exact h.elim
end Go.Proofs.YtgkmkkgneipabaaDoor.PElems7
