/- Layer 10 of the program: a line's end and a byte of a line (endLine, readByte). -/
import Derived.Test.YtlgohmghjffiaaaDoorPChEnd
import Derived.Maps.AppendAt
namespace Go.Proofs.YtlgohmghjffiaaaDoor.PChLine
open Go.ChangeShapes Go.WideShapes Go.ChangeAt Go.RowKit Bytes LexPure LexNum HeadPure CutAt ChunkPure ChunkText ChObj Mem Step Ret Rows1 PChFit PChEnd
set_option maxRecDepth 20000
theorem CSF.then {w W w' : World} {F F1 : Nat → Prop} {g : Nat} {most : Int} {r : Raw} {v : Value} {m : M} (h : CS w F W F1 g most r v) (k : CSF W F1 w' g most m) : CSF w F w' g most m := by
  obtain ⟨F', r', v', k1, k2⟩ := k
  exact ⟨F', r', v', h.then k1, k2⟩
set_option maxHeartbeats 1600000 in
theorem peline_any {w : World} {F : Nat → Prop} {g : Nat} {r : Raw} {v : Value} {m : M} (h : Cod w F g m.most r v) (hr : Rel r m) (href : r.ref = 0) (hph : m.ph = .size ∨ m.ph = .after ∨ ∃ n, m.ph = .trail n ∧ n ≤ 32) (hl : m.line.length ≤ 512) (hz : Sane m) :
    Calls Tryd.prog 22 #[.pointer (some ⟨g, 0, none⟩)] w fun e w' => e = .returned (.int .i64 (errN (endLine m))) ∧ CSF w F w' g m.most (endLine m) := by
  have HV := own_string (P := Tryd.prog) (w := w) h.row 31 9 Tryd.underlying31 Tryd.underlying5 Tryd.underlying9
  rw [hr.line] at HV
  have d4 := h.c4
  have d5 := h.c5
  have d6 := h.c6
  have z4 := h.free 4
  have z5 := h.free 5
  have z6 := h.free 6
  have HK : CS w F (((w.setCell ⟨g, 4, none⟩ (.slice none 0 0)).setCell ⟨g, 5, none⟩ (.bool false)).setCell ⟨g, 6, none⟩ (.bool false)) F g m.most { r with line := [], part := false, cr := false } (.slice none 0 0) :=
    (((CS.start h).setLine (.slice none 0 0) [] (World.ownsRow_nil _ _ _ _) (fun b hb => by cases hb) (fun _ => rfl)).set 5 (.bool false) { r with line := [], part := false } rfl rfl).set 6 (.bool false) { r with line := [], part := false, cr := false } rfl rfl
  have HFr : Fresh { r with line := [], part := false, cr := false } m.size := ⟨hr.size, rfl, rfl, rfl, href⟩
  have q2 := HK.cod.c2
  have z2 := HK.cod.free 2
  obtain ⟨L, hL⟩ : ∃ L, L = ofL m.line := ⟨_, rfl⟩
  have tL : toL L = m.line := by rw [hL, toL_ofL]
  have sL : L.size ≤ 512 := by rw [hL, ofL_size]; exact hl
  rw [← hL] at HV
  generalize hW : ((w.setCell ⟨g, 4, none⟩ (.slice none 0 0)).setCell ⟨g, 5, none⟩ (.bool false)).setCell ⟨g, 6, none⟩ (.bool false) = W at *
  have hnx : ({ r with line := [], part := false, cr := false } : Raw).next = r.next := rfl
  dsimp only at q2
  rw [hr.next] at q2
  replace HK := Lib.hid HK
  rcases hph with hp | hp | ⟨n, hp, hn⟩
  · have HE := Lib.hid (pesize_any HK.out.cod HFr (by show r.next = 0; rw [hr.next, hp]; rfl) (hr.none (by rw [hr.next, hp]; decide)) hp L tL sL hz)
    rw [hp] at q2
    unfold phN at q2
    dsimp only at q2
    generalize hEE : endLine m = E at HE ⊢
    clear hEE hL tL sL HFr h hr
    go_enter Tryd.func22, Tryd.ntmps22
    go_wp2_with fail
    refine HE.out.mono ?_
    rintro e w' ⟨rfl, hk⟩
    go_wp2_with fail
    go_ret
    exact ⟨rfl, CSF.then HK.out hk⟩
  · have hE : endLine m = goOn m .size := by unfold endLine; rw [hp]
    rw [hE, show errN (goOn m .size) = 0 from rfl]
    have ht0 : r.trail = 0 := hr.none (by rw [hr.next, hp]; decide)
    have HP : Hid (CSF w F (W.setCell ⟨g, 2, none⟩ (.int .i64 0)) g m.most (goOn m .size)) := Lib.hid
      ⟨F, _, _, HK.out.set 2 (.int .i64 0) { r with line := [], part := false, cr := false, next := 0 } rfl rfl, href, fun _ => ⟨hr.size, rfl, fun n hn => (by cases hn), rfl, rfl, rfl, fun n hn => (by cases hn), fun _ => ht0⟩⟩
    rw [hp] at q2
    unfold phN at q2
    dsimp only at q2
    clear hE hL tL sL HFr h hr
    go_enter Tryd.func22, Tryd.ntmps22
    go_wp2_with fail
    go_ret
    exact ⟨rfl, HP.out⟩
  · have HE := Lib.hid (petrail_any HK.out.cod HFr (by show r.next = 3; rw [hr.next, hp]; rfl) (hr.trail n hp) hp hn L tL sL)
    rw [hp] at q2
    unfold phN at q2
    dsimp only at q2
    generalize hEE : endLine m = E at HE ⊢
    clear hEE hL tL sL HFr h hr
    go_enter Tryd.func22, Tryd.ntmps22
    go_wp2_with fail
    refine HE.out.mono ?_
    rintro e w' ⟨rfl, hk⟩
    go_wp2_with fail
    go_ret
    exact ⟨rfl, CSF.then HK.out hk⟩
/-- append one byte to the line -/
theorem parted_snoc (l : List UInt8) (c : UInt8) : parted (l ++ [c]) = (parted l || (c == 59 || c == 58)) := by
  unfold parted
  simp
theorem infoB : (Tryd.prog.info? 5).map (fun i => (i.zero, i.size, i.bytes)) = some (some (.int .u8 0), 1, 1) := by kernel_rfl
theorem CS.append {w W W4 : World} {F F1 : Nat → Prop} {g : Nat} {most : Int} {r : Raw} {v v4 : Value} {l : List UInt8} (h : CS w F W F1 g most r v) (hg : W.grownBy W4 v.ownBlock) (hrow : W4.ownsRow 0 5 1 v4 l.length (bvs l)) (hat : v4.ownBlock = v.ownBlock ∨ v4.ownBlock = some W.heap.size) (hl : l ≠ []) :
    CS w F (W4.setCell ⟨g, 4, none⟩ v4) (fun k => F1 k ∨ v4.ownBlock = some k) g most { r with line := l } v4 := by
  have hne : ∀ b, v4.ownBlock = some b → b ≠ g := by
    intro b hb
    rcases hat with e | e
    · rw [hb] at e
      exact (h.cod.own b e.symm).2
    · rw [hb] at e
      injection e with e
      have := h.cod.has.lt
      omega
  have hgrow : ∀ k, (F1 k ∨ v4.ownBlock = some k) → F1 k ∨ (W.heap.size ≤ k ∧ k < W4.heap.size) := by
    intro k hk
    rcases hk with hk | hk
    · exact .inl hk
    · rcases hat with e | e
      · exact .inl (h.cod.own k (by rw [← e]; exact hk)).1
      · have hlt := row_lt hrow hk
        rw [hk] at e
        injection e with e
        exact .inr ⟨by omega, hlt⟩
  have hh : Has W4 g 39 (cells most r v) := h.cod.has.grown hg (fun e => (h.cod.own g e.symm).2 rfl)
  have hs : ∀ {W5 : World}, W5 = W4.setCell ⟨g, 4, none⟩ v4 → W5.heap.size = W4.heap.size := fun e => by rw [e]; simp [World.setCell]
  refine ⟨⟨hh.set_ 4 v4, (Step.set_ (F := fun k => k = g) W4 rfl 4 v4).row hrow hne, fun b hb => ⟨.inr hb, hne b hb⟩, .inl h.cod.mine, fun e => absurd e hl, fun k hk => ?_⟩, ?_⟩
  · rw [hs rfl]
    rcases hgrow k hk with h1 | h1
    · exact Nat.lt_of_lt_of_le (h.cod.lt k h1) hg.size
    · exact h1.2
  · refine h.step.trans (((Step.of_grown hg (fun k hk => (h.cod.own k hk).1)).trans (Step.set_ W4 h.cod.mine 4 v4)).regrow (fun k hk => ?_))
    rw [hs rfl]
    exact hgrow k hk
theorem CS.after {w W W4 : World} {F F1 : Nat → Prop} {g : Nat} {most : Int} {r : Raw} {v : Value} (h : CS w F W F1 g most r v) (hg : W.grownBy W4 v.ownBlock) : W4.cell? ⟨g, 4, none⟩ = some v ∧ W4.frozen? ⟨g, 4, none⟩ = false := by
  have hh : Has W4 g 39 (cells most r v) := h.cod.has.grown hg (fun e => (h.cod.own g e.symm).2 rfl)
  exact ⟨hh.cell 4, hh.free 4⟩
theorem CS.setPart {w W : World} {F F' : Nat → Prop} {g : Nat} {most : Int} {r : Raw} {v : Value} (h : CS w F W F' g most r v) (b : Bool) : CS w F (W.setCell ⟨g, 5, none⟩ (.bool b)) F' g most { r with part := b } v :=
  h.set 5 (.bool b) { r with part := b } rfl rfl
set_option maxHeartbeats 1600000 in
theorem prbyte_any {w : World} {F : Nat → Prop} {g : Nat} {r : Raw} {v : Value} {m : M} (h : Cod w F g m.most r v) (hr : Rel r m) (href : r.ref = 0) (hph : m.ph = .size ∨ m.ph = .after ∨ ∃ n, m.ph = .trail n ∧ n ≤ 32) (hl : m.line.length ≤ 512) (hz : Sane m) (c : UInt8) :
    Calls Tryd.prog 17 #[.pointer (some ⟨g, 0, none⟩), .int .u8 (c.toNat : Int)] w fun e w' => e = .returned (.int .i64 (errN (lineStep m c))) ∧ CSF w F w' g m.most (lineStep m c) := by
  have d6 := h.c6
  rw [hr.cr] at d6
  have z6 := h.free 6
  cases hcr : m.cr with
  | true =>
    rw [hcr] at d6
    by_cases hc : c = 10
    · have hS : lineStep m c = endLine m := by unfold lineStep; rw [if_pos hcr, if_pos hc]
      have HE := Lib.hid (peline_any h hr href hph hl hz)
      have hx : (c.toNat : Int) = 10 := (toNat_eq c 10).2 hc
      rw [hS, hx]
      generalize endLine m = E at HE ⊢
      clear hS h hr hc hcr hph
      go_enter Tryd.func17, Tryd.ntmps17
      go_wp2_with fail
      refine HE.out.mono ?_
      rintro e w' ⟨rfl, hk⟩
      go_wp2_with fail
      go_ret
      exact ⟨rfl, hk⟩
    · have hS : lineStep m c = fail m 100 := by unfold lineStep; rw [if_pos hcr, if_neg hc]
      have hx : ¬ (c.toNat : Int) = 10 := fun h => hc ((toNat_eq c 10).1 h)
      have HP : Hid (CSF w F w g m.most (fail m 100)) := Lib.hid ⟨F, r, v, CS.start h, href, fun hg => by cases hg⟩
      rw [hS, errN_fail]
      generalize (c.toNat : Int) = x at *
      clear hS h hr hc hcr hph
      go_enter Tryd.func17, Tryd.ntmps17
      go_wp2_with fail
      go_ret
      exact ⟨rfl, HP.out⟩
  | false =>
    rw [hcr] at d6
    by_cases hc : c = 13
    · have hS : lineStep m c = { m with cr := true } := by unfold lineStep; rw [if_neg (by rw [hcr]; decide), if_pos hc]
      have hx : (c.toNat : Int) = 13 := (toNat_eq c 13).2 hc
      have HP : Hid (CSF w F (w.setCell ⟨g, 6, none⟩ (.bool true)) g m.most { m with cr := true }) := Lib.hid
        ⟨F, _, _, (CS.start h).set 6 (.bool true) { r with cr := true } rfl rfl, href, fun _ => ⟨hr.size, hr.next, hr.left, hr.line, hr.part, rfl, hr.trail, hr.none⟩⟩
      have hen : errN { m with cr := true } = 0 := by
        rcases hph with hp | hp | ⟨n, hp, _⟩ <;> (unfold errN; simp only [hp])
      rw [hS, hx, hen]
      clear hS h hr hc hcr hph hen
      go_enter Tryd.func17, Tryd.ntmps17
      go_wp2_with fail
      go_ret
      exact ⟨rfl, HP.out⟩
    · have hx : ¬ (c.toNat : Int) = 13 := fun h => hc ((toNat_eq c 13).1 h)
      have HF := Lib.hid (pfits_any h hr hl c)
      cases hf : fits m.ph m.line c with
      | false =>
        have hS : lineStep m c = fail m 100 := by unfold lineStep; rw [if_neg (by rw [hcr]; decide), if_neg hc, if_neg (by rw [hf]; decide)]
        rw [hf] at HF
        have HP : Hid (∀ w', Below w.heap.size w w' → CSF w F w' g m.most (fail m 100)) := Lib.hid (fun w' hb => ⟨F, r, v, (CS.start h).call hb, href, fun hg => by cases hg⟩)
        rw [hS, errN_fail]
        generalize (c.toNat : Int) = x at *
        clear hS h hr hc hcr hph hf
        go_enter Tryd.func17, Tryd.ntmps17
        go_wp2_with fail
        refine HF.out.mono ?_
        rintro e w1 ⟨rfl, hb1⟩
        go_wp2_with fail
        go_ret
        exact ⟨rfl, HP.out _ hb1⟩
      | true =>
        have hS : lineStep m c = { m with line := m.line ++ [c] } := by unfold lineStep; rw [if_neg (by rw [hcr]; decide), if_neg hc, if_pos hf]
        rw [hf] at HF
        have hen : errN { m with line := m.line ++ [c] } = 0 := by
          rcases hph with hp | hp | ⟨n, hp, _⟩ <;> (unfold errN; simp only [hp])
        rw [hS, hen]
        have HS := Lib.hid (CS.start h)
        have HPt : Hid (parted (m.line ++ [c]) = (r.part || (((c.toNat : Int) == 59) || ((c.toNat : Int) == 58)))) := Lib.hid (by
          rw [parted_snoc, hr.part]
          have e1 : ((c.toNat : Int) == 59) = (c == 59) := by rw [Bool.eq_iff_iff, beq_iff_eq, beq_iff_eq]; exact toNat_eq c 59
          have e2 : ((c.toNat : Int) == 58) = (c == 58) := by rw [Bool.eq_iff_iff, beq_iff_eq, beq_iff_eq]; exact toNat_eq c 58
          rw [e1, e2])
        clear hS hcr hph hf h
        go_enter Tryd.func17, Tryd.ntmps17
        go_wp2_with fail
        refine HF.out.mono ?_
        rintro e w1 ⟨rfl, hb1⟩
        replace HS := Lib.hid (HS.out.call hb1)
        have HA : Hid (CS w F (w1.alloc (.cells #[.int .u8 (c.toNat : Int)] 5)) F g m.most r v) := Lib.hid (HS.out.call ((Below.refl _ _).alloc (Nat.le_refl _) _))
        have d4 := HA.out.cod.c4
        have e4 := HS.out.cod.c4
        have hrow := HA.out.cod.row
        have hll : r.line.length ≤ 512 := by rw [hr.line]; exact hl
        clear HF hb1 d6 z6 HS
        obtain ⟨i0, hi, hx0⟩ : ∃ i0, Tryd.prog.info? 5 = some i0 ∧ (i0.zero, i0.size, i0.bytes) = (some (.int .u8 0), 1, 1) := by
          have := infoB
          cases hq : Tryd.prog.info? 5 with
          | none => rw [hq] at this; cases this
          | some i0 => rw [hq] at this; exact ⟨i0, rfl, Option.some.inj this⟩
        injection hx0 with hz0 hx1
        injection hx1 with hz1 hz2
        go_wp2_with (at_builtin; refine wpList_append_own_at _ rfl (.tmp 36) (.tmp 38) 31 rfl 0 5 i0 (.int .u8 0) 1 1 Tryd.underlying31 hi hz0 hz1 hz2 rfl (by decide) _ _ _ rfl hrow ⟨w1.heap.size, 0, none⟩ 1 1 [.int .u8 (c.toNat : Int)] rfl rfl (cell_one_new _ _ _) (fun x hx => by simp at hx; subst hx; rfl) (by unfold maxLen; omega) (by omega) (Nat.zero_le _) ?_; intro v4 w4 hown4 hg4 _ hat4; obtain ⟨q4, z4⟩ := CS.after HA.out hg4; obtain ⟨p4, cap4, rfl, _⟩ := row_form hown4; have HQ := Lib.hid (CS.append HA.out hg4 (l := r.line ++ [c]) (by rw [List.length_append, bvs_append]; exact hown4) hat4 (by simp)); have c5 := HQ.out.cod.c5; have y5 := HQ.out.cod.free 5; clear hown4 hg4 hat4 hrow d4 e4)
        all_goals
          go_ret
          refine ⟨rfl, _, _, _, PChLine.CS.setPart HQ.out _, href, fun _ => ⟨hr.size, hr.next, hr.left, (by show r.line ++ [c] = m.line ++ [c]; rw [hr.line]), ?_, hr.cr, hr.trail, hr.none⟩⟩
          show _ = parted (m.line ++ [c])
          rw [HPt.out]
          clear HQ HA HPt
        all_goals dsimp only
        all_goals clear q4 z4 c5 y5 hi hz0 hz1 hz2 hll hen hc hl hz href hr
        all_goals simp [*]
end Go.Proofs.YtlgohmghjffiaaaDoor.PChLine
