/- Texts of this seat, one behind another: POutNext, POutUse, OutflowObj. -/
import Derived.Deep.QuietTactic
import Derived.Test.YtggmafmebocoaaaGreatDoorA2
/- Layer 12 of the program: Next. -/
namespace Go.Proofs.YtggmafmebocoaaaGreatDoor.POutNext
open Go.ChangeShapes Go.WideShapes Go.ChangeAt Go.RowKit LexPure Bytes Ret FieldsPure Flds HeadPure HBox FramePure ChunkPure ChunkObj OutPure OutFew OutBox KeptRow Mem Step InEmb OutObj POutText POutEnds POutBody POutOpen POutHead PLib
set_option maxRecDepth 100000
set_option linter.unusedVariables false
set_option linter.unusedSimpArgs false
theorem step_err (meth : List UInt8) (s : St) (h : (stepO meth s).2.2.1 ≠ 0) : doneM (stepO meth s).2.2.2.md = false := by
  obtain ⟨md, data, gone, kind, kept⟩ := s
  cases md with
  | head =>
    unfold stepO at h ⊢
    dsimp only at h ⊢
    split at h
    · exact absurd rfl h
    · rfl
    · split at h
      · exact absurd rfl h
      · rename_i hx
        simp only [if_neg hx]
        rfl
  | len left =>
    unfold stepO at h ⊢
    dsimp only at h ⊢
    split at h <;> exact absurd rfl h
  | chunks m =>
    unfold stepO at h ⊢
    dsimp only at h ⊢
    split at h
    · rename_i hx
      rw [if_pos hx]
      rfl
    · split at h <;> exact absurd rfl h
  | all =>
    unfold stepO at h ⊢
    dsimp only at h ⊢
    split at h <;> exact absurd rfl h
  | fin => exact absurd rfl h
  | nothing => exact absurd rfl h
  | bad e => rfl
theorem err_done (meth : List UInt8) (s : St) (h : errO (stepO meth s) ≠ 0) : doneM (stepO meth s).2.2.2.md = false := by
  unfold errO at h
  split at h
  · rename_i hx; exact hx.2.2.2
  · exact step_err meth s h
theorem kind_is (p : Pc) : (kindP p != 0) = !isN p := by cases p <;> rfl
/-- behind the step: its piece lies in block b5 -/
structure NP (w W1 : World) (F F' : Nat → Prop) (g b5 : Nat) (meth : ByteArray) (s' : St) (u : Nat) (K : Int) (H : H8) (v : Value) (d : List UInt8) : Prop where
  rdr : RdrU W1 F' g meth s' u
  box : PBox W1 w.heap.size 0 zero8 nilV []
  pb : PBox W1 b5 K H v d
  row : RowF W1 0 v H.fields
  step : Step w W1 F F'
  far : ∀ j, F' j → ¬ j = w.heap.size
  own : ∀ j, v.ownBlock = some j → w.heap.size ≤ j ∧ ¬ F' j
section
variable {w W w1 W1 : World} {F F' : Nat → Prop} {g b5 u : Nat} {meth : ByteArray} {s s' : St} {K ee : Int} {H : H8} {v : Value} {d : List UInt8} {p : Pc}
/-- an error is kept and told -/
theorem NP.fail (h : NP w W1 F F' g b5 meth s' u K H v d) (hs : (stepO (toL meth) s).2.2.2 = s') (he : errO (stepO (toL meth) s) = ee) (h0 : ee ≠ 0) :
    Hid (PBox (pput ((W1.setCell ⟨g, 11, none⟩ (.int .i64 ee)).setCell ⟨g, 5, none⟩ (.func (.func 23) #[] #[])) w.heap.size 0 zero8 nilV []) w.heap.size 0 zero8 nilV []) ∧
      Hid (NextR w (pput ((W1.setCell ⟨g, 11, none⟩ (.int .i64 ee)).setCell ⟨g, 5, none⟩ (.func (.func 23) #[] #[])) w.heap.size 0 zero8 nilV []) (.returned (.tuple #[.agg (pca 0 zero8 nilV []), .bool false, .int .i64 ee])) F g meth s) := by
  obtain ⟨R, r, l, h1, h2, h3, h4, h5, h6, h7, h8, h9⟩ := h.rdr.is
  have a1 := h1.put11 ee
  have a2 := a1.put5 23
  have t1 := h1.step_put 11 (.int .i64 ee)
  have t2 := t1.trans (a1.step_put 5 (.func (.func 23) #[] #[]))
  have hfR : ∀ j, R j → ¬ j = w.heap.size := fun j hj => h.far j (h9 j hj)
  have b2 := h.box.step t2 (fun x => hfR _ x rfl)
  have hp := pput_step ((W1.setCell ⟨g, 11, none⟩ (.int .i64 ee)).setCell ⟨g, 5, none⟩ (.func (.func 23) #[] #[])) w.heap.size 0 zero8 nilV []
  refine ⟨Lib.hid (b2.put 0 zero8 nilV []), Lib.hid ?_⟩
  have hd := err_done (toL meth) s (by rw [he]; exact h0)
  rw [hs] at hd
  unfold NextR nextO
  rw [he, if_pos h0, hs]
  refine ⟨nilV, F', rfl, row_none _ _, fun b hb => (by cases hb), ⟨⟨R, _, l, a2.step hp hfR, h2, h3, Nat.zero_le _, h5, h6, h7, ⟨rfl, ?_, fun e x => (by injection x), fun n x => (by cases x), fun m x => (by cases x)⟩, h9⟩, h.rdr.mine, fun k hk => Nat.lt_of_lt_of_le (h.rdr.lt k hk) (Nat.le_trans t2.size hp.size)⟩, ?_⟩
  · have := h8.done
    rw [hd] at this
    exact this
  · exact (h.step.trans (t2.up h9)).beyond hp (fun j hj => by rw [hj]; exact Nat.le_refl _)
/-- what it says is told -/
theorem NP.say (h : NP w W1 F F' g b5 meth s' u (kindP p) (headP p) v (dataP p)) (hs : (stepO (toL meth) s).2.2.2 = s') (hp : (stepO (toL meth) s).1 = p) (hu : (stepO (toL meth) s).2.1 = u) (he : errO (stepO (toL meth) s) = 0) :
    ∃ A, W1.cell? ⟨g, 1, none⟩ = some (.string (ofL A)) ∧ u ≤ A.length ∧ PBox (W1.setCell ⟨g, 1, none⟩ (.string (ofL (A.drop u)))) w.heap.size 0 zero8 nilV [] ∧ PBox (W1.setCell ⟨g, 1, none⟩ (.string (ofL (A.drop u)))) b5 (kindP p) (headP p) v (dataP p) ∧
      Hid (PBox (pput (W1.setCell ⟨g, 1, none⟩ (.string (ofL (A.drop u)))) w.heap.size (kindP p) (headP p) v (dataP p)) w.heap.size (kindP p) (headP p) v (dataP p)) ∧
      Hid (NextR w (pput (W1.setCell ⟨g, 1, none⟩ (.string (ofL (A.drop u)))) w.heap.size (kindP p) (headP p) v (dataP p)) (.returned (.tuple #[.agg (pca (kindP p) (headP p) v (dataP p)), .bool (!isN p), .int .i64 0])) F g meth s) := by
  obtain ⟨R, r, l, h1, h2, h3, h4, h5, h6, h7, h8, h9⟩ := h.rdr.is
  have a1 := h1.put1 (r.A.drop u)
  have t1 := h1.step_put 1 (.string (ofL (r.A.drop u)))
  have hfR : ∀ j, R j → ¬ j = w.heap.size := fun j hj => h.far j (h9 j hj)
  have hgR : ¬ b5 = g := fun e => by
    obtain ⟨p0, v0, hE, _⟩ := h1.is
    have := hE.has.at_
    rw [← e, h.pb.has.at_] at this
    injection this with this
    injection this with _ this _
    exact absurd this (by decide)
  have b2 := h.box.step (Step.set_ (F := fun k => k = g) W1 rfl 1 (.string (ofL (r.A.drop u)))) (fun x => hfR g h1.mine x.symm)
  have p2 := h.pb.step (Step.set_ (F := fun k => k = g) W1 rfl 1 (.string (ofL (r.A.drop u)))) hgR
  have hpp := pput_step (W1.setCell ⟨g, 1, none⟩ (.string (ofL (r.A.drop u)))) w.heap.size (kindP p) (headP p) v (dataP p)
  refine ⟨r.A, h1.cells.2.1, h4, b2, p2, Lib.hid (b2.put _ _ _ _), Lib.hid ?_⟩
  unfold NextR nextO
  rw [he, if_neg (fun x => x rfl), hs, hp, hu]
  have row2 : RowF (W1.setCell ⟨g, 1, none⟩ (.string (ofL (r.A.drop u)))) 0 v (headP p).fields := row_step h.row (Step.set_ (F := fun k => k = g) W1 rfl 1 _) (fun j hj x => by have := (h.own j hj).2; rw [x] at this; exact this h.rdr.mine)
  refine ⟨v, F', rfl, row_step row2 hpp (row_not row2 b2.has (by decide)), h.own, ⟨⟨R, _, l, a1.step hpp hfR, h2, ?_, Nat.zero_le _, h5, h6, h7, ?_, h9⟩, h.rdr.mine, fun k hk => Nat.lt_of_lt_of_le (h.rdr.lt k hk) (Nat.le_trans t1.size hpp.size)⟩, ?_⟩
  · show r.A.drop u ++ l = s'.data.drop u
    rw [← h3, List.drop_append_of_le_length h4]
  · have q1 : Rel (W1.setCell ⟨g, 1, none⟩ (.string (ofL (r.A.drop u)))) F' R s'.md r := h8.step t1 (fun k _ hn hr => hn hr)
    have q2 := q1.step hpp (fun k hk _ x => h.far k hk x)
    exact ⟨q2.fn, q2.done, q2.bad, q2.len, q2.dec⟩
  · exact (h.step.trans (t1.up h9)).beyond hpp (fun j hj => by rw [hj]; exact Nat.le_refl _)
theorem NP.looks (h : NP w W1 F F' g b5 meth s' u K H v d) : W1.cell? ⟨g, 4, none⟩ = some (.bool s'.gone) ∧ W1.cell? ⟨g, 10, none⟩ = some (.bool (doneM s'.md)) ∧ (∃ x, W1.cell? ⟨g, 11, none⟩ = some (.int .i64 x)) ∧ (∃ k, W1.cell? ⟨g, 5, none⟩ = some (.func (.func k) #[] #[])) ∧ W1.frozen? ⟨g, 1, none⟩ = false ∧ W1.frozen? ⟨g, 5, none⟩ = false ∧ W1.frozen? ⟨g, 11, none⟩ = false := by
  obtain ⟨R, r, l, h1, h2, h3, h4, h5, h6, h7, h8, h9⟩ := h.rdr.is
  have hc := h1.cells
  exact ⟨by rw [← h5]; exact hc.2.2.1, by rw [← h8.done]; exact hc.2.2.2.2.2.2.2.2.1, ⟨_, hc.2.2.2.2.2.2.2.2.2⟩, ⟨_, hc.2.2.2.1⟩, h1.free 1, h1.free 5, h1.free 11⟩
/-- the step's answer, by names of its own -/
def Ans (meth : List UInt8) (s : St) (K : Int) (H : H8) (d : List UInt8) (u : Nat) (er : Int) : Prop :=
  K = kindP (stepO meth s).1 ∧ H = headP (stepO meth s).1 ∧ d = dataP (stepO meth s).1 ∧ u = (stepO meth s).2.1 ∧ er = (stepO meth s).2.2.1
/-- it is put into a box -/
theorem NP.new {e : Ending} (hS : StepR (w.alloc (.cells zbox PT)) w1 e F g meth s) (hF : ∀ j, F j → j < w.heap.size) :
    ∃ (K : Int) (H : H8) (d : List UInt8) (u : Nat) (er : Int) (p0 : Option Addr) (cap : Nat), e = .returned (.tuple #[.agg #[.int .i64 K, .string (ofL H.method), .string (ofL H.target), .int .i64 H.status, .string (ofL H.reason), .int .i64 H.minor, .slice p0 H.fields.length cap, .string (ofL d)], .int .i64 (u : Int), .int .i64 er]) ∧
      Hid (Ans (toL meth) s K H d u er) ∧ Hid (∃ F', NP w (w1.alloc (.cells #[.int .i64 K, .string (ofL H.method), .string (ofL H.target), .int .i64 H.status, .string (ofL H.reason), .int .i64 H.minor, .slice p0 H.fields.length cap, .string (ofL d)] PT)) F F' g w1.heap.size meth (stepO (toL meth) s).2.2.2 u K H (.slice p0 H.fields.length cap) d) := by
  obtain ⟨v, F', x1, x2, x3, x4, x5⟩ := hS
  obtain ⟨p0, cap, rfl, _, _⟩ := row_fl x2
  have hwl : w.heap.size < (w.alloc (.cells zbox PT)).heap.size := by simp
  have al := Step.alloc w1 (.cells (pca (kindP (stepO (toL meth) s).1) (headP (stepO (toL meth) s).1) (.slice p0 (headP (stepO (toL meth) s).1).fields.length cap) (dataP (stepO (toL meth) s).1)) PT) (fun _ => False)
  have hfar : ∀ j, F' j → ¬ j = w.heap.size := fun j hj e => by
    rcases x5.grow j hj with y | y
    · have := hF j y; omega
    · omega
  refine ⟨_, _, _, _, _, p0, cap, x1, Lib.hid ⟨rfl, rfl, rfl, rfl, rfl⟩, Lib.hid ⟨F', ⟨x4.step al (fun _ _ h => h), ?_, ⟨Has.new _ _ _⟩, row_step x2 al (fun _ _ h => h), ?_, hfar, fun j hj => ⟨by have := (x3 j hj).1; omega, (x3 j hj).2⟩⟩⟩⟩
  · exact ((PBox.start w).step x5 (fun x => by have := hF _ x; omega)).step al (fun x => x)
  · exact ((Step.alloc w _ F).trans x5).trans (Step.alloc w1 _ F')
end
set_option maxHeartbeats 6400000 in
theorem pnext_core {w : World} {F : Nat → Prop} {g : Nat} {meth : ByteArray} {s : St} (fid : Nat) (hent : ∀ args w, (callFunc fid args).run Tryz.prog w = .ok (.enter fid args) w) (h : Rdr w F g meth s) (hfid : fnOf s.md = fid)
    (hcall : Calls Tryz.prog fid #[.pointer (some ⟨g, 0, none⟩)] (w.alloc (.cells zbox PT)) fun e w' => StepR (w.alloc (.cells zbox PT)) w' e F g meth s) :
    Calls Tryz.prog 14 #[.pointer (some ⟨g, 0, none⟩)] w fun e w' => NextR w w' e F g meth s := by
  have c5 : w.cell? ⟨g, 5, none⟩ = some (.func (.func fid) #[] #[]) := by
    obtain ⟨R, r, l, h1, h2, h3, h4, h5, h6, h7, h8, h9⟩ := h.is
    rw [← hfid, ← h8.fn]
    exact h1.cells.2.2.2.1
  have hgl : g < w.heap.size := h.lt g h.mine
  have HC := Lib.hid (hcall.mono (fun e w1 x => NP.new x h.lt))
  clear hcall h hfid
  go_enter Tryz.func14, Tryz.ntmps14
  go_wp2_with fail
  refine HC.out.mono ?_
  rintro e w1 ⟨K, H, d, u, er, p0, cap, rfl, hA, hN⟩
  clear HC c5
  dsimp only
  iterate 18 go_step
  generalize w1.alloc (.cells #[.int .i64 K, .string (ofL H.method), .string (ofL H.target), .int .i64 H.status, .string (ofL H.reason), .int .i64 H.minor, .slice p0 H.fields.length cap, .string (ofL d)] PT) = W1 at hN ⊢
  generalize w1.heap.size = b5 at hN ⊢
  obtain ⟨F', hN⟩ := hN.out
  obtain ⟨c4, c10, ⟨x11, c11⟩, ⟨x5, c5⟩, z1, z5, z11⟩ := hN.looks
  obtain ⟨q0, q1, q2, q3, q4, q5, q6, q7⟩ := hN.box.cells
  obtain ⟨y0, y1, y2, y3, y4, y5, y6, y7⟩ := hN.box.frees
  obtain ⟨m0, m1, m2, m3, m4, m5, m6, m7⟩ := hN.pb.cells
  have n1 : ¬ w.heap.size = g := fun e => hN.far g hN.rdr.mine e.symm
  have n2 : ¬ b5 = g := fun e => by
    obtain ⟨R, r, l, h1, _⟩ := hN.rdr.is
    obtain ⟨pp, v0, hE, _⟩ := h1.is
    have := hE.has.at_
    rw [← e, hN.pb.has.at_] at this
    injection this with this
    injection this with _ this _
    exact absurd this (by decide)
  have HE : Hid (∀ ee, errO (stepO (toL meth) s) = ee → ee ≠ 0 → Hid (PBox (pput ((W1.setCell ⟨g, 11, none⟩ (.int .i64 ee)).setCell ⟨g, 5, none⟩ (.func (.func 23) #[] #[])) w.heap.size 0 zero8 nilV []) w.heap.size 0 zero8 nilV []) ∧
      Hid (NextR w (pput ((W1.setCell ⟨g, 11, none⟩ (.int .i64 ee)).setCell ⟨g, 5, none⟩ (.func (.func 23) #[] #[])) w.heap.size 0 zero8 nilV []) (.returned (.tuple #[.agg (pca 0 zero8 nilV []), .bool false, .int .i64 ee])) F g meth s)) := Lib.hid (fun ee a b => hN.fail rfl a b)
  have HS : Hid (errO (stepO (toL meth) s) = 0 → ∃ A, W1.cell? ⟨g, 1, none⟩ = some (.string (ofL A)) ∧ u ≤ A.length ∧ PBox (W1.setCell ⟨g, 1, none⟩ (.string (ofL (A.drop u)))) w.heap.size 0 zero8 nilV [] ∧ PBox (W1.setCell ⟨g, 1, none⟩ (.string (ofL (A.drop u)))) b5 K H (.slice p0 H.fields.length cap) d ∧
      Hid (PBox (pput (W1.setCell ⟨g, 1, none⟩ (.string (ofL (A.drop u)))) w.heap.size K H (.slice p0 H.fields.length cap) d) w.heap.size K H (.slice p0 H.fields.length cap) d) ∧
      Hid (NextR w (pput (W1.setCell ⟨g, 1, none⟩ (.string (ofL (A.drop u)))) w.heap.size K H (.slice p0 H.fields.length cap) d) (.returned (.tuple #[.agg (pca K H (.slice p0 H.fields.length cap) d), .bool (K != 0), .int .i64 0])) F g meth s)) := Lib.hid (fun a => by
    obtain ⟨e1, e2, e3, e4, e5⟩ := hA.out
    subst e1 e2 e3 e4
    rw [kind_is]
    exact hN.say rfl rfl rfl a)
  have hKp : (K != 0) = !isN (stepO (toL meth) s).1 := by
    obtain ⟨e1, _⟩ := hA.out
    rw [e1, kind_is]
  have her : er = (stepO (toL meth) s).2.2.1 := hA.out.2.2.2.2
  clear hN hA
  have herr : errO (stepO (toL meth) s) = if er = 0 ∧ isN (stepO (toL meth) s).1 = true ∧ (stepO (toL meth) s).2.2.2.gone = true ∧ doneM (stepO (toL meth) s).2.2.2.md = false then 121 else er := by unfold errO; rw [← her]
  rw [herr] at HE HS
  clear herr her
  generalize isN (stepO (toL meth) s).1 = np at *
  generalize (stepO (toL meth) s).2.2.2.gone = go at *
  generalize doneM (stepO (toL meth) s).2.2.2.md = dn at *
  by_cases h0 : er = 0
  · subst h0
    cases np with
    | false =>
      rw [hKp] at HS
      have hKz : ¬ K = 0 := fun e => by rw [e] at hKp; cases hKp
      obtain ⟨A, k1, huA, b2, p2, P3, hFin⟩ := HS.out (by rw [if_neg]; exact fun x => Bool.noConfusion x.2.1)
      obtain ⟨q0, q1, q2, q3, q4, q5, q6, q7⟩ := b2.cells
      obtain ⟨y0, y1, y2, y3, y4, y5, y6, y7⟩ := b2.frees
      obtain ⟨m0, m1, m2, m3, m4, m5, m6, m7⟩ := p2.cells
      have hsl : (ofL A).extract u (ofL A).size = ofL (A.drop u) := drop_text A u huA
      have hui : (u : Int) ≤ ((ofL A).size : Int) := by rw [ofL_size]; omega
      unfold pput at P3 hFin
      clear HS HE b2 p2 huA
      go_wp2_with fail
      refine bodyPost_ret (v := .tuple #[.agg (pca K H (.slice p0 H.fields.length cap) d), .bool true, .int .i64 0]) ?_ rfl hFin.out
      rw [results_cell_tmp2 rfl]
      exact end_pbox3 rfl rfl rfl P3.out
    | true =>
      rw [hKp] at HS
      have hKz : K = 0 := by
        cases hq : decide (K = 0) with
        | true => exact of_decide_eq_true hq
        | false => exact absurd (bne_iff_ne.2 (of_decide_eq_false hq)) (by rw [hKp]; decide)
      subst hKz
      cases go with
      | false =>
        obtain ⟨A, k1, huA, b2, p2, P3, hFin⟩ := HS.out (by rw [if_neg]; exact fun x => Bool.noConfusion x.2.2.1)
        obtain ⟨q0, q1, q2, q3, q4, q5, q6, q7⟩ := b2.cells
        obtain ⟨y0, y1, y2, y3, y4, y5, y6, y7⟩ := b2.frees
        obtain ⟨m0, m1, m2, m3, m4, m5, m6, m7⟩ := p2.cells
        have hsl : (ofL A).extract u (ofL A).size = ofL (A.drop u) := drop_text A u huA
        have hui : (u : Int) ≤ ((ofL A).size : Int) := by rw [ofL_size]; omega
        unfold pput at P3 hFin
        clear HS HE hKp b2 p2 huA
        go_wp2_with fail
        refine bodyPost_ret (v := .tuple #[.agg (pca 0 H (.slice p0 H.fields.length cap) d), .bool false, .int .i64 0]) ?_ rfl hFin.out
        rw [results_cell_tmp2 rfl]
        exact end_pbox3 rfl rfl rfl P3.out
      | true =>
        cases dn with
        | true =>
          obtain ⟨A, k1, huA, b2, p2, P3, hFin⟩ := HS.out (by rw [if_neg]; exact fun x => Bool.noConfusion x.2.2.2)
          obtain ⟨q0, q1, q2, q3, q4, q5, q6, q7⟩ := b2.cells
          obtain ⟨y0, y1, y2, y3, y4, y5, y6, y7⟩ := b2.frees
          obtain ⟨m0, m1, m2, m3, m4, m5, m6, m7⟩ := p2.cells
          have hsl : (ofL A).extract u (ofL A).size = ofL (A.drop u) := drop_text A u huA
          have hui : (u : Int) ≤ ((ofL A).size : Int) := by rw [ofL_size]; omega
          unfold pput at P3 hFin
          clear HS HE hKp b2 p2 huA
          go_wp2_with fail
          refine bodyPost_ret (v := .tuple #[.agg (pca 0 H (.slice p0 H.fields.length cap) d), .bool false, .int .i64 0]) ?_ rfl hFin.out
          rw [results_cell_tmp2 rfl]
          exact end_pbox3 rfl rfl rfl P3.out
        | false =>
          obtain ⟨P3, hFin⟩ := HE.out 121 (by rw [if_pos ⟨rfl, rfl, rfl, rfl⟩]) (by decide)
          have k1 : Hid True := Lib.hid trivial
          unfold pput at P3 hFin
          clear HS HE hKp
          go_wp2_with fail
          refine bodyPost_ret (v := .tuple #[.agg (pca 0 zero8 nilV []), .bool false, .int .i64 121]) ?_ rfl hFin.out
          rw [results_cell_tmp2 rfl]
          exact end_pbox3 rfl rfl rfl P3.out
  · have e1 : (er == 0) = false := beq_eq_false_iff_ne.2 h0
    have e2 : (er != 0) = true := bne_iff_ne.2 h0
    cases hb : (K != 0)
    all_goals
      obtain ⟨P3, hFin⟩ := HE.out er (by rw [if_neg (fun x => h0 x.1)]) (by exact h0)
      have k1 : Hid True := Lib.hid trivial
      unfold pput at P3 hFin
      clear HS HE hKp
      go_wp2_with fail
      refine bodyPost_ret (v := .tuple #[.agg (pca 0 zero8 nilV []), .bool false, .int .i64 er]) ?_ rfl hFin.out
      rw [results_cell_tmp2 rfl]
      exact end_pbox3 rfl rfl rfl P3.out
end Go.Proofs.YtggmafmebocoaaaGreatDoor.POutNext

/- Layer 12 of the program: New, Feed, End, Ended, Tunnel, Len, Rest, Reusable. -/
namespace Go.Proofs.YtggmafmebocoaaaGreatDoor.POutUse
open Go.ChangeShapes Go.WideShapes Go.ChangeAt Go.RowKit LexPure Bytes Ret FieldsPure HeadPure ChunkPure ChunkObj OutPure OutBox KeptRow Mem Step InEmb OutObj POutText POutEnds
set_option maxRecDepth 100000
set_option linter.unusedVariables false
set_option linter.unusedSimpArgs false
/-! ### a new reader -/
def raw0 (meth : ByteArray) : Raw := ⟨meth, [], false, 21, 0, false, 0, .pointer none, false, 0⟩
def NewR (w w' : World) (e : Ending) (meth : ByteArray) : Prop := ∃ g F, e = .returned (.pointer (some ⟨g, 0, none⟩)) ∧ Rdr w' F g meth st0 ∧ ∀ k, F k → w.heap.size ≤ k
theorem NewR.at_ (w : World) (meth : ByteArray) : NewR w (w.alloc (.cells (rcl (raw0 meth) (.pointer none) (.slice none 0 0)) RT)) (.returned (.pointer (some ⟨w.heap.size, 0, none⟩))) meth :=
  ⟨w.heap.size, fun k => k = w.heap.size, rfl, ⟨⟨fun k => k = w.heap.size, raw0 meth, [], ⟨⟨.pointer none, .slice none 0 0, ⟨Has.new w _ _, rfl, rfl, .inl rfl, RowB.nil _⟩, fun k hk => by cases hk⟩, rfl, fun k hk => by rw [hk]; simp⟩, rfl, rfl, Nat.zero_le _, rfl, rfl, rfl,
    ⟨rfl, rfl, fun e h => (by cases h), fun n h => (by cases h), fun m h => (by cases h)⟩, fun k hk => hk⟩, rfl, fun k hk => by rw [hk]; simp⟩, fun k hk => by rw [hk]; exact Nat.le_refl _⟩
theorem pnew12 (meth : ByteArray) (w : World) :
    Calls Tryz.prog 12 #[.string meth] w fun e w' => NewR w w' e meth ∧ Below w.heap.size w w' := by
  have HN := Lib.hid (NewR.at_ w meth)
  unfold rcl raw0 fnV at HN
  dsimp only at HN
  go_enter Tryz.func12, Tryz.ntmps12
  go_wp2_with fail
  go_ret
  exact ⟨HN.out, (Below.refl _ _).alloc (Nat.le_refl _) _⟩
/-! ### bytes more -/
def FedR (w w' : World) (F : Nat → Prop) (g : Nat) (meth : ByteArray) (s : St) : Prop := ∃ F', Rdr w' F' g meth s ∧ Step w w' F F'
theorem fed12 {w w' : World} {F R : Nat → Prop} {g : Nat} {meth : ByteArray} {s : St} {r : Raw} {l x : List UInt8} {p v : Value}
    (hE : Emb w g 2 RT (rcl r p v) p v l) (hv : ∀ k, v.ownBlock = some k → R k) (hg : R g) (hRl : ∀ k, R k → k < w.heap.size) (h2 : r.meth = meth) (h3 : r.A ++ l = s.data) (h5 : r.gone = s.gone) (h6 : r.kind = s.kind) (h7 : r.kept = s.kept) (h8 : Rel w F R s.md r) (h9 : ∀ k, R k → F k) (hFl : ∀ k, F k → k < w.heap.size) (hgo : s.gone = false)
    (hW : Wrote w w' g 2 RT ((rcl r p v).setIfInBounds 2 (selfP g 2)) v l x) : FedR w w' F g meth (feedO s x) := by
  obtain ⟨v', hE', hS⟩ := hW
  have hE2 : Emb w' g 2 RT (rcl r (selfP g 2) v') (selfP g 2) v' (l ++ x) := hE'
  have hSR : ∀ k, k = g ∨ v.ownBlock = some k → R k := fun k hk => by
    rcases hk with y | y
    · rw [y]; exact hg
    · exact hv k y
  have hgv : ∀ k, k = g ∨ v'.ownBlock = some k → R k ∨ (w.heap.size ≤ k ∧ k < w'.heap.size) := fun k hk => (hS.grow k hk).imp (hSR k) id
  have hfe : feedO s x = { s with data := s.data ++ x } := by unfold feedO; rw [if_neg (by rw [hgo]; decide)]
  rw [hfe]
  refine ⟨fun k => F k ∨ v'.ownBlock = some k, ⟨⟨fun k => k = g ∨ v'.ownBlock = some k, r, l ++ x, ⟨⟨_, v', hE2, fun k hk => .inr hk⟩, .inl rfl, fun k hk => ?_⟩, h2, by rw [← List.append_assoc, h3], Nat.zero_le _, h5, h6, h7, ⟨h8.fn, h8.done, h8.bad, h8.len, fun m hm => ?_⟩, fun k hk => ?_⟩, .inl (h9 g hg), fun k hk => ?_⟩, ?_⟩
  · rcases hk with y | y
    · rw [y]; exact hE2.has.lt
    · exact hE2.row.lt y
  · obtain ⟨gd, G, e1, e2, e3, e4, e5⟩ := h8.dec m hm
    refine ⟨gd, G, e1, e2.step hS (fun j hj y => (e5 j hj).2 (hSR j y)), e3, e4, fun j hj => ⟨.inl (e5 j hj).1, fun y => ?_⟩⟩
    rcases hgv j y with z | z
    · exact (e5 j hj).2 z
    · have := e2.lt j hj; omega
  · rcases hk with y | y
    · rw [y]; exact .inl (h9 g hg)
    · exact .inr y
  · rcases hk with y | y
    · exact Nat.lt_of_lt_of_le (hFl k y) hS.size
    · exact hE2.row.lt y
  · exact (hS.up2 (fun k hk => h9 k (hSR k hk))).regrow (fun k hk => by
      rcases hk with y | y
      · exact .inl y
      · exact (hgv k (.inr y)).imp (h9 k) id)
theorem pfeed12 (F : Nat → Prop) (g : Nat) (meth : ByteArray) (s : St) (x : ByteArray) (hs : s.data.length + x.size ≤ 211106232532992) (w : World) (h : Rdr w F g meth s) :
    Calls Tryz.prog 13 #[.pointer (some ⟨g, 0, none⟩), .string x] w fun e w' => e = .returned (.tuple #[]) ∧ FedR w w' F g meth (feedO s (toL x)) := by
  obtain ⟨R, r, l, h1, h2, h3, h4, h5, h6, h7, h8, h9⟩ := h.is
  have c4 := h1.cells.2.2.1
  rw [h5] at c4
  cases hgo : s.gone with
  | true =>
    have HQ : Hid (FedR w w F g meth (feedO s (toL x))) := Lib.hid (by unfold feedO; rw [if_pos hgo]; exact ⟨F, h, Step.refl w F⟩)
    rw [hgo] at c4
    clear h1 h2 h3 h4 h5 h6 h7 h8 h9 h hs hgo
    go_enter Tryz.func13, Tryz.ntmps13
    go_wp2_with fail
    go_end0
    exact ⟨rfl, HQ.out⟩
  | false =>
    obtain ⟨p, v, hE, hv⟩ := h1.is
    have hl : l.length + x.size ≤ 211106232532992 := by rw [← h3, List.length_append] at hs; omega
    have HW := Lib.hid ((emb_write spotR (rcl_size _ _ _) hE x hl).mono (fun e w' ⟨x1, x2⟩ => (⟨x1, fed12 hE hv h1.mine h1.lt h2 h3 h5 h6 h7 h8 h9 h.lt hgo x2⟩ : e = Ending.returned (.tuple #[.int .i64 x.size, .nilIface]) ∧ FedR w w' F g meth (feedO s (toL x)))))
    rw [hgo] at c4
    clear h1 h2 h3 h4 h5 h6 h7 h8 h9 h hs hgo hE hv hl
    go_enter Tryz.func13, Tryz.ntmps13
    go_wp2_with fail
    refine HW.out.mono ?_
    rintro e w1 ⟨rfl, hF⟩
    replace hF := Lib.hid hF
    clear HW c4
    go_wp2_with fail
    go_end0
    exact ⟨rfl, hF.out⟩
/-! ### the server's end -/
theorem pend12 (F : Nat → Prop) (g : Nat) (meth : ByteArray) (s : St) (w : World) (h : Rdr w F g meth s) :
    Calls Tryz.prog 20 #[.pointer (some ⟨g, 0, none⟩)] w fun e w' => e = .returned (.tuple #[]) ∧ Rdr w' F g meth (endO s) ∧ Step w w' F F := by
  obtain ⟨R, r, l, h1, h2, h3, h4, h5, h6, h7, h8, h9⟩ := h.is
  have c4 := h1.cells.2.2.1
  have z4 := h1.free 4
  have HQ : Hid (Rdr (w.setCell ⟨g, 4, none⟩ (.bool true)) F g meth (endO s) ∧ Step w (w.setCell ⟨g, 4, none⟩ (.bool true)) F F) := Lib.hid (by
    have t := h1.step_put 4 (.bool true)
    have q := h8.step t (fun k _ hn hr => hn hr)
    exact ⟨⟨⟨R, _, l, h1.put4 true, h2, h3, h4, rfl, h6, h7, ⟨q.fn, q.done, q.bad, q.len, q.dec⟩, h9⟩, h.mine, fun k hk => Nat.lt_of_lt_of_le (h.lt k hk) t.size⟩, t.up h9⟩)
  clear h1 h2 h3 h4 h5 h6 h7 h8 h9 h
  go_enter Tryz.func20, Tryz.ntmps20
  go_wp2_with fail
  go_end0
  exact ⟨rfl, HQ.out⟩
/-! ### looking -/
theorem pended12 (F : Nat → Prop) (g : Nat) (meth : ByteArray) (s : St) (w : World) (h : Rdr w F g meth s) :
    Calls Tryz.prog 16 #[.pointer (some ⟨g, 0, none⟩)] w fun e w' => e = .returned (.bool (doneM s.md)) ∧ w' = w := by
  obtain ⟨R, r, l, h1, h2, h3, h4, h5, h6, h7, h8, h9⟩ := h.is
  have c10 := h1.cells.2.2.2.2.2.2.2.2.1
  rw [h8.done] at c10
  clear h1 h2 h3 h4 h5 h6 h7 h8 h9 h
  go_enter Tryz.func16, Tryz.ntmps16
  go_wp2_with fail
  go_ret
  exact ⟨rfl, rfl⟩
theorem ptunnel12 (F : Nat → Prop) (g : Nat) (meth : ByteArray) (s : St) (w : World) (h : Rdr w F g meth s) :
    Calls Tryz.prog 17 #[.pointer (some ⟨g, 0, none⟩)] w fun e w' => e = .returned (.bool (s.kind == 5)) ∧ w' = w := by
  obtain ⟨R, r, l, h1, h2, h3, h4, h5, h6, h7, h8, h9⟩ := h.is
  have c6 := h1.cells.2.2.2.2.1
  rw [h6] at c6
  clear h1 h2 h3 h4 h5 h6 h7 h8 h9 h
  go_enter Tryz.func17, Tryz.ntmps17
  go_wp2_with fail
  go_ret
  exact ⟨rfl, rfl⟩
theorem emb_len {w : World} {b o : Nat} {T : TypeId} {cs : Array Value} {p v : Value} {l : List UInt8} (h : Emb w b o T cs p v l) :
    Calls Tryz.prog 24 #[.pointer (some ⟨b, o, none⟩)] w fun e w' => e = .returned (.int .i64 (l.length : Nat)) ∧ w' = w := by
  have c1 := (h.has.cell (o + 1)).trans h.c1
  obtain ⟨pp, cap, rfl⟩ := h.row.form
  clear h
  go_enter Tryz.func24, Tryz.ntmps24
  go_wp2_with fail
  go_ret
  exact ⟨rfl, rfl⟩
theorem plen12 (F : Nat → Prop) (g : Nat) (meth : ByteArray) (s : St) (hs : s.data.length ≤ 4611686018427387904) (w : World) (h : Rdr w F g meth s) :
    Calls Tryz.prog 18 #[.pointer (some ⟨g, 0, none⟩)] w fun e w' => e = .returned (.int .i64 (s.data.length : Nat)) ∧ Below w.heap.size w w' := by
  obtain ⟨R, r, l, h1, h2, h3, h4, h5, h6, h7, h8, h9⟩ := h.is
  have c1 := h1.cells.2.1
  obtain ⟨p, v, hE, hv⟩ := h1.is
  have hsz : ((ofL r.A).size : Int) + (l.length : Int) = (s.data.length : Int) := by rw [← h3, List.length_append, ofL_size]; omega
  have hq1 : IntKind.i64.wrap (((ofL r.A).size : Int) + (l.length : Int)) = (s.data.length : Int) := by rw [hsz]; exact IntWalk.i64_in _ (by omega)
  have HL : Hid (∀ m, Calls Tryz.prog 24 #[.pointer (some ⟨g, 2, none⟩)] (w.drewN m) fun e w' => e = .returned (.int .i64 (l.length : Nat)) ∧ w' = w.drewN m) := Lib.hid (fun m => emb_len (hE.step (Step.drewN w m (fun _ => False)) (fun x => x) (fun _ _ x => x)))
  have HL0 : Hid (Calls Tryz.prog 24 #[.pointer (some ⟨g, 2, none⟩)] w fun e w' => e = .returned (.int .i64 (l.length : Nat)) ∧ w' = w) := Lib.hid (emb_len hE)
  have hq2 : (IntKind.i64.wrap (((ofL r.A).size : Int) + (l.length : Int))) = IntKind.i64.wrap (((ofL r.A).size : Int) + (l.length : Int)) := rfl
  have HBd : Hid (∀ m, Below w.heap.size w (w.drewN m)) := Lib.hid (fun m => ⟨rfl, rfl, rfl, Nat.le_refl _, fun _ _ => rfl⟩)
  clear h1 h2 h3 h4 h5 h6 h7 h8 h9 h hE hv hq2
  generalize ofL r.A = A at *
  generalize s.data.length = n at *
  go_enter Tryz.func18, Tryz.ntmps18
  go_wp2_with fail
  go_quiet ((go_at_call 24; exact Calls.quiet_of_same (by first | exact HL0.out | exact HL.out _)))
  go_wp2_with fail
  go_ret
  exact ⟨rfl, HBd.out _⟩
/-! ### what is left -/
theorem prest12 (F : Nat → Prop) (g : Nat) (meth : ByteArray) (s : St) (hs : s.data.length ≤ 4611686018427387904) (w : World) (h : Rdr w F g meth s) :
    Calls Tryz.prog 19 #[.pointer (some ⟨g, 0, none⟩)] w fun e w' => e = .returned (.string (ofL s.data)) ∧ Rdr w' F g meth { s with data := [] } ∧ Step w w' F F := by
  obtain ⟨R, r, l, h1, h2, h3, h4, h5, h6, h7, h8, h9⟩ := h.is
  have HT := Lib.hid ((ptext12 h1 (by rw [← h3, List.length_append] at hs; exact hs)).mono (fun e w1 ⟨x1, x2, x3⟩ => (⟨by rw [h3] at x1; exact x1, x2.cells.2.1, x2.free 1, Lib.hid (by
    have a := x2.put1 []
    have t := x3.trans (x2.step_put 1 (.string (ofL [])))
    have q := h8.step t (fun k _ hn hr => hn hr)
    exact ⟨⟨⟨R, _, [], a, h2, rfl, Nat.zero_le _, h5, h6, h7, ⟨q.fn, q.done, q.bad, q.len, q.dec⟩, h9⟩, h.mine, fun k hk => Nat.lt_of_lt_of_le (h.lt k hk) t.size⟩, t.up h9⟩)⟩ :
      e = Ending.returned (Value.string (ofL s.data)) ∧ w1.cell? ⟨g, 1, none⟩ = some (Value.string (ofL (r.A ++ l))) ∧ w1.frozen? ⟨g, 1, none⟩ = false ∧ Hid (Rdr (w1.setCell ⟨g, 1, none⟩ (Value.string ⟨#[]⟩)) F g meth { s with data := [] } ∧ Step w (w1.setCell ⟨g, 1, none⟩ (Value.string ⟨#[]⟩)) F F))))
  clear h1 h2 h3 h4 h5 h6 h7 h8 h9 h hs
  go_enter Tryz.func19, Tryz.ntmps19
  go_wp2_with fail
  refine HT.out.mono ?_
  rintro e w1 ⟨rfl, c1, z1, hF⟩
  clear HT
  go_wp2_with fail
  go_ret
  exact ⟨rfl, hF.out⟩
/-- may it be used again? -/
def reuseO (s : St) : Bool := decide (s.kind = 1 ∨ s.kind = 2 ∨ s.kind = 3) && (doneM s.md && s.kept && decide (s.data.length = 0) && !s.gone)
set_option maxHeartbeats 1600000 in
theorem preuse12 (F : Nat → Prop) (g : Nat) (meth : ByteArray) (s : St) (hs : s.data.length ≤ 4611686018427387904) (w : World) (h : Rdr w F g meth s) :
    Calls Tryz.prog 15 #[.pointer (some ⟨g, 0, none⟩)] w fun e w' => e = .returned (.bool (reuseO s)) ∧ Below w.heap.size w w' := by
  have HL := Lib.hid (fun W hb => plen12 F g meth s hs W (h.below hb))
  obtain ⟨R, r, l, h1, h2, h3, h4, h5, h6, h7, h8, h9⟩ := h.is
  have hcs := h1.cells
  have c4 := hcs.2.2.1
  have c6 := hcs.2.2.2.2.1
  have c7 := hcs.2.2.2.2.2.1
  have c10 := hcs.2.2.2.2.2.2.2.2.1
  rw [h5] at c4
  rw [h6] at c6
  rw [h7] at c7
  rw [h8.done] at c10
  have hgl := h.lt g h.mine
  have HB : Hid (∀ w1, Below w.heap.size w w1 → w1.cell? ⟨g, 4, none⟩ = some (.bool s.gone)) := Lib.hid (fun w1 hb => (hb.cell (p := ⟨g, 4, none⟩) hgl).trans c4)
  unfold reuseO
  clear hcs h1 h2 h3 h4 h5 h6 h7 h8 h9 h hs
  generalize s.kind = k at *
  generalize s.gone = go at *
  generalize s.kept = ke at *
  generalize doneM s.md = dn at *
  by_cases hk : k = 1 ∨ k = 2 ∨ k = 3
  · rw [decide_eq_true hk, Bool.true_and]
    cases dn with
    | false =>
      rcases hk with rfl | rfl | rfl
      all_goals
        clear HL HB
        go_enter Tryz.func15, Tryz.ntmps15
        go_wp2_with fail
        go_ret
        exact ⟨rfl, Below.refl _ _⟩
    | true =>
      cases ke with
      | false =>
        rcases hk with rfl | rfl | rfl
        all_goals
          clear HL HB
          go_enter Tryz.func15, Tryz.ntmps15
          go_wp2_with fail
          go_ret
          exact ⟨rfl, Below.refl _ _⟩
      | true =>
        have HL0 := Lib.hid (HL.out w (Below.refl _ _))
        clear HL
        generalize s.data.length = n at *
        by_cases hn : n = 0
        · subst hn
          rcases hk with rfl | rfl | rfl
          all_goals
            go_enter Tryz.func15, Tryz.ntmps15
            go_wp2_with fail
            refine HL0.out.mono ?_
            rintro e w1 ⟨rfl, hb⟩
            have c4b := HB.out w1 hb
            replace hb := Lib.hid hb
            clear HL0 HB
            go_wp2_with fail
            go_ret
            exact ⟨by cases go <;> rfl, hb.out⟩
        · have hn1 : ((n : Int) == 0) = false := beq_eq_false_iff_ne.2 (by omega)
          have hn2 : decide (n = 0) = false := decide_eq_false hn
          rw [hn2]
          rcases hk with rfl | rfl | rfl
          all_goals
            go_enter Tryz.func15, Tryz.ntmps15
            go_wp2_with fail
            refine HL0.out.mono ?_
            rintro e w1 ⟨rfl, hb⟩
            replace hb := Lib.hid hb
            clear HL0 HB hn2
            go_wp2_with fail
            go_ret
            exact ⟨rfl, hb.out⟩
  · rw [decide_eq_false hk, Bool.false_and]
    have k1 : (k == 1) = false := beq_eq_false_iff_ne.2 (fun e => hk (.inl e))
    have k2 : (k == 2) = false := beq_eq_false_iff_ne.2 (fun e => hk (.inr (.inl e)))
    have k3 : (k == 3) = false := beq_eq_false_iff_ne.2 (fun e => hk (.inr (.inr e)))
    clear HL HB hk
    go_enter Tryz.func15, Tryz.ntmps15
    go_wp2_with fail
    go_ret
    exact ⟨rfl, Below.refl _ _⟩
end Go.Proofs.YtggmafmebocoaaaGreatDoor.POutUse

/- Layer 12 of the program: Next, whatever stands next. -/
namespace Go.Proofs.YtggmafmebocoaaaGreatDoor.OutflowObj
open Go.ChangeShapes Go.WideShapes Go.ChangeAt Go.RowKit LexPure Bytes Ret FieldsPure HeadPure ChunkPure ChunkObj OutPure OutBox KeptRow Mem Step InEmb OutObj POutText POutEnds POutBody POutOpen POutHead POutNext POutUse PLib
set_option maxRecDepth 100000
theorem pnext12 (F : Nat → Prop) (g : Nat) (meth : ByteArray) (s : St) (hs : s.data.length ≤ 211106232532992) (w : World) (h : Rdr w F g meth s) (hm : MaxInt w) (hn : ¬ F MAXB) :
    Calls Tryz.prog 14 #[.pointer (some ⟨g, 0, none⟩)] w fun e w' => NextR w w' e F g meth s := by
  have hb : Below w.heap.size w (w.alloc (.cells zbox PT)) := (Below.refl _ _).alloc (Nat.le_refl _) _
  have h' := h.below hb
  cases hmd : s.md with
  | head => exact pnext_core _ (enters_of Tryz.func21 (by kernel_rfl) rfl) h (by rw [hmd]; rfl) (step_head h' hmd (by omega) (hm.below hb) hn)
  | len left => exact pnext_core _ (enters_of Tryz.func39 (by kernel_rfl) rfl) h (by rw [hmd]; rfl) (step_len left h' hmd (by omega))
  | chunks m => exact pnext_core _ (enters_of Tryz.func41 (by kernel_rfl) rfl) h (by rw [hmd]; rfl) (step_chunks m h' hmd hs)
  | all => exact pnext_core _ (enters_of Tryz.func42 (by kernel_rfl) rfl) h (by rw [hmd]; rfl) (step_all h' hmd (by omega))
  | fin => exact pnext_core _ (enters_of Tryz.func43 (by kernel_rfl) rfl) h (by rw [hmd]; rfl) (step_fin h' hmd)
  | nothing => exact pnext_core _ (enters_of Tryz.func70 (by kernel_rfl) rfl) h (by rw [hmd]; rfl) (step_nothing h' hmd)
  | bad e => exact pnext_core _ (enters_of Tryz.func23 (by kernel_rfl) rfl) h (by rw [hmd]; rfl) (step_bad h' e hmd)
end Go.Proofs.YtggmafmebocoaaaGreatDoor.OutflowObj
