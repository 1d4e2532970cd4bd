/- Texts of this seat, one behind another: PRBody11, PNextD, PNextE, PNextA, PNextB, PNextC. -/

import Derived.Test.YtmlpdhmafmdkcaaGreatDoorA13
import Derived.Test.YtmlpdhmafmdkcaaGreatDoorA4
/- Layer 11 of the program: readBody. -/
namespace Go.Proofs.YtmlpdhmafmdkcaaGreatDoor.PBody11
open Go.ChangeShapes Go.WideShapes Go.ChangeAt Go.RowKit LexPure Bytes Ret FieldsPure HeadPure FramePure ChunkPure ChunkObj InflowPure InJudge KeptRow Mem Step InEmb InObj PText11
set_option maxRecDepth 100000
set_option linter.unusedVariables false
set_option linter.unusedSimpArgs false
theorem row_off {w : World} {l : Value} {F : List HField} {h : Nat} {cs : Array Value} (hl : RowF w 0 l F) (hh : Has w h OT cs) : ∀ j, l.ownBlock = some j → j ≠ h := by
  intro j h1 e
  subst e
  rcases hl.1.2 with ⟨rfl, _⟩ | ⟨g, cap, cur, rfl, _, hg, _⟩
  · cases h1
  · injection h1 with h1
    subst h1
    rw [hh.at_] at hg
    injection hg with hg
    injection hg with _ ht _
    exact absurd ht (by decide)
set_option maxHeartbeats 3200000 in
theorem pbody11 {w : World} {O : Nat → Prop} {h : Nat} {most : Int} {D : List UInt8} (o : Opn w O h most D) (hD : D.length ≤ 4294967296) :
    Calls Tryz.prog 18 #[.pointer (some ⟨h, 0, none⟩), .string (ofL D)] w fun e w' => BodyR w w' e O h most D := by
  obtain ⟨q, l, hd, n, kind, len, k, dp, p, v, body, hE, hrow, hlO, hvO, h8, hj, hb⟩ := o.is
  obtain ⟨hqh, hqb, hqk, hql⟩ := judge_ok hj
  have hn := (read_front false D hd n h8).1
  have hR : read11 most D = body11 q n kind len most (D.drop n) := by rw [read11_prog, h8]; show after11 (judge11 hd most) n most (D.drop n) = _; rw [hj]; rfl
  have hoff := row_off hrow hE.has
  have hl2 : ∀ j, l.ownBlock = some j → O j ∧ j ≠ h := fun j hj => ⟨hlO j hj, hoff j hj⟩
  have c18 : w.cell? ⟨h, 18, none⟩ = some (.int .i64 kind) := (hE.has.cell 18).trans rfl
  by_cases k1 : kind = 1
  · have h2 : (kind == 2) = false := by rw [k1]; rfl
    have h3 : (kind == 3) = false := by rw [k1]; rfl
    obtain ⟨k0, dp0⟩ := hb.plain (by omega)
    subst k0
    have HF : Hid (BodyR w w (.returned (.tuple #[.bool true, .int .i64 0])) O h most D) := Lib.hid ⟨true, 0, O, rfl, Step.refl w O, .inr (.inr ⟨rfl, rfl, q, n, by rw [hR]; unfold body11; rw [if_pos k1], hn, ⟨⟨l, kind, len, dp, p, v, body, hE, hrow, hlO⟩, o.mine, o.lt⟩⟩)⟩
    generalize ofL D = S at *
    clear hE hrow hlO hvO h8 hj hb hqh hqb hqk hql hn hR hoff hl2 o k1
    go_enter Tryz.func18, Tryz.ntmps18
    go_wp2_with fail
    go_ret2
    exact HF.out
  by_cases k2 : kind = 2
  · have h2 : (kind == 2) = true := by rw [k2]; rfl
    obtain ⟨k0, dp0⟩ := hb.plain (by omega)
    subst k0
    have h0 := (hql k2).1
    have HL := Lib.hid (plength11 hE hrow hl2 o.mine o.lt hn hD h0)
    have HF : Hid (∀ w' e, LenR w w' e O h q n len D → ∃ whole, e = .returned (.bool whole) ∧ BodyR w w' (.returned (.tuple #[.bool whole, .int .i64 0])) O h most D) := Lib.hid (fun w' e x => by
      obtain ⟨whole, e1, e2⟩ := x
      refine ⟨whole, e1, ?_⟩
      rcases e2 with ⟨r1, r2, r3⟩ | ⟨r1, r2, r3, r4⟩
      · rw [r3]
        exact ⟨whole, 0, O, rfl, Step.refl w O, .inr (.inl ⟨rfl, r1, by rw [hR]; unfold body11; rw [if_neg k1, if_pos k2, if_pos r2], o⟩)⟩
      · exact ⟨whole, 0, O, rfl, r4, .inr (.inr ⟨rfl, r1, _, _, by rw [hR]; unfold body11; rw [if_neg k1, if_pos k2, if_neg r2], by rw [List.length_drop] at r2; omega, r3⟩)⟩)
    generalize ofL D = S at *
    clear hE hrow hlO hvO h8 hj hb hqh hqb hqk hql hn hR hoff hl2 o k1 k2 h0
    go_enter Tryz.func18, Tryz.ntmps18
    go_wp2_with fail
    refine HL.out.mono ?_
    intro e w2 hx
    obtain ⟨whole, rfl, hF⟩ := HF.out w2 e hx
    replace hF := Lib.hid hF
    clear HL HF hx
    go_wp2_with fail
    go_ret2
    exact hF.out
  · have k3 : kind = 3 := by omega
    have h2 : (kind == 2) = false := by rw [k3]; rfl
    have h3 : (kind == 3) = true := by rw [k3]; rfl
    obtain ⟨gd, G, m, hdp, hDec, hG, hkB, hr, hs⟩ := hb.chunks k3
    subst hdp
    have HL := Lib.hid (pchunks11 hE hrow hl2 hvO o.mine o.lt hn hD k3 hDec hG hkB hr hs)
    have hu := (ans_used (begin_ most) (D.drop n)).1
    rw [List.length_drop] at hu
    have HF : Hid (∀ w' e, ChR w w' e O h q l n kind len most (D.drop n) → ∃ whole er, e = .returned (.tuple #[.bool whole, .int .i64 er]) ∧ BodyR w w' (.returned (.tuple #[.bool whole, .int .i64 er])) O h most D) := Lib.hid (fun w' e x => by
      obtain ⟨whole, er, O', e1, s1, e2⟩ := x
      refine ⟨whole, er, e1, whole, er, O', rfl, s1, ?_⟩
      rcases e2 with ⟨r1, r2⟩ | ⟨r1, r2, r3, r4, r5, r6, r7, r8⟩
      · exact .inl ⟨r1, by rw [hR, body_three k3, if_pos (by rw [r2]; exact r1), r2]⟩
      · rcases r8 with ⟨t1, dp2, p2, v2, b2, t2⟩ | ⟨t1, k', dp2, p2, v2, b2, t2, t3, t4⟩
        · refine .inr (.inr ⟨r1, t1, _, _, by rw [hR, body_three k3, if_neg (by rw [r3]; exact fun x => x rfl), if_pos (by rw [← r2]; exact t1)], by omega, ⟨⟨l, kind, len, dp2, p2, v2, b2, t2, r6, r7⟩, r4, r5⟩⟩)
        · refine .inr (.inl ⟨r1, t1, by rw [hR, body_three k3, if_neg (by rw [r3]; exact fun x => x rfl), if_neg (by rw [← r2, t1]; exact fun x => by cases x)], ⟨⟨q, l, hd, n, kind, len, k', dp2, p2, v2, b2, t2, r6, r7, t3, h8, hj, t4⟩, r4, r5⟩⟩))
    generalize ofL D = S at *
    clear hE hrow hlO hvO h8 hj hb hqh hqb hqk hql hn hR hoff hl2 o k1 k2 k3 hDec hG hkB hr hs hu
    go_enter Tryz.func18, Tryz.ntmps18
    go_wp2_with fail
    refine HL.out.mono ?_
    intro e w2 hx
    obtain ⟨whole, er, rfl, hF⟩ := HF.out w2 e hx
    replace hF := Lib.hid hF
    clear HL HF hx
    go_wp2_with fail
    go_ret2
    exact hF.out
end Go.Proofs.YtmlpdhmafmdkcaaGreatDoor.PBody11

/- Layer 11 of the program: Next, its words. -/
namespace Go.Proofs.YtmlpdhmafmdkcaaGreatDoor.InflowObj
open Go.ChangeShapes Go.WideShapes Go.ChangeAt Go.RowKit LexPure Bytes Ret FieldsPure Flds HeadPure HBox FramePure ChunkPure InflowPure InJudge QCell KeptRow PStat11 PJudge PUnder POpen11 PBody11 Mem Step InEmb InObj PText11 PUse11
set_option maxRecDepth 100000
set_option linter.unusedVariables false
set_option linter.unusedSimpArgs false
theorem end_q3 {W : World} {g : Nat} {cs : Array Value} {x y : Value} {tmps : Array Value} {p t u : Tmp} (hz : cs.size = 18) (hp : tmps.getD p undef = .pointer (some ⟨g, 0, none⟩)) (ht : tmps.getD t undef = x) (hu : tmps.getD u undef = y) (b : Has W g RQT cs) :
    (((asAddr (tmps.getD p undef)).run Tryz.prog W).andThen fun a w₁ => ((loadVar RQT a).run Tryz.prog w₁).andThen fun v w₂ => .ok (Value.tuple #[v, tmps.getD t undef, tmps.getD u undef]) w₂) = .ok (Value.tuple #[.agg cs, x, y]) W := by
  rw [hp, ht, hu]
  have := qload_at hz b
  simp [asAddr, Result.andThen, this]
/-- Next's own box b; the reader stands, and its request, if one is opened, in O -/
structure NS (w W : World) (F R O : Nat → Prop) (g : Nat) (most : Int) (T : List UInt8) (U E : Nat) (op : Option Nat) (st : Int) (D : List UInt8) : Prop where
  dat : Dat W R g most T U E op st
  drop : T.drop U = D
  le : U ≤ D.length
  ahead : Ahead D E
  opn : ∀ h, op = some h → Opn W O h most D
  apart : ∀ k, O k → ¬ R k
  low : ∀ k, O k → k < W.heap.size
  step : Step w W F (fun k => R k ∨ O k)
  res : Has W w.heap.size RQT zq
  nr : ¬ R w.heap.size
  no : ¬ O w.heap.size
section
variable {w W W2 : World} {F R O : Nat → Prop} {g : Nat} {most : Int} {T : List UInt8} {U E : Nat} {op : Option Nat} {st : Int} {D : List UInt8}
/-- an end with nothing told -/
theorem NS.zero (n : NS w W F R O g most T U E op st D) (hos : ∀ h, op = some h → st = 0) {X : In} (hX : outR X = (zeroQ, false, st)) (hl : leftR D X = D) (hs : stR X = st) (hS2 : Step W W2 (fun k => k = w.heap.size) (fun k => k = w.heap.size)) :
    NextR w W2 (.returned (.tuple #[.agg zq, .bool false, .int .i64 st])) F g most D X := by
  have hR2 : ∀ k, R k → ¬ k = w.heap.size := fun k hk e => n.nr (by rw [← e]; exact hk)
  have hO2 : ∀ k, O k → ¬ k = w.heap.size := fun k hk e => n.no (by rw [← e]; exact hk)
  refine ⟨.slice none 0 0, fun k => R k ∨ O k, by rw [hX]; rfl, by rw [hX]; exact row_none _ _, fun b hb => (by cases hb), ?_, n.step.beyond hS2 (fun j hj => by rw [hj]; exact Nat.le_refl _)⟩
  rw [hl, hs]
  refine ⟨⟨R, T, U, E, op, n.dat.step hS2 hR2, n.drop, n.le, n.ahead, fun k hk => .inl hk, fun h hh => ⟨hos h hh, O, (n.opn h hh).step hS2 hO2, fun k hk => ⟨.inr hk, n.apart k hk⟩⟩⟩, .inl n.dat.mine, fun k hk => ?_⟩
  rcases hk with hk | hk
  · exact Nat.lt_of_lt_of_le (n.dat.lt k hk) hS2.size
  · exact Nat.lt_of_lt_of_le (n.low k hk) hS2.size
theorem row_set (W : World) (b : Nat) (cs : Array Value) : Step W (W.setRow b cs) (fun k => k = b) (fun k => k = b) :=
  ⟨rfl, rfl, rfl, by simp [World.setRow], fun k _ hk => setRow_other W b k cs hk, fun _ h => .inl h⟩
theorem NS.putS (n : NS w W F R O g most T U E op st D) (hRF : ∀ k, R k → F k) (s : Int) : NS w (W.setCell ⟨g, 6, none⟩ (.int .i64 s)) F R O g most T U E op s D := by
  have s1 : Step W (W.setCell ⟨g, 6, none⟩ (.int .i64 s)) R R := n.dat.step_put 6 _
  refine ⟨n.dat.putS s, n.drop, n.le, n.ahead, fun h hh => (n.opn h hh).step s1 n.apart, n.apart, fun k hk => Nat.lt_of_lt_of_le (n.low k hk) s1.size, ?_, s1.has n.res n.nr, n.nr, n.no⟩
  exact n.step.trans (Step.set_ W (.inl n.dat.mine) 6 _)
/-- the opened request is given up -/
theorem NS.drop5 (n : NS w W F R O g most T U E op st D) : NS w (W.setCell ⟨g, 5, none⟩ (.pointer none)) F R (fun _ => False) g most T U E none st D := by
  have s1 : Step W (W.setCell ⟨g, 5, none⟩ (.pointer none)) R R := n.dat.step_put 5 _
  refine ⟨n.dat.putO none, n.drop, n.le, n.ahead, fun h hh => (by cases hh), fun k hk => hk.elim, fun k hk => hk.elim, ?_, s1.has n.res n.nr, n.nr, fun x => x⟩
  exact (n.step.trans (Step.set_ W (.inl n.dat.mine) 5 _)).less (fun k hk => by
    rcases hk with hk | hk
    · exact .inl hk
    · exact hk.elim)
/-- the body has been read on: w1 behind text, w2 behind readBody -/
theorem NS.body (n : NS w W F R O g most T U E op st D) {w1 w2 : World} {O' : Nat → Prop} (hk : Kept2 W.drew w1 R g most T U E op st) (hs : Step w1 w2 O O') :
    Dat w2 R g most T U E op st ∧ Step w w2 F (fun k => R k ∨ O' k) ∧ Has w2 w.heap.size RQT zq ∧ (∀ k, O' k → ¬ R k) ∧ ¬ O' w.heap.size := by
  have hRO : ∀ k, R k → ¬ O k := fun k hk ho => n.apart k ho hk
  have s1 : Step W w1 R R := (Step.drew W R).trans hk.2
  have d2 := hk.1.step hs hRO
  have hlt := n.res.lt
  refine ⟨d2, ?_, hs.has (s1.has n.res n.nr) n.no, fun k hk' hr => ?_, fun ho => ?_⟩
  · have t1 : Step w w1 F (fun k => R k ∨ O k) := n.step.trans (s1.up (fun k hk => .inl hk))
    have t2 : Step w1 w2 (fun k => R k ∨ O k) (fun k => R k ∨ O' k) := hs.more (fun k hk => .inr hk) (fun k hk => (hs.grow k hk).imp .inr id) |>.regrow (fun k hk => by
      rcases hk with hk | hk
      · exact .inl (.inl hk)
      · exact (hs.grow k hk).imp .inr id)
    exact t1.trans t2
  · rcases hs.grow k hk' with x | x
    · exact n.apart k x hr
    · have := n.dat.lt k hr
      have := s1.size
      omega
  · rcases hs.grow _ ho with x | x
    · exact n.no x
    · have := s1.size
      omega
/-- a whole request's cells -/
theorem fin_range {w : World} {h : Nat} {q : Rq} {l : Value} {kind len : Int} {rd : Nat} {dp p v : Value} (hh : Has w h OT (ocl q l kind len rd dp p v)) : w.rangeAt h 0 (qcl q l).toList := by
  intro j u hj
  rw [Nat.zero_add]
  have hlt : j < 18 := by
    have := (List.getElem?_eq_some_iff.1 hj).1
    rwa [qcl_len] at this
  rw [hh.cell j, ← hj]
  match j, hlt with
  | 0, _ => rfl
  | 1, _ => rfl
  | 2, _ => rfl
  | 3, _ => rfl
  | 4, _ => rfl
  | 5, _ => rfl
  | 6, _ => rfl
  | 7, _ => rfl
  | 8, _ => rfl
  | 9, _ => rfl
  | 10, _ => rfl
  | 11, _ => rfl
  | 12, _ => rfl
  | 13, _ => rfl
  | 14, _ => rfl
  | 15, _ => rfl
  | 16, _ => rfl
  | 17, _ => rfl
end
end Go.Proofs.YtmlpdhmafmdkcaaGreatDoor.InflowObj

/- Layer 11 of the program: Next, behind readBody. -/
namespace Go.Proofs.YtmlpdhmafmdkcaaGreatDoor.InflowObj
open Go.ChangeShapes Go.WideShapes Go.ChangeAt Go.RowKit LexPure Bytes Ret FieldsPure Flds HeadPure HBox FramePure ChunkPure InflowPure InJudge QCell KeptRow PStat11 PJudge PUnder POpen11 PBody11 Mem Step InEmb InObj PText11 PUse11
set_option maxRecDepth 100000
set_option linter.unusedVariables false
set_option linter.unusedSimpArgs false
/-- behind readBody -/
def BodyN (w w2 : World) (F R : Nat → Prop) (g : Nat) (most : Int) (T : List UInt8) (U E hh : Nat) (D : List UInt8) (whole : Bool) (er : Int) : Prop :=
  (er ≠ 0 ∧ read11 most D = .fail (InflowPure.status11 er) ∧ NS w ((w2.setCell ⟨g, 6, none⟩ (.int .i64 (InflowPure.status11 er))).setCell ⟨g, 5, none⟩ (.pointer none)) F R (fun _ => False) g most T U E none (InflowPure.status11 er) D) ∨
  (er = 0 ∧ whole = false ∧ read11 most D = .wait ∧ ∃ O', NS w w2 F R O' g most T U E (some hh) 0 D) ∨
  (er = 0 ∧ whole = true ∧ ∃ (q : Rq) (rd : Nat) (l : Value), read11 most D = .whole q rd ∧ rd ≤ D.length ∧ l.oneCell' = true ∧ w2.rangeAt hh 0 (qcl q l).toList ∧ w2.cell? ⟨hh, 20, none⟩ = some (.int .i64 (rd : Int)) ∧
    Dat (w2.alloc (.cells (qcl q l) RQT)) R g most T U E (some hh) 0 ∧ (w2.alloc (.cells (qcl q l) RQT)).cell? ⟨hh, 20, none⟩ = some (.int .i64 (rd : Int)) ∧
    ∀ w4, Used2 (w2.alloc (.cells (qcl q l) RQT)) w4 R g most (D.drop rd) 0 → Has w4 w2.heap.size RQT (qcl q l) ∧ Has w4 w.heap.size RQT zq ∧ NextR w (w4.setRow w.heap.size (qcl q l)) (.returned (.tuple #[.agg (qcl q l), .bool true, .int .i64 0])) F g most D (.whole q rd))
set_option maxHeartbeats 1600000 in
theorem NS.read {w W : World} {F R O : Nat → Prop} {g : Nat} {most : Int} {T : List UInt8} {U E hh : Nat} {D : List UInt8} (n : NS w W F R O g most T U E (some hh) 0 D) (hRF : ∀ k, R k → F k) (hD : D.length ≤ 4294967296) {w1 : World} (hk : Kept2 W.drew w1 R g most T U E (some hh) 0) :
    Calls Tryz.prog 18 #[.pointer (some ⟨hh, 0, none⟩), .string (ofL D)] w1 fun e w2 => ∃ whole er, e = .returned (.tuple #[.bool whole, .int .i64 er]) ∧ Dat w2 R g most T U E (some hh) 0 ∧ BodyN w w2 F R g most T U E hh D whole er := by
  have s1 : Step W w1 R R := (Step.drew W R).trans hk.2
  have ho : Opn w1 O hh most D := (n.opn hh rfl).step s1 n.apart
  refine (pbody11 ho hD).mono ?_
  rintro e w2 ⟨whole, er, O', rfl, hs, hc⟩
  obtain ⟨d2, t2, r2, a2, no2⟩ := n.body hk hs
  refine ⟨whole, er, rfl, d2, ?_⟩
  rcases hc with ⟨h1, h2⟩ | ⟨h1, h2, h3, h4⟩ | ⟨h1, h2, q, rd, h3, h4, h5⟩
  · refine .inl ⟨h1, h2, ?_⟩
    have dS := d2.putS (InflowPure.status11 er)
    have p1 : Step w2 ((w2.setCell ⟨g, 6, none⟩ (.int .i64 (InflowPure.status11 er))).setCell ⟨g, 5, none⟩ (.pointer none)) R R := (d2.step_put 6 _).trans (dS.step_put 5 _)
    refine ⟨dS.putO none, n.drop, n.le, n.ahead, fun h hh => (by cases hh), fun k hk => hk.elim, fun k hk => hk.elim, ?_, p1.has r2 n.nr, n.nr, fun x => x⟩
    exact ((t2.less (fun k hk => .inl hk) : Step w w2 F R).trans p1).less (fun k hk => hk.elim id (fun x => x.elim))
  · exact .inr (.inl ⟨h1, h2, h3, O', ⟨d2, n.drop, n.le, n.ahead, fun h hh => (by cases hh; exact h4), a2, h4.lt, t2, r2, n.nr, no2⟩⟩)
  · obtain ⟨l, kind, len, dp, p, v, body, hE, hrow, hlO⟩ := h5.is
    have hl1 : l.oneCell' = true := by
      rcases hrow.1.2 with ⟨hv, _⟩ | ⟨gg, cap, cur, hv, _⟩
      · rw [hv]; rfl
      · rw [hv]; rfl
    have hhlt : hh < w2.heap.size := hE.has.lt
    have s3 : Step w2 (w2.alloc (.cells (qcl q l) RQT)) (fun _ => False) (fun _ => False) := Step.alloc w2 _ _
    have c20 : w2.cell? ⟨hh, 20, none⟩ = some (.int .i64 (rd : Int)) := (hE.has.cell 20).trans rfl
    refine .inr (.inr ⟨h1, h2, q, rd, l, h3, h4, hl1, fin_range hE.has, c20, d2.step s3 (fun _ _ x => x), ?_, ?_⟩)
    · rw [s3.cell hhlt (fun x => x)]; exact c20
    · intro w4 hu
      have hblt := r2.lt
      have hsz : (w2.alloc (.cells (qcl q l) RQT)).heap.size = w2.heap.size + 1 := by simp
      obtain ⟨R', T', U', u1, u2, u3, u4⟩ := hu
      have hRl : ∀ k, R k → k < w2.heap.size := d2.lt
      have hR' : ∀ k, R' k → R k ∨ w2.heap.size < k := fun k hk => by
        rcases u4.grow k hk with x | x
        · exact .inl x
        · exact .inr (by omega)
      have hnew : Has w4 w2.heap.size RQT (qcl q l) := u4.has (Has.new w2 RQT (qcl q l)) (fun x => by have := hRl _ x; omega)
      have hres : Has w4 w.heap.size RQT zq := u4.has (s3.has r2 (fun x => x)) n.nr
      have s5 : Step w4 (w4.setRow w.heap.size (qcl q l)) (fun k => k = w.heap.size) (fun k => k = w.heap.size) := row_set _ _ _
      have hlR : ∀ j, l.ownBlock = some j → ¬ R j := fun j hj => a2 j (hlO j hj)
      have hlb : ∀ j, l.ownBlock = some j → ¬ j = w.heap.size := fun j hj e => no2 (by rw [← e]; exact hlO j hj)
      refine ⟨hnew, hres, l, R', rfl, ?_, fun j hj => ⟨?_, fun x => ?_⟩, ?_, ?_⟩
      · exact row_step (row_step (row_step hrow s3 (fun _ _ x => x)) u4 hlR) s5 hlb
      · rcases t2.grow j (.inr (hlO j hj)) with x | x
        · exact .inl x
        · exact .inr x.1
      · rcases hR' j x with y | y
        · exact hlR j hj y
        · have := row_lt hrow.1 hj
          omega
      · have hRn : ∀ k, R' k → ¬ k = w.heap.size := fun k hk e => by
          rcases hR' k hk with y | y
          · exact n.nr (by rw [← e]; exact y)
          · omega
        exact (⟨⟨R', T', U', 0, none, u1, u2, u3, Ahead.zero _, fun k hk => hk, fun h hh => by cases hh⟩, u1.mine, u1.lt⟩ : Rdr w4 R' g most (D.drop rd) 0).step s5 hRn
      · have t3 : Step w (w2.alloc (.cells (qcl q l) RQT)) F R := (t2.less (fun k hk => .inl hk) : Step w w2 F R).trans (Step.alloc w2 _ R)
        exact (t3.trans u4).beyond s5 (fun j hj => by rw [hj]; exact Nat.le_refl _)
end Go.Proofs.YtmlpdhmafmdkcaaGreatDoor.InflowObj

/- Layer 11 of the program: Next, of a reader whose reading has ended. -/
namespace Go.Proofs.YtmlpdhmafmdkcaaGreatDoor.InflowObj
open Go.ChangeShapes Go.WideShapes Go.ChangeAt Go.RowKit LexPure Bytes Ret FieldsPure Flds HeadPure HBox FramePure ChunkPure InflowPure InJudge QCell KeptRow PStat11 PJudge PUnder POpen11 PBody11 Mem Step InEmb InObj PText11 PUse11
set_option maxRecDepth 100000
set_option linter.unusedVariables false
set_option linter.unusedSimpArgs false
set_option maxHeartbeats 6400000 in
theorem pnextA {w : World} {F R O : Nat → Prop} {g : Nat} {most : Int} {T : List UInt8} {U E : Nat} {st : Int} {D : List UInt8} (hN : NS w (w.alloc (.cells zq RQT)) F R O g most T U E none st D) (hst : st ≠ 0) :
    Calls Tryz.prog 12 #[.pointer (some ⟨g, 0, none⟩)] w fun e w' => NextR w w' e F g most D (nx most D st) := by
  have hstb : (st == 0) = false := beq_eq_false_iff_ne.2 hst
  unfold zq at hN
  have hFin : Hid (∀ W2, Step (w.alloc (.cells #[.string ⟨#[]⟩, .string ⟨#[]⟩, .int .i64 0, .string ⟨#[]⟩, .int .i64 0, .slice none 0 0, .int .i64 0, .string ⟨#[]⟩, .int .i64 0, .string ⟨#[]⟩, .string ⟨#[]⟩, .bool false, .string ⟨#[]⟩, .int .i64 0, .string ⟨#[]⟩, .bool false, .bool false, .string ⟨#[]⟩] RQT)) W2 (fun k => k = w.heap.size) (fun k => k = w.heap.size) → NextR w W2 (.returned (.tuple #[.agg zq, .bool false, .int .i64 st])) F g most D (nx most D st)) := Lib.hid (fun W2 hS2 => hN.zero (fun _ hh => by cases hh) (by unfold nx; rw [if_pos hst]; rfl) (by unfold nx; rw [if_pos hst]; rfl) (by unfold nx; rw [if_pos hst]; rfl) hS2)
  obtain ⟨_, _, _, c5, c6a⟩ := hN.dat.cells
  unfold opV at c5
  replace hN := Lib.hid hN
  clear hst
  go_enter Tryz.func12, Tryz.ntmps12
  go_wp2_with fail
  generalize w.alloc (.cells #[.string ⟨#[]⟩, .string ⟨#[]⟩, .int .i64 0, .string ⟨#[]⟩, .int .i64 0, .slice none 0 0, .int .i64 0, .string ⟨#[]⟩, .int .i64 0, .string ⟨#[]⟩, .string ⟨#[]⟩, .bool false, .string ⟨#[]⟩, .int .i64 0, .string ⟨#[]⟩, .bool false, .bool false, .string ⟨#[]⟩] RQT) = W0 at hN hFin c5 c6a ⊢
  clear c5 c6a
  have c6 : W0.drew.cell? ⟨g, 6, none⟩ = some (.int .i64 (st)) := hN.out.dat.cells.2.2.2.2
  have hres := hN.out.res.drew
  have hS9 : Step W0 (W0.drew.setRow w.heap.size zq) (fun k => k = w.heap.size) (fun k => k = w.heap.size) := (Step.drew W0 _).trans (row_set _ _ _)
  have c6b : (W0.drew.setRow w.heap.size zq).cell? ⟨g, 6, none⟩ = some (.int .i64 (st)) := (hN.out.dat.step hS9 (fun k hk e => hN.out.nr (by rw [← e]; exact hk))).cells.2.2.2.2
  have hE9 := Lib.hid (hFin.out _ hS9)
  have hH9 := PJudge.has_row hres zq
  refine wp_region_held_drew (S := fun w' => w'.cell? ⟨g, 6, none⟩ = some (.int .i64 (st))) (by kernel_rfl) c6 (fun hHeld => ?_)
  refine wpAnyH_take (i := 1) (v := .pointer (some ⟨g, 0, none⟩)) rfl (by kernel_rfl) (by kernel_rfl) (by kernel_rfl) (fun _ _ _ h => h) (Or.inl ⟨by rfl, (fun w _ => by go_simp)⟩) hHeld ?_
  refine wpAnyH_take (i := 2) (v := .pointer (some ⟨g, 0, none⟩)) rfl (by kernel_rfl) (by kernel_rfl) (by kernel_rfl) (fun _ _ _ h => h) (Or.inl ⟨by rfl, (fun w _ => by go_simp)⟩) hHeld ?_
  refine wpAnyH_take (i := 3) (v := .pointer (some ⟨g, 6, none⟩)) rfl (by kernel_rfl) (by kernel_rfl) (by kernel_rfl) (fun _ _ _ h => h) (Or.inl ⟨by rfl, (fun w _ => by go_simp)⟩) hHeld ?_
  refine wpAnyH_take (i := 4) (v := .int .i64 (st)) rfl (by kernel_rfl) (by kernel_rfl) (by kernel_rfl) (fun _ _ _ h => h) (Or.inl ⟨by rfl, (fun w hSw => by have c6 := hSw; go_simp)⟩) hHeld ?_
  refine wpAnyH_ready (rs := [0]) (by kernel_rfl) (by simp) (AllReadyH.cons rfl (fun K hK => ?_) AllReadyH.nil)
  go_simp
  refine hK.out _ _ c6 (fun hHeld => ?_)
  clear hK
  refine wpAnyH_ready (rs := [5]) (by kernel_rfl) (by simp) (AllReadyH.cons rfl (fun K hK => ?_) AllReadyH.nil)
  rw [if_pos (by rfl)]
  refine wp_store_row RQT (.tmp 2) (.tmp 30) rfl w.heap.size zq rfl rfl RQT _ hres.at_ rq_size rfl zq_one ?_
  refine hK.out _ _ c6b (fun hHeld => ?_)
  clear hK
  refine wpAnyH_ready (rs := [6]) (by kernel_rfl) (by simp) (AllReadyH.cons rfl (fun K hK => ?_) AllReadyH.nil)
  go_simp
  refine hK.out _ _ c6b (fun hHeld => ?_)
  clear hK
  refine wpAnyH_ready (rs := [7]) (by kernel_rfl) (by simp) (AllReadyH.cons rfl (fun K hK => ?_) AllReadyH.nil)
  go_simp
  refine hK.out _ _ c6b (fun hHeld => ?_)
  clear hK hHeld
  refine wpAnyH_done (by kernel_rfl) ?_ _
  go_wp2_with fail
  refine bodyPost_ret (v := .tuple #[.agg zq, .bool false, .int .i64 (st)]) ?_ rfl hE9.out
  rw [results_cell_tmp2 rfl]
  exact end_q3 rfl rfl rfl rfl hH9
end Go.Proofs.YtmlpdhmafmdkcaaGreatDoor.InflowObj

/- Layer 11 of the program: Next, where a head must be read first. -/
namespace Go.Proofs.YtmlpdhmafmdkcaaGreatDoor.InflowObj
open Go.ChangeShapes Go.WideShapes Go.ChangeAt Go.RowKit LexPure Bytes Ret FieldsPure Flds HeadPure HBox FramePure ChunkPure InflowPure InJudge QCell KeptRow PStat11 PJudge PUnder POpen11 PBody11 Mem Step InEmb InObj PText11 PUse11
set_option maxRecDepth 100000
set_option linter.unusedVariables false
set_option linter.unusedSimpArgs false
/-- behind open, its status stored -/
theorem NS.opened {w W w1 : World} {F R O : Nat → Prop} {g : Nat} {most : Int} {T : List UInt8} {U E : Nat} {D : List UInt8} {e : Ending} (n : NS w W F R O g most T U E none 0 D) (hO : ∀ k, ¬ O k) (hRF : ∀ k, R k → F k) (h : OpenR W w1 e R g most T U) :
    ∃ s E2, e = .returned (.int .i64 s) ∧ ((∃ op, Dat w1 R g most T U E2 op 0)) ∧ ((NS w (w1.setCell ⟨g, 6, none⟩ (.int .i64 s)) F R (fun _ => False) g most T U E2 none s D ∧ ((s = 0 ∧ read11 most D = .wait) ∨ read11 most D = .fail s)) ∨ (s = 0 ∧ ∃ hh O2, NS w (w1.setCell ⟨g, 6, none⟩ (.int .i64 0)) F R O2 g most T U E2 (some hh) 0 D)) := by
  obtain ⟨s, E2, rfl, hA, hs, hc⟩ := h
  rw [n.drop] at hA hc
  have t1 : Step w w1 F R := (n.step.less (fun k hk => .inl hk) : Step w W F R).trans hs
  have r1 := hs.has n.res n.nr
  rcases hc with ⟨hd, hx⟩ | ⟨h0, hh, O2, hd, ho, hl⟩
  · refine ⟨s, E2, rfl, ⟨_, hd⟩, .inl ⟨?_, ?_⟩⟩
    · have p1 := hd.step_put 6 (.int .i64 s)
      refine ⟨hd.putS s, n.drop, n.le, hA, fun h hh => (by cases hh), fun k hk => hk.elim, fun k hk => hk.elim, ?_, p1.has r1 n.nr, n.nr, fun x => x⟩
      exact (t1.trans p1).less (fun k hk => hk.elim id (fun x => x.elim))
    · rcases hx with ⟨a, b⟩ | ⟨a, b⟩
      · exact .inl ⟨a, b⟩
      · exact .inr b
  · refine ⟨s, E2, rfl, ⟨_, hd⟩, .inr ⟨h0, hh, O2, ?_⟩⟩
    have hbl := n.res.lt
    have hap : ∀ k, O2 k → ¬ R k := fun k hk hr => by
      have := hl k hk
      have := n.dat.lt k hr
      omega
    have p1 := hd.step_put 6 (.int .i64 0)
    refine ⟨hd.putS 0, n.drop, n.le, hA, fun h hh2 => (by cases hh2; exact ho.step p1 hap), hap, fun k hk => Nat.lt_of_lt_of_le (ho.lt k hk) p1.size, ?_, p1.has r1 n.nr, n.nr, fun x => by have := hl _ x; omega⟩
    have hws := n.step.size
    exact (t1.trans p1).regrow (fun k hk => by
      rcases hk with x | x
      · exact (t1.trans p1).grow k x
      · have a1 := hl k x
        have a2 := ho.lt k x
        have a3 := p1.size
        exact .inr ⟨by omega, by omega⟩)
set_option maxHeartbeats 6400000 in
theorem pnextB {w : World} {F R O : Nat → Prop} {g : Nat} {most : Int} {T : List UInt8} {U E0 : Nat} {D : List UInt8} (hN : NS w (w.alloc (.cells zq RQT)) F R O g most T U E0 none 0 D) (hO : ∀ k, ¬ O k) (h5 : ∀ k, R k → F k) (hTl : T.length ≤ 4294967296) (hDl : D.length ≤ 4294967296) (hr : ChObj.InR most) (hm : MaxInt w) (hn : ¬ F MAXB) :
    Calls Tryz.prog 12 #[.pointer (some ⟨g, 0, none⟩)] w fun e w' => NextR w w' e F g most D (nx most D 0) := by
  obtain ⟨_, _, _, c5, c6⟩ := hN.dat.cells
  unfold opV at c5
  have hdrop := Lib.hid hN.drop
  have hm0 : MaxInt (w.alloc (.cells zq RQT)) := hm.below ((Below.refl _ _).alloc (Nat.le_refl _) _)
  have HO := Lib.hid ((popen11 hN.dat (by rw [hN.drop]; exact hN.ahead) hTl hm0 (fun x => hn (h5 _ x)) hr).mono (fun e w1 x => hN.opened hO h5 x))
  replace h5 := Lib.hid h5
  unfold zq at c5 c6 HO
  clear hN hm0 hm hn hr hO
  go_enter Tryz.func12, Tryz.ntmps12
  go_wp2_with fail
  generalize w.alloc (.cells #[.string ⟨#[]⟩, .string ⟨#[]⟩, .int .i64 0, .string ⟨#[]⟩, .int .i64 0, .slice none 0 0, .int .i64 0, .string ⟨#[]⟩, .int .i64 0, .string ⟨#[]⟩, .string ⟨#[]⟩, .bool false, .string ⟨#[]⟩, .int .i64 0, .string ⟨#[]⟩, .bool false, .bool false, .string ⟨#[]⟩] RQT) = W0 at HO c5 c6 ⊢
  refine HO.out.mono ?_
  rintro e w1 ⟨s, E, rfl, ⟨op, hd⟩, hc⟩
  have z6 := hd.free 6
  obtain ⟨_, _, _, _, d6⟩ := hd.cells
  clear HO c5 c6 hd
  rcases hc with ⟨hN, hx⟩ | ⟨rfl, hh, O2, hN⟩
  · have hX : nx most D 0 = (if s = 0 then .wait else .fail s) ∨ nx most D 0 = .fail s := by
      unfold nx
      rw [if_neg (fun x => x rfl)]
      rcases hx with ⟨a, b⟩ | b
      · exact .inl (by rw [if_pos a]; exact b)
      · exact .inr b
    have hFin : Hid (∀ W2, Step (w1.setCell ⟨g, 6, none⟩ (.int .i64 s)) W2 (fun k => k = w.heap.size) (fun k => k = w.heap.size) → NextR w W2 (.returned (.tuple #[.agg zq, .bool false, .int .i64 s])) F g most D (nx most D 0)) := Lib.hid (fun W2 hS2 => by
      have hX2 : outR (nx most D 0) = (zeroQ, false, s) ∧ leftR D (nx most D 0) = D ∧ stR (nx most D 0) = s := by
        rcases hX with a | a
        · rw [a]
          by_cases h0 : s = 0
          · rw [if_pos h0, h0]; exact ⟨rfl, rfl, rfl⟩
          · rw [if_neg h0]; exact ⟨rfl, rfl, rfl⟩
        · rw [a]; exact ⟨rfl, rfl, rfl⟩
      exact hN.zero (fun _ hh => by cases hh) hX2.1 hX2.2.1 hX2.2.2 hS2)
    have e5 : (w1.setCell ⟨g, 6, none⟩ (.int .i64 s)).cell? ⟨g, 5, none⟩ = some (.pointer none) := hN.dat.cells.2.2.2.1
    obtain ⟨W9, hW9⟩ : ∃ W9, W9 = w1.setCell ⟨g, 6, none⟩ (.int .i64 s) := ⟨_, rfl⟩
    rw [← hW9] at hFin hN e5
    replace hN := Lib.hid hN
    replace hW9 := Lib.hid hW9
    clear hx hX h5 hdrop
    have e5b : (w1.setCell ⟨g, 6, none⟩ (.int .i64 s)).cell? ⟨g, 5, none⟩ = some (.pointer none) := by rw [← hW9.out]; exact e5
    have e5c : w1.cell? ⟨g, 5, none⟩ = some (.pointer none) := by
      rw [← e5b]
      exact (World.cell?_setCell_other w1 _ _ _ (by simp)).symm
    go_wp2_with fail
    rw [← hW9.out]
    clear e5 e5b e5c d6 z6 hW9
    have c6 : W9.drew.cell? ⟨g, 6, none⟩ = some (.int .i64 (s)) := hN.out.dat.cells.2.2.2.2
    have hres := hN.out.res.drew
    have hS9 : Step W9 (W9.drew.setRow w.heap.size zq) (fun k => k = w.heap.size) (fun k => k = w.heap.size) := (Step.drew W9 _).trans (row_set _ _ _)
    have c6b : (W9.drew.setRow w.heap.size zq).cell? ⟨g, 6, none⟩ = some (.int .i64 (s)) := (hN.out.dat.step hS9 (fun k hk e => hN.out.nr (by rw [← e]; exact hk))).cells.2.2.2.2
    have hE9 := Lib.hid (hFin.out _ hS9)
    have hH9 := PJudge.has_row hres zq
    refine wp_region_held_drew (S := fun w' => w'.cell? ⟨g, 6, none⟩ = some (.int .i64 (s))) (by kernel_rfl) c6 (fun hHeld => ?_)
    refine wpAnyH_take (i := 1) (v := .pointer (some ⟨g, 0, none⟩)) rfl (by kernel_rfl) (by kernel_rfl) (by kernel_rfl) (fun _ _ _ h => h) (Or.inl ⟨by rfl, (fun w _ => by go_simp)⟩) hHeld ?_
    refine wpAnyH_take (i := 2) (v := .pointer (some ⟨g, 0, none⟩)) rfl (by kernel_rfl) (by kernel_rfl) (by kernel_rfl) (fun _ _ _ h => h) (Or.inl ⟨by rfl, (fun w _ => by go_simp)⟩) hHeld ?_
    refine wpAnyH_take (i := 3) (v := .pointer (some ⟨g, 6, none⟩)) rfl (by kernel_rfl) (by kernel_rfl) (by kernel_rfl) (fun _ _ _ h => h) (Or.inl ⟨by rfl, (fun w _ => by go_simp)⟩) hHeld ?_
    refine wpAnyH_take (i := 4) (v := .int .i64 (s)) rfl (by kernel_rfl) (by kernel_rfl) (by kernel_rfl) (fun _ _ _ h => h) (Or.inl ⟨by rfl, (fun w hSw => by have c6 := hSw; go_simp)⟩) hHeld ?_
    refine wpAnyH_ready (rs := [0]) (by kernel_rfl) (by simp) (AllReadyH.cons rfl (fun K hK => ?_) AllReadyH.nil)
    go_simp
    refine hK.out _ _ c6 (fun hHeld => ?_)
    clear hK
    refine wpAnyH_ready (rs := [5]) (by kernel_rfl) (by simp) (AllReadyH.cons rfl (fun K hK => ?_) AllReadyH.nil)
    rw [if_pos (by rfl)]
    refine wp_store_row RQT (.tmp 2) (.tmp 30) rfl w.heap.size zq rfl rfl RQT _ hres.at_ rq_size rfl zq_one ?_
    refine hK.out _ _ c6b (fun hHeld => ?_)
    clear hK
    refine wpAnyH_ready (rs := [6]) (by kernel_rfl) (by simp) (AllReadyH.cons rfl (fun K hK => ?_) AllReadyH.nil)
    go_simp
    refine hK.out _ _ c6b (fun hHeld => ?_)
    clear hK
    refine wpAnyH_ready (rs := [7]) (by kernel_rfl) (by simp) (AllReadyH.cons rfl (fun K hK => ?_) AllReadyH.nil)
    go_simp
    refine hK.out _ _ c6b (fun hHeld => ?_)
    clear hK hHeld
    refine wpAnyH_done (by kernel_rfl) ?_ _
    go_wp2_with fail
    refine bodyPost_ret (v := .tuple #[.agg zq, .bool false, .int .i64 (s)]) ?_ rfl hE9.out
    rw [results_cell_tmp2 rfl]
    exact end_q3 rfl rfl rfl rfl hH9
  · obtain ⟨W9, hW9⟩ : ∃ W9, W9 = w1.setCell ⟨g, 6, none⟩ (.int .i64 0) := ⟨_, rfl⟩
    rw [← hW9] at hN
    have e5b : (w1.setCell ⟨g, 6, none⟩ (.int .i64 0)).cell? ⟨g, 5, none⟩ = some (.pointer (some ⟨hh, 0, none⟩)) := by rw [← hW9]; exact hN.dat.cells.2.2.2.1
    have e5c : w1.cell? ⟨g, 5, none⟩ = some (.pointer (some ⟨hh, 0, none⟩)) := by
      rw [← e5b]
      exact (World.cell?_setCell_other w1 _ _ _ (by simp)).symm
    replace hN := Lib.hid hN
    replace hW9 := Lib.hid hW9
    go_wp2_with fail
    rw [← hW9.out]
    clear e5b e5c d6 z6 hW9
    have hNx : Hid (∀ X, read11 most D = X → nx most D 0 = X) := Lib.hid (fun X e => by rw [← e]; unfold nx; rw [if_neg (fun x => x rfl)])
    have HT := Lib.hid ((ptext11 (hN.out.dat.step (Step.drew W9 (fun _ => False)) (fun _ _ x => x)) hTl).mono (fun e w' x => (⟨by rw [← hN.out.drop]; exact x.1, x.2⟩ : e = Ending.returned (.string (ofL D)) ∧ Kept2 W9.drew w' R g most T U E (some hh) 0)))
    have HB0 : Hid (∀ w1, Kept2 W9.drew w1 R g most T U E (some hh) 0 → Calls Tryz.prog 18 #[.pointer (some ⟨hh, 0, none⟩), .string (ofL D)] w1 fun e w2 => ∃ whole er, e = .returned (.tuple #[.bool whole, .int .i64 er]) ∧ Dat w2 R g most T U E (some hh) 0 ∧ BodyN w w2 F R g most T U E hh D whole er) := Lib.hid (fun w1 hk => hN.out.read h5.out hDl hk)
    have c5 : W9.cell? ⟨g, 5, none⟩ = some (.pointer (some ⟨hh, 0, none⟩)) := hN.out.dat.cells.2.2.2.1
    clear hN
    generalize hSD : ofL D = SD at *
    clear hSD
    go_region_held3 (fun w' => w'.cell? ⟨g, 5, none⟩ = some (.pointer (some ⟨hh, 0, none⟩))) (first | exact s2 | exact s1 | exact c5)
      (first
        | (go_at_call 19; refine HT.out.mono ?_; rintro e w1 ⟨rfl, hk⟩
           have s1 : w1.cell? ⟨g, 5, none⟩ = some (.pointer (some ⟨hh, 0, none⟩)) := hk.1.cells.2.2.2.1
           have HB := Lib.hid (HB0.out w1 hk)
           clear HT HB0 hk)
        | (go_at_call 18; refine HB.out.mono ?_; rintro e w2 ⟨whole, er, rfl, hd2, hbn⟩
           have s2 : w2.cell? ⟨g, 5, none⟩ = some (.pointer (some ⟨hh, 0, none⟩)) := hd2.cells.2.2.2.1
           replace hbn := Lib.hid hbn
           clear HB))
    rcases hbn.out with ⟨b1, b2, b3⟩ | ⟨b1, b2, b3, O2, b4⟩ | ⟨b1, b2, q, rd, l, b3, b4, b5, b6, b7, b8, b9, b10⟩
    · have herb : (er != 0) = true := bne_iff_ne.2 b1
      have h1 := Lib.hid (pstatus11_any er)
      have hX := Lib.hid (hNx.out _ b2)
      have hFin : Hid (∀ W2, Step ((w2.setCell ⟨g, 6, none⟩ (.int .i64 (InflowPure.status11 er))).setCell ⟨g, 5, none⟩ (.pointer none)) W2 (fun k => k = w.heap.size) (fun k => k = w.heap.size) → NextR w W2 (.returned (.tuple #[.agg zq, .bool false, .int .i64 (InflowPure.status11 er)])) F g most D (nx most D 0)) := Lib.hid (fun W2 hS2 => b3.zero (fun _ hh => by cases hh) (by rw [hX.out]; rfl) (by rw [hX.out]; rfl) (by rw [hX.out]; rfl) hS2)
      have hN := Lib.hid b3
      obtain ⟨_, _, _, d5, d6⟩ := hd2.cells
      unfold opV at d5
      have z5 := hd2.free 5
      have z6 := hd2.free 6
      clear b1 b2 b3 hbn hd2 hNx hX s1 s2 c5 h5
      generalize InflowPure.status11 er = s at hFin hN h1 ⊢
      go_wp2_with fail
      refine (h1.out _).mono ?_
      rintro e w3 ⟨rfl, rfl⟩
      clear h1
      go_wp2_with fail
      generalize (w2.setCell ⟨g, 6, none⟩ (.int .i64 s)).setCell ⟨g, 5, none⟩ (.pointer none) = W9 at hN hFin ⊢
      clear d5 d6 z5 z6
      have c6 : W9.drew.cell? ⟨g, 6, none⟩ = some (.int .i64 (s)) := hN.out.dat.cells.2.2.2.2
      have hres := hN.out.res.drew
      have hS9 : Step W9 (W9.drew.setRow w.heap.size zq) (fun k => k = w.heap.size) (fun k => k = w.heap.size) := (Step.drew W9 _).trans (row_set _ _ _)
      have c6b : (W9.drew.setRow w.heap.size zq).cell? ⟨g, 6, none⟩ = some (.int .i64 (s)) := (hN.out.dat.step hS9 (fun k hk e => hN.out.nr (by rw [← e]; exact hk))).cells.2.2.2.2
      have hE9 := Lib.hid (hFin.out _ hS9)
      have hH9 := PJudge.has_row hres zq
      refine wp_region_held_drew (S := fun w' => w'.cell? ⟨g, 6, none⟩ = some (.int .i64 (s))) (by kernel_rfl) c6 (fun hHeld => ?_)
      refine wpAnyH_take (i := 1) (v := .pointer (some ⟨g, 0, none⟩)) rfl (by kernel_rfl) (by kernel_rfl) (by kernel_rfl) (fun _ _ _ h => h) (Or.inl ⟨by rfl, (fun w _ => by go_simp)⟩) hHeld ?_
      refine wpAnyH_take (i := 2) (v := .pointer (some ⟨g, 0, none⟩)) rfl (by kernel_rfl) (by kernel_rfl) (by kernel_rfl) (fun _ _ _ h => h) (Or.inl ⟨by rfl, (fun w _ => by go_simp)⟩) hHeld ?_
      refine wpAnyH_take (i := 3) (v := .pointer (some ⟨g, 6, none⟩)) rfl (by kernel_rfl) (by kernel_rfl) (by kernel_rfl) (fun _ _ _ h => h) (Or.inl ⟨by rfl, (fun w _ => by go_simp)⟩) hHeld ?_
      refine wpAnyH_take (i := 4) (v := .int .i64 (s)) rfl (by kernel_rfl) (by kernel_rfl) (by kernel_rfl) (fun _ _ _ h => h) (Or.inl ⟨by rfl, (fun w hSw => by have c6 := hSw; go_simp)⟩) hHeld ?_
      refine wpAnyH_ready (rs := [0]) (by kernel_rfl) (by simp) (AllReadyH.cons rfl (fun K hK => ?_) AllReadyH.nil)
      go_simp
      refine hK.out _ _ c6 (fun hHeld => ?_)
      clear hK
      refine wpAnyH_ready (rs := [5]) (by kernel_rfl) (by simp) (AllReadyH.cons rfl (fun K hK => ?_) AllReadyH.nil)
      rw [if_pos (by rfl)]
      refine wp_store_row RQT (.tmp 2) (.tmp 55) rfl w.heap.size zq rfl rfl RQT _ hres.at_ rq_size rfl zq_one ?_
      refine hK.out _ _ c6b (fun hHeld => ?_)
      clear hK
      refine wpAnyH_ready (rs := [6]) (by kernel_rfl) (by simp) (AllReadyH.cons rfl (fun K hK => ?_) AllReadyH.nil)
      go_simp
      refine hK.out _ _ c6b (fun hHeld => ?_)
      clear hK
      refine wpAnyH_ready (rs := [7]) (by kernel_rfl) (by simp) (AllReadyH.cons rfl (fun K hK => ?_) AllReadyH.nil)
      go_simp
      refine hK.out _ _ c6b (fun hHeld => ?_)
      clear hK hHeld
      refine wpAnyH_done (by kernel_rfl) ?_ _
      go_wp2_with fail
      refine bodyPost_ret (v := .tuple #[.agg zq, .bool false, .int .i64 (s)]) ?_ rfl hE9.out
      rw [results_cell_tmp2 rfl]
      exact end_q3 rfl rfl rfl rfl hH9
    · subst b1
      subst b2
      have hX := Lib.hid (hNx.out _ b3)
      have hS9 : Step w2 (w2.setRow w.heap.size zq) (fun k => k = w.heap.size) (fun k => k = w.heap.size) := row_set _ _ _
      have hE9 := Lib.hid (b4.zero (fun _ _ => rfl) (X := nx most D 0) (by rw [hX.out]; rfl) (by rw [hX.out]; rfl) (by rw [hX.out]; rfl) hS9)
      have hres := b4.res
      have hH9 := PJudge.has_row hres zq
      clear b3 b4 hbn hd2 hNx hX s1 s2 c5 h5 hS9
      go_wp2_with (refine wpList_store_row rfl RQT (.tmp 2) (.tmp 62) rfl w.heap.size zq rfl rfl RQT zq hres.at_ rq_size rfl zq_one ?_)
      refine bodyPost_ret (v := .tuple #[.agg zq, .bool false, .int .i64 0]) ?_ rfl hE9.out
      rw [results_cell_tmp2 rfl]
      exact end_q3 rfl rfl rfl rfl hH9
    · subst b1
      subst b2
      have hX := Lib.hid (hNx.out _ b3)
      have hrdl : rd ≤ (T.drop U).length := by rw [hdrop.out]; exact b4
      have HU := Lib.hid ((puse11 b8 rd hrdl hTl).mono (fun e w' x => (⟨x.1, by have := x.2; rw [hdrop.out] at this; exact this⟩ : e = Ending.returned (.tuple #[]) ∧ Used2 (w2.alloc (.cells (qcl q l) RQT)) w' R g most (D.drop rd) 0)))
      have hq1 := qcl_one q b5
      obtain ⟨_, _, _, e5, _⟩ := b8.cells
      unfold opV at e5
      have hload0 : Hid ((loadVar RQT ⟨hh, 0, none⟩).run Tryz.prog w2 = .ok (.agg (qcl q l)) w2) := Lib.hid (run_loadVar_mid w2 hh 0 RQT (qcl q l).toList _ b6 Tryz.underlying35 rfl (by rw [rq_size, qcl_len]))
      replace b10 : Hid (∀ w4, Used2 (w2.alloc (.cells (qcl q l) RQT)) w4 R g most (D.drop rd) 0 → Has w4 w2.heap.size RQT (qcl q l) ∧ Has w4 w.heap.size RQT zq ∧ NextR w (w4.setRow w.heap.size (qcl q l)) (.returned (.tuple #[.agg (qcl q l), .bool true, .int .i64 0])) F g most D (nx most D 0)) := Lib.hid (fun w4 hu => by rw [hX.out]; exact b10 w4 hu)
      clear b3 b4 hbn hd2 hNx hX s1 b6 b8 hrdl c5 h5 hdrop
      go_wp2_with (first
        | (refine wpList_loadq rfl (.tmp 68) rfl ⟨hh, 0, none⟩ rfl q l hload0.out ?_)
        | (refine wpList_putq rfl (.tmp 7) (.tmp 69) rfl _ rfl q l b5 rfl rfl ?_))
      refine HU.out.mono ?_
      rintro e w4 ⟨rfl, hu⟩
      obtain ⟨m1, m2, m3⟩ := b10.out w4 hu
      have hload := Lib.hid (qload_at (qcl_size q l) m1)
      have hH9 := PJudge.has_row m2 (qcl q l)
      replace m3 := Lib.hid m3
      have m2a := m2.at_
      clear HU hu b10 hload0 b7 b9 s2 e5 m1
      go_wp2_with (first
        | (refine wpList_loadq rfl (.tmp 7) rfl ⟨w2.heap.size, 0, none⟩ rfl q l hload.out ?_)
        | (refine wpList_store_row rfl RQT (.tmp 2) (.tmp 79) rfl w.heap.size (qcl q l) rfl rfl RQT zq m2a rq_size rfl hq1 ?_))
      refine bodyPost_ret (v := .tuple #[.agg (qcl q l), .bool true, .int .i64 0]) ?_ rfl m3.out
      rw [results_cell_tmp2 rfl]
      exact end_q3 rfl rfl rfl rfl hH9
end Go.Proofs.YtmlpdhmafmdkcaaGreatDoor.InflowObj

/- Layer 11 of the program: Next, of an opened request. -/
namespace Go.Proofs.YtmlpdhmafmdkcaaGreatDoor.InflowObj
open Go.ChangeShapes Go.WideShapes Go.ChangeAt Go.RowKit LexPure Bytes Ret FieldsPure Flds HeadPure HBox FramePure ChunkPure InflowPure InJudge QCell KeptRow PStat11 PJudge PUnder POpen11 PBody11 Mem Step InEmb InObj PText11 PUse11
set_option maxRecDepth 100000
set_option linter.unusedVariables false
set_option linter.unusedSimpArgs false
set_option maxHeartbeats 6400000 in
theorem pnextC {w : World} {F R O : Nat → Prop} {g : Nat} {most : Int} {T : List UInt8} {U E hh : Nat} {D : List UInt8} (hN : NS w (w.alloc (.cells zq RQT)) F R O g most T U E (some hh) 0 D) (h5 : ∀ k, R k → F k) (hTl : T.length ≤ 4294967296) (hDl : D.length ≤ 4294967296) :
    Calls Tryz.prog 12 #[.pointer (some ⟨g, 0, none⟩)] w fun e w' => NextR w w' e F g most D (nx most D 0) := by
  obtain ⟨_, _, _, c5, c6⟩ := hN.dat.cells
  unfold opV at c5
  have hdrop := Lib.hid hN.drop
  replace hN := Lib.hid hN
  replace h5 := Lib.hid h5
  unfold zq at c5 c6 hN
  go_enter Tryz.func12, Tryz.ntmps12
  go_wp2_with fail
  generalize w.alloc (.cells #[.string ⟨#[]⟩, .string ⟨#[]⟩, .int .i64 0, .string ⟨#[]⟩, .int .i64 0, .slice none 0 0, .int .i64 0, .string ⟨#[]⟩, .int .i64 0, .string ⟨#[]⟩, .string ⟨#[]⟩, .bool false, .string ⟨#[]⟩, .int .i64 0, .string ⟨#[]⟩, .bool false, .bool false, .string ⟨#[]⟩] RQT) = W0 at hN c5 c6 ⊢
  clear c5 c6
  have hNx : Hid (∀ X, read11 most D = X → nx most D 0 = X) := Lib.hid (fun X e => by rw [← e]; unfold nx; rw [if_neg (fun x => x rfl)])
  have HT := Lib.hid ((ptext11 (hN.out.dat.step (Step.drew W0 (fun _ => False)) (fun _ _ x => x)) hTl).mono (fun e w' x => (⟨by rw [← hN.out.drop]; exact x.1, x.2⟩ : e = Ending.returned (.string (ofL D)) ∧ Kept2 W0.drew w' R g most T U E (some hh) 0)))
  have HB0 : Hid (∀ w1, Kept2 W0.drew w1 R g most T U E (some hh) 0 → Calls Tryz.prog 18 #[.pointer (some ⟨hh, 0, none⟩), .string (ofL D)] w1 fun e w2 => ∃ whole er, e = .returned (.tuple #[.bool whole, .int .i64 er]) ∧ Dat w2 R g most T U E (some hh) 0 ∧ BodyN w w2 F R g most T U E hh D whole er) := Lib.hid (fun w1 hk => hN.out.read h5.out hDl hk)
  have c5 : W0.cell? ⟨g, 5, none⟩ = some (.pointer (some ⟨hh, 0, none⟩)) := hN.out.dat.cells.2.2.2.1
  clear hN
  generalize hSD : ofL D = SD at *
  clear hSD
  go_region_held3 (fun w' => w'.cell? ⟨g, 5, none⟩ = some (.pointer (some ⟨hh, 0, none⟩))) (first | exact s2 | exact s1 | exact c5)
    (first
      | (go_at_call 19; refine HT.out.mono ?_; rintro e w1 ⟨rfl, hk⟩
         have s1 : w1.cell? ⟨g, 5, none⟩ = some (.pointer (some ⟨hh, 0, none⟩)) := hk.1.cells.2.2.2.1
         have HB := Lib.hid (HB0.out w1 hk)
         clear HT HB0 hk)
      | (go_at_call 18; refine HB.out.mono ?_; rintro e w2 ⟨whole, er, rfl, hd2, hbn⟩
         have s2 : w2.cell? ⟨g, 5, none⟩ = some (.pointer (some ⟨hh, 0, none⟩)) := hd2.cells.2.2.2.1
         replace hbn := Lib.hid hbn
         clear HB))
  rcases hbn.out with ⟨b1, b2, b3⟩ | ⟨b1, b2, b3, O2, b4⟩ | ⟨b1, b2, q, rd, l, b3, b4, b5, b6, b7, b8, b9, b10⟩
  · have herb : (er != 0) = true := bne_iff_ne.2 b1
    have h1 := Lib.hid (pstatus11_any er)
    have hX := Lib.hid (hNx.out _ b2)
    have hFin : Hid (∀ W2, Step ((w2.setCell ⟨g, 6, none⟩ (.int .i64 (InflowPure.status11 er))).setCell ⟨g, 5, none⟩ (.pointer none)) W2 (fun k => k = w.heap.size) (fun k => k = w.heap.size) → NextR w W2 (.returned (.tuple #[.agg zq, .bool false, .int .i64 (InflowPure.status11 er)])) F g most D (nx most D 0)) := Lib.hid (fun W2 hS2 => b3.zero (fun _ hh => by cases hh) (by rw [hX.out]; rfl) (by rw [hX.out]; rfl) (by rw [hX.out]; rfl) hS2)
    have hN := Lib.hid b3
    obtain ⟨_, _, _, d5, d6⟩ := hd2.cells
    unfold opV at d5
    have z5 := hd2.free 5
    have z6 := hd2.free 6
    clear b1 b2 b3 hbn hd2 hNx hX s1 s2 c5 h5
    generalize InflowPure.status11 er = s at hFin hN h1 ⊢
    go_wp2_with fail
    refine (h1.out _).mono ?_
    rintro e w3 ⟨rfl, rfl⟩
    clear h1
    go_wp2_with fail
    generalize (w2.setCell ⟨g, 6, none⟩ (.int .i64 s)).setCell ⟨g, 5, none⟩ (.pointer none) = W9 at hN hFin ⊢
    clear d5 d6 z5 z6
    have c6 : W9.drew.cell? ⟨g, 6, none⟩ = some (.int .i64 (s)) := hN.out.dat.cells.2.2.2.2
    have hres := hN.out.res.drew
    have hS9 : Step W9 (W9.drew.setRow w.heap.size zq) (fun k => k = w.heap.size) (fun k => k = w.heap.size) := (Step.drew W9 _).trans (row_set _ _ _)
    have c6b : (W9.drew.setRow w.heap.size zq).cell? ⟨g, 6, none⟩ = some (.int .i64 (s)) := (hN.out.dat.step hS9 (fun k hk e => hN.out.nr (by rw [← e]; exact hk))).cells.2.2.2.2
    have hE9 := Lib.hid (hFin.out _ hS9)
    have hH9 := PJudge.has_row hres zq
    refine wp_region_held_drew (S := fun w' => w'.cell? ⟨g, 6, none⟩ = some (.int .i64 (s))) (by kernel_rfl) c6 (fun hHeld => ?_)
    refine wpAnyH_take (i := 1) (v := .pointer (some ⟨g, 0, none⟩)) rfl (by kernel_rfl) (by kernel_rfl) (by kernel_rfl) (fun _ _ _ h => h) (Or.inl ⟨by rfl, (fun w _ => by go_simp)⟩) hHeld ?_
    refine wpAnyH_take (i := 2) (v := .pointer (some ⟨g, 0, none⟩)) rfl (by kernel_rfl) (by kernel_rfl) (by kernel_rfl) (fun _ _ _ h => h) (Or.inl ⟨by rfl, (fun w _ => by go_simp)⟩) hHeld ?_
    refine wpAnyH_take (i := 3) (v := .pointer (some ⟨g, 6, none⟩)) rfl (by kernel_rfl) (by kernel_rfl) (by kernel_rfl) (fun _ _ _ h => h) (Or.inl ⟨by rfl, (fun w _ => by go_simp)⟩) hHeld ?_
    refine wpAnyH_take (i := 4) (v := .int .i64 (s)) rfl (by kernel_rfl) (by kernel_rfl) (by kernel_rfl) (fun _ _ _ h => h) (Or.inl ⟨by rfl, (fun w hSw => by have c6 := hSw; go_simp)⟩) hHeld ?_
    refine wpAnyH_ready (rs := [0]) (by kernel_rfl) (by simp) (AllReadyH.cons rfl (fun K hK => ?_) AllReadyH.nil)
    go_simp
    refine hK.out _ _ c6 (fun hHeld => ?_)
    clear hK
    refine wpAnyH_ready (rs := [5]) (by kernel_rfl) (by simp) (AllReadyH.cons rfl (fun K hK => ?_) AllReadyH.nil)
    rw [if_pos (by rfl)]
    refine wp_store_row RQT (.tmp 2) (.tmp 55) rfl w.heap.size zq rfl rfl RQT _ hres.at_ rq_size rfl zq_one ?_
    refine hK.out _ _ c6b (fun hHeld => ?_)
    clear hK
    refine wpAnyH_ready (rs := [6]) (by kernel_rfl) (by simp) (AllReadyH.cons rfl (fun K hK => ?_) AllReadyH.nil)
    go_simp
    refine hK.out _ _ c6b (fun hHeld => ?_)
    clear hK
    refine wpAnyH_ready (rs := [7]) (by kernel_rfl) (by simp) (AllReadyH.cons rfl (fun K hK => ?_) AllReadyH.nil)
    go_simp
    refine hK.out _ _ c6b (fun hHeld => ?_)
    clear hK hHeld
    refine wpAnyH_done (by kernel_rfl) ?_ _
    go_wp2_with fail
    refine bodyPost_ret (v := .tuple #[.agg zq, .bool false, .int .i64 (s)]) ?_ rfl hE9.out
    rw [results_cell_tmp2 rfl]
    exact end_q3 rfl rfl rfl rfl hH9
  · subst b1
    subst b2
    have hX := Lib.hid (hNx.out _ b3)
    have hS9 : Step w2 (w2.setRow w.heap.size zq) (fun k => k = w.heap.size) (fun k => k = w.heap.size) := row_set _ _ _
    have hE9 := Lib.hid (b4.zero (fun _ _ => rfl) (X := nx most D 0) (by rw [hX.out]; rfl) (by rw [hX.out]; rfl) (by rw [hX.out]; rfl) hS9)
    have hres := b4.res
    have hH9 := PJudge.has_row hres zq
    clear b3 b4 hbn hd2 hNx hX s1 s2 c5 h5 hS9
    go_wp2_with (refine wpList_store_row rfl RQT (.tmp 2) (.tmp 62) rfl w.heap.size zq rfl rfl RQT zq hres.at_ rq_size rfl zq_one ?_)
    refine bodyPost_ret (v := .tuple #[.agg zq, .bool false, .int .i64 0]) ?_ rfl hE9.out
    rw [results_cell_tmp2 rfl]
    exact end_q3 rfl rfl rfl rfl hH9
  · subst b1
    subst b2
    have hX := Lib.hid (hNx.out _ b3)
    have hrdl : rd ≤ (T.drop U).length := by rw [hdrop.out]; exact b4
    have HU := Lib.hid ((puse11 b8 rd hrdl hTl).mono (fun e w' x => (⟨x.1, by have := x.2; rw [hdrop.out] at this; exact this⟩ : e = Ending.returned (.tuple #[]) ∧ Used2 (w2.alloc (.cells (qcl q l) RQT)) w' R g most (D.drop rd) 0)))
    have hq1 := qcl_one q b5
    obtain ⟨_, _, _, e5, _⟩ := b8.cells
    unfold opV at e5
    have hload0 : Hid ((loadVar RQT ⟨hh, 0, none⟩).run Tryz.prog w2 = .ok (.agg (qcl q l)) w2) := Lib.hid (run_loadVar_mid w2 hh 0 RQT (qcl q l).toList _ b6 Tryz.underlying35 rfl (by rw [rq_size, qcl_len]))
    replace b10 : Hid (∀ w4, Used2 (w2.alloc (.cells (qcl q l) RQT)) w4 R g most (D.drop rd) 0 → Has w4 w2.heap.size RQT (qcl q l) ∧ Has w4 w.heap.size RQT zq ∧ NextR w (w4.setRow w.heap.size (qcl q l)) (.returned (.tuple #[.agg (qcl q l), .bool true, .int .i64 0])) F g most D (nx most D 0)) := Lib.hid (fun w4 hu => by rw [hX.out]; exact b10 w4 hu)
    clear b3 b4 hbn hd2 hNx hX s1 b6 b8 hrdl c5 h5 hdrop
    go_wp2_with (first
      | (refine wpList_loadq rfl (.tmp 68) rfl ⟨hh, 0, none⟩ rfl q l hload0.out ?_)
      | (refine wpList_putq rfl (.tmp 7) (.tmp 69) rfl _ rfl q l b5 rfl rfl ?_))
    refine HU.out.mono ?_
    rintro e w4 ⟨rfl, hu⟩
    obtain ⟨m1, m2, m3⟩ := b10.out w4 hu
    have hload := Lib.hid (qload_at (qcl_size q l) m1)
    have hH9 := PJudge.has_row m2 (qcl q l)
    replace m3 := Lib.hid m3
    have m2a := m2.at_
    clear HU hu b10 hload0 b7 b9 s2 e5 m1
    go_wp2_with (first
      | (refine wpList_loadq rfl (.tmp 7) rfl ⟨w2.heap.size, 0, none⟩ rfl q l hload.out ?_)
      | (refine wpList_store_row rfl RQT (.tmp 2) (.tmp 79) rfl w.heap.size (qcl q l) rfl rfl RQT zq m2a rq_size rfl hq1 ?_))
    refine bodyPost_ret (v := .tuple #[.agg (qcl q l), .bool true, .int .i64 0]) ?_ rfl m3.out
    rw [results_cell_tmp2 rfl]
    exact end_q3 rfl rfl rfl rfl hH9
end Go.Proofs.YtmlpdhmafmdkcaaGreatDoor.InflowObj
