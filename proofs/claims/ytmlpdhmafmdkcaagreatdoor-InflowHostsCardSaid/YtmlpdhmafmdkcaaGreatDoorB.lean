/- Texts of this seat, one behind another: L11Read, L11Anchor, LawCard. -/
import Derived.Outline
import Derived.LoopTactic
import Derived.Handy
import Derived.Maps.AppendAt
import Derived.Test.YtmlpdhmafmdkcaaGreatDoorCards
import Derived.Test.YtmlpdhmafmdkcaaGreatDoorTie
import Derived.Deep.DeepHandedRow
import Derived.Lay
import Derived.SevenTiedAt
import Derived.Test.YtmlpdhmafmdkcaaGreatDoorA15
import Derived.Test.YtmlpdhmafmdkcaaGreatDoorA1
/- Layer 11's law: the requests of bytes that come in pieces. -/
namespace Go.Proofs.YtmlpdhmafmdkcaaGreatDoor.L11Read
open Go.ChangeShapes Go.WideShapes Go.ChangeAt Go.RowKit Bytes LexPure Ret Rows1 Texts FieldsPure HeadPure InflowPure QCell InObj InflowObj PUnder KeptRow Flds Mem Step
set_option maxRecDepth 100000
/-- the reader, and what was read: the row v of requests P -/
structure RS (w W : World) (F : Nat → Prop) (g : Nat) (most : Int) (D : List UInt8) (st : Int) (v : Value) (P : List (Rq × Value)) : Prop where
  rdr : Rdr W F g most D st
  low : ∀ k, F k → w.heap.size ≤ k
  vout : ∀ b, v.ownBlock = some b → ¬ F b
  row : W.ownsRow w.heap.size RQT 18 v P.length (encQ P)
  lists : ∀ x ∈ P, RowF W 0 x.2 x.1.head.fields ∧ ∀ b, x.2.ownBlock = some b → ¬ F b
  below : Below w.heap.size w W
def RSF (w W : World) (g : Nat) (most : Int) (D : List UInt8) (st : Int) (v : Value) (P : List (Rq × Value)) : Prop := ∃ F, RS w W F g most D st v P
section
variable {w W W' : World} {F F' : Nat → Prop} {g : Nat} {most st st' : Int} {D D' : List UInt8} {v : Value} {P : List (Rq × Value)}
theorem RS.start {w1 W : World} (h : Rdr W F g most [] 0) (hlo : ∀ k, F k → w1.heap.size ≤ k) (h0 : Below w.heap.size w w1) (hb : Below w1.heap.size w1 W) : RS w W F g most [] 0 (.slice none 0 0) [] :=
  ⟨h, fun k hk => Nat.le_trans h0.size (hlo k hk), fun b hb => (by cases hb), World.ownsRow_nil _ _ _ _, fun x hx => (by cases hx), below_chain h0 hb⟩
theorem RS.step (h : RS w W F g most D st v P) (hs : Step W W' F F') (hr : Rdr W' F' g most D' st') : RS w W' F' g most D' st' v P := by
  refine ⟨hr, fun k hk => ?_, fun b hb hf => ?_, hs.row h.row h.vout, fun x hx => ⟨⟨hs.row (h.lists x hx).1.1 (h.lists x hx).2, (h.lists x hx).1.2⟩, fun b hb hf => ?_⟩, ?_⟩
  · rcases hs.grow k hk with h1 | h1
    · exact h.low k h1
    · exact Nat.le_trans h.below.size h1.1
  · rcases hs.grow b hf with h1 | h1
    · exact h.vout b hb h1
    · have := row_lt h.row hb
      omega
  · rcases hs.grow b hf with h1 | h1
    · exact (h.lists x hx).2 b hb h1
    · have := row_lt (h.lists x hx).1.1 hb
      omega
  · exact h.below.trans (hs.below h.below.size h.low)
theorem RS.call (h : RS w W F g most D st v P) (hb : Below W.heap.size W W') : RS w W' F g most D st v P :=
  h.step (Step.of_below hb F) (h.rdr.step (Step.of_below hb (fun _ => False)) (fun _ _ h => h))
/-- one request more -/
theorem RS.append {W4 : World} {v4 : Value} {q : Rq} {l : Value} (h : RS w W F g most D st v P) (hl : RowF W 0 l q.head.fields) (hlf : ∀ b, l.ownBlock = some b → ¬ F b)
    (hg : W.grownBy W4 v.ownBlock) (hrow : W4.ownsRow w.heap.size RQT 18 v4 (P.length + 1) (encQ P ++ (qcl q l).toList)) (hat : v4.ownBlock = v.ownBlock ∨ v4.ownBlock = some W.heap.size) : RS w W4 F g most D st v4 (P ++ [(q, l)]) := by
  have hty : 117 ≠ RQT := by decide
  have keep : ∀ {x : Value} {G : List HField}, RowF W 0 x G → RowF W4 0 x G := fun {x G} hx => ⟨hx.1.kept hg (by
    rcases h.row.2 with ⟨e, _⟩ | ⟨g2, c2, cur2, e, _, hg2, _⟩
    · rw [e]
      cases hx2 : x.ownBlock with
      | none => exact .inl rfl
      | some b => exact .inr (by simp [Value.ownBlock])
    · right
      rw [e]
      intro q2
      rcases hx.1.2 with ⟨e3, _⟩ | ⟨g3, c3, cur3, e3, _, hg3, _⟩
      · rw [e3] at q2
        cases q2
      · rw [e3] at q2
        have q3 : g3 = g2 := by simpa [Value.ownBlock] using q2
        subst q3
        rw [hg2] at hg3
        injection hg3 with hg3
        injection hg3 with _ e4 _
        exact hty e4.symm), hx.2⟩
  have hvF : ∀ b, v4.ownBlock = some b → ¬ F b := fun b hb hf => by
    rcases hat with e | e
    · exact h.vout b (by rw [← e]; exact hb) hf
    · rw [hb] at e
      injection e with e
      have := h.rdr.lt b hf
      omega
  have hst : Step W W4 (fun k => v.ownBlock = some k) (fun k => v.ownBlock = some k) := Step.of_grown hg (fun k hk => hk)
  refine ⟨h.rdr.step hst (fun k hk hk2 => h.vout k hk2 hk), h.low, hvF, ?_, fun x hx => ?_, h.below.trans (hst.below h.below.size (fun k hk => (h.row.lt k hk).1))⟩
  · rw [List.length_append, encQ_snoc]
    exact hrow
  · rcases List.mem_append.1 hx with hx | hx
    · exact ⟨keep (h.lists x hx).1, (h.lists x hx).2⟩
    · rw [List.mem_singleton] at hx
      subst hx
      exact ⟨keep hl, hlf⟩
end
theorem row_form2 {w : World} {base n size : Nat} {e : TypeId} {v : Value} {xs : List Value} (h : w.ownsRow base e size v n xs) : ∃ p cap, v = .slice p n cap ∧ n = n := by
  rcases h.2 with ⟨hv, hn⟩ | ⟨g, cap, cur, hv, _⟩
  · exact ⟨none, 0, by rw [hv, hn], rfl⟩
  · exact ⟨_, cap, hv, rfl⟩
/-- what is still told -/
def total (most : Int) (D : List UInt8) (st : Int) : List Rq × Int × List UInt8 := if st ≠ 0 then ([], st, D) else allOf most D
def lenV : Value → Nat
  | .slice _ n _ => n
  | _ => 0
theorem all_nil (most : Int) : allOf most [] = ([], 0, []) := by rw [allOf_step, read11_nil]
theorem all_feed (most : Int) (D x : List UInt8) : allOf most (D ++ x) = ((allOf most D).1 ++ (total most ((allOf most D).2.2 ++ x) (allOf most D).2.1).1, (total most ((allOf most D).2.2 ++ x) (allOf most D).2.1).2) := by
  rw [all_append most x D.length D (Nat.le_refl _)]
  unfold total
  by_cases h : (allOf most D).2.1 ≠ 0
  · rw [if_pos h, if_pos h, List.append_nil]
  · rw [if_neg h, if_neg h]
theorem all_left (most : Int) : ∀ (N : Nat) (D : List UInt8), D.length ≤ N → (allOf most D).2.2.length ≤ D.length
  | N, D, hN => by
    rw [allOf_step]
    cases hr : read11 most D with
    | wait => exact Nat.le_refl _
    | fail s => exact Nat.le_refl _
    | whole q n =>
      have hn := read11_say.2 q n hr
      match N, hN with
      | 0, hN => omega
      | N + 1, hN =>
        have ih := all_left most N (D.drop n) (by rw [List.length_drop]; omega)
        dsimp only
        rw [List.length_drop] at ih
        omega
theorem total_step (most : Int) (D : List UInt8) (st : Int) : total most D st = match nx most D st with
    | .wait => ([], 0, D)
    | .fail s => ([], s, D)
    | .whole q n => (q :: (total most (D.drop n) 0).1, (total most (D.drop n) 0).2) := by
  unfold total nx
  by_cases h : st ≠ 0
  · rw [if_pos h, if_pos h]
  · rw [if_neg h, if_neg h, allOf_step]
    cases read11 most D with
    | wait => rfl
    | fail s => rfl
    | whole q n =>
      dsimp only
      rw [if_neg (fun h => h rfl)]
theorem left_le {most st : Int} {D : List UInt8} : (leftR D (nx most D st)).length ≤ D.length := by
  unfold leftR
  split
  · rw [List.length_drop]
    omega
  · exact Nat.le_refl _
/-- where the law's read stands, behind the bytes fed -/
structure At (w W : World) (g : Nat) (most : Int) (A : List Rq × Int × List UInt8) (v : Value) (P : List (Rq × Value)) (D : List UInt8) (st : Int) : Prop where
  rs : RSF w W g most D st v P
  out : P.map (·.1) ++ (total most D st).1 = A.1
  rest : (total most D st).2 = A.2
  len : D.length ≤ 1073741824
/-- what it leaves -/
structure Got (w W : World) (v : Value) (P : List (Rq × Value)) : Prop where
  row : W.ownsRow w.heap.size RQT 18 v P.length (encQ P)
  lists : ∀ x ∈ P, RowF W 0 x.2 x.1.head.fields
  below : Below w.heap.size w W
def GotF (w W : World) (e : Ending) (A : List Rq × Int × List UInt8) : Prop := ∃ v P, e = .returned (.tuple #[v, .int .i64 A.2.1, .bool true]) ∧ Got w W v P ∧ P.map (·.1) = A.1
theorem eval36 {a : Act} {t : Tmp} {v : Value} (h : a.tmps.getD t undef = v) : a.eval (.tmp t) = v := h
set_option maxHeartbeats 6400000 in
theorem read_any (most : Int) (v : Value) (T : List (List UInt8)) (hr : ChObj.InR most) (w : World) (hm : MaxInt w) (hV : Texts w v T) (hT : T.flatten.length ≤ 536870912) (hcnt : ∀ k, (allOf most (T.take k).flatten).1.length ≤ 5001) :
    Calls Tryz.prog 8 #[.int .i64 most, v] w fun e w' => GotF w w' e (allOf most T.flatten) := by
  have HN := Lib.hid (pnew11 most w)
  replace hr := Lib.hid hr
  replace hm := Lib.hid hm
  obtain ⟨p, cap, rfl, hle, hcl⟩ := hV
  replace hcl := Lib.hid hcl
  replace hcnt := Lib.hid hcnt
  have HTk : Hid (∀ k, (T.take k).flatten.length ≤ 536870912) := Lib.hid (fun k => by
    have : T.flatten = (T.take k).flatten ++ (T.drop k).flatten := by rw [← List.flatten_append, List.take_append_drop]
    have h2 := congrArg List.length this
    rw [List.length_append] at h2
    omega)
  obtain ⟨G, hG⟩ : ∃ G, G = allOf most T.flatten := ⟨_, rfl⟩
  rw [← hG]
  replace hG := Lib.hid hG
  have hi := rq_info
  obtain ⟨i0, hi0, hz0, hs0, hb0⟩ : ∃ i0, Tryz.prog.info? RQT = some i0 ∧ i0.zero = some (.agg zq) ∧ i0.size = 18 ∧ i0.bytes = 224 := by
    cases hq : Tryz.prog.info? RQT with
    | none => rw [hq] at hi; cases hi
    | some i0 =>
      rw [hq] at hi
      have := Option.some.inj hi
      exact ⟨i0, rfl, (Prod.mk.inj this).1, (Prod.mk.inj (Prod.mk.inj this).2).1, (Prod.mk.inj (Prod.mk.inj this).2).2⟩
  have hzc : (Value.agg zq).cells.size = 18 := rfl
  clear hi
  go_enter Tryz.func8, Tryz.ntmps8
  go_wp2_with fail
  refine HN.out.mono ?_
  rintro e w1 ⟨⟨g, F, rfl, hD, hlo⟩, hb⟩
  have HS : Hid (RSF w w1 g most (allOf most (T.take 0).flatten).2.2 (allOf most (T.take 0).flatten).2.1 (.slice none 0 0) [] ∧ ([] : List (Rq × Value)).map (·.1) = (allOf most (T.take 0).flatten).1) := Lib.hid (by
    rw [List.take_zero, List.flatten_nil, all_nil]
    exact ⟨⟨F, RS.start hD hlo (Below.refl _ _) hb⟩, rfl⟩)
  have hA0 : (allOf most (T.take 0).flatten).2.1 = 0 := by rw [List.take_zero, List.flatten_nil, all_nil]
  replace hA0 := Lib.hid hA0
  clear HN hD hlo hb
  go_wp2_with fail
  go_loopw [8, 9, 21] (fun v s i wr => ∃ (k : Nat) (v0 : Value) (st : Int) (P : List (Rq × Value)), k ≤ T.length ∧ i = .int .i64 k ∧ v = v0 ∧ s = .int .i64 st ∧ Hid (st = (allOf most (T.take k).flatten).2.1) ∧ Hid (RSF w wr g most (allOf most (T.take k).flatten).2.2 (allOf most (T.take k).flatten).2.1 v0 P ∧ P.map (·.1) = (allOf most (T.take k).flatten).1)) (fun _ _ i _ => T.length - (intOf i).toNat)
  case atStart => exact ⟨0, _, 0, [], Nat.zero_le _, rfl, rfl, rfl, Lib.hid hA0.out.symm, HS⟩
  case round =>
    obtain ⟨k, v0, st, P, hk, rfl, rfl, rfl, hst, HI⟩ := hrel
    clear HS hA0
    by_cases hlt : k < T.length
    · obtain ⟨gp, o, rfl, hgl, hcell⟩ := hcl.out (by omega)
      have hki : (k : Int) < (T.length : Int) := by omega
      obtain ⟨⟨F2, hR⟩, hP⟩ := HI.out
      have d1 := (hR.below.cell (p := ⟨gp, o + k, none⟩) hgl).trans (hcell k hlt)
      have hfl : (T.take (k + 1)).flatten = (T.take k).flatten ++ T[k] := by
        rw [List.take_add_one, List.getElem?_eq_getElem hlt, List.flatten_append]
        show _ ++ (T[k] ++ []) = _
        rw [List.append_nil]
      have hl1 := all_left most _ (T.take k).flatten (Nat.le_refl _)
      have hl2 := HTk.out (k + 1)
      rw [hfl, List.length_append] at hl2
      have hl3 := HTk.out k
      have HF := Lib.hid (pfeed11 F2 g most _ _ (ofL T[k]) (by rw [ofL_size]; omega) wr hR.rdr)
      have hfe := all_feed most (T.take k).flatten T[k]
      rw [← hfl] at hfe
      have hcn := hcnt.out (k + 1)
      generalize hAe : allOf most (T.take (k + 1)).flatten = A at *
      replace hAe := Lib.hid hAe
      have HA : Hid (∀ w2 F3, Rdr w2 F3 g most ((allOf most (T.take k).flatten).2.2 ++ T[k]) (allOf most (T.take k).flatten).2.1 → Step wr w2 F2 F3 → At w w2 g most A _ P ((allOf most (T.take k).flatten).2.2 ++ T[k]) (allOf most (T.take k).flatten).2.1) := Lib.hid (fun w2 F3 hR3 hS3 =>
        ⟨⟨F3, hR.step hS3 hR3⟩, by rw [hfe, hP], by rw [hfe], by rw [List.length_append]; omega⟩)
      generalize (allOf most (T.take k).flatten).2.2 = D0 at *
      generalize (allOf most (T.take k).flatten).2.1 = st0 at *
      clear hcell hfe hP hR HI hfl hl1 hl2 hl3
      go_wp2_with fail
      refine HF.out.mono ?_
      rintro e w2 ⟨rfl, F3, hR3, hS3⟩
      rw [toL_ofL] at hR3
      have HX := Lib.hid (HA.out w2 F3 hR3 hS3)
      clear HF hR3 hS3 d1 HA
      replace hcn := Lib.hid hcn
      go_wp2_with fail
      go_loopw [8, 9] (fun v s wr => ∃ (v0 : Value) (st1 st : Int) (D : List UInt8) (P : List (Rq × Value)), v = v0 ∧ s = .int .i64 st1 ∧ Hid (At w wr g most A v0 P D st)) (fun v _ _ => 5001 - lenV v)
      case atStart => exact ⟨_, _, _, _, _, rfl, rfl, HX⟩
      case round =>
        obtain ⟨v1, st1, st2, D1, P1, rfl, rfl, HJ⟩ := hrel
        clear HX
        obtain ⟨F4, hR4⟩ := HJ.out.rs
        have HF := Lib.hid (pnextL F4 g most D1 st2 HJ.out.len hr.out hm.out _ hR4.below hR4.low hR4.rdr)
        have hts := total_step most D1 st2
        have hll := left_le (most := most) (st := st2) (D := D1)
        have hJ1 := HJ.out.out
        have hJ2 := HJ.out.rest
        have hJ3 := HJ.out.len
        clear HJ
        obtain ⟨q, ok, s3, hO⟩ : ∃ q ok s3, outR (nx most D1 st2) = (q, ok, s3) := ⟨_, _, _, rfl⟩
        cases ok with
        | false =>
          have hbr : leftR D1 (nx most D1 st2) = D1 ∧ stR (nx most D1 st2) = s3 ∧ total most D1 st2 = ([], s3, D1) := by
            rw [hts]
            cases hX : nx most D1 st2 with
            | wait => rw [hX] at hO; injection hO with e1 e2; injection e2 with e2 e3; exact ⟨rfl, e3, by rw [← e3]⟩
            | fail s => rw [hX] at hO; injection hO with e1 e2; injection e2 with e2 e3; exact ⟨rfl, e3, by rw [← e3]⟩
            | whole q' n => rw [hX] at hO; injection hO with e1 e2; injection e2 with e2 e3; cases e2
          rw [hbr.2.2] at hJ1 hJ2
          have HQ : Hid (∀ w3 F5 l, Rdr w3 F5 g most (leftR D1 (nx most D1 st2)) (stR (nx most D1 st2)) → Step wr w3 F4 F5 → s3 = A.2.1 ∧ RSF w (w3.alloc (.cells (qcl q l) RQT)) g most A.2.2 A.2.1 _ P1 ∧ P1.map (·.1) = A.1) := Lib.hid (fun w3 F5 l hR5 hS5 => by
            rw [hbr.1, hbr.2.1] at hR5
            rw [← hJ2]
            refine ⟨rfl, ⟨F5, (hR4.step hS5 hR5).call ((Below.refl _ _).alloc (Nat.le_refl _) _)⟩, by rw [← hJ1]; simp⟩)
          clear hts hll hJ1 hJ2 hJ3 hbr hR4
          go_wp2_with fail
          refine HF.out.mono ?_
          rintro e w3 ⟨l, F5, rfl, hrow, hlf, hR5, hS5⟩
          have HQ2 := Lib.hid (HQ.out w3 F5 l hR5 hS5)
          have hl1 : l.oneCell' = true := by
            obtain ⟨p, cap, rfl, _⟩ := row_form2 hrow.1
            rfl
          rw [hO]
          dsimp only
          have hq1 := qcl_one q hl1
          have hnr := new_row w3
          clear HF HQ hrow hlf hR5 hS5 hl1
          go_wp2_with (refine wpList_store_row rfl RQT (.tmp 12) (.tmp 31) rfl w3.heap.size (qcl q l) rfl rfl RQT _ (heap_alloc_new w3 _) rq_size rfl hq1 ?_; rw [hnr])
          go_roundw
          case rel => exact ⟨k + 1, _, s3, P1, by omega, by go_num, rfl, rfl, Lib.hid (by rw [hAe.out]; exact HQ2.out.1), Lib.hid (by rw [hAe.out]; exact HQ2.out.2)⟩
          case measure => simp [intOf]; omega
        | true =>
          obtain ⟨n, hX⟩ : ∃ n, nx most D1 st2 = .whole q n := by
            cases hX : nx most D1 st2 with
            | wait => rw [hX] at hO; injection hO with e1 e2; injection e2 with e2 e3; cases e2
            | fail s => rw [hX] at hO; injection hO with e1 e2; injection e2 with e2 e3; cases e2
            | whole q' n => rw [hX] at hO; injection hO with e1 e2; exact ⟨n, by rw [← e1]⟩
          have hs3 : s3 = 0 := by rw [hX] at hO; injection hO with e1 e2; injection e2 with e2 e3; exact e3.symm
          subst hs3
          rw [hX] at hts HF hll
          dsimp only at hts
          rw [hts] at hJ1 hJ2
          have hP1 : P1.length + 1 ≤ A.1.length := by rw [← hJ1]; simp
          have hP5 : P1.length ≤ 5000 := by have := hcn.out; omega
          obtain ⟨pv, cv, rfl, _⟩ := row_form2 hR4.row
          have h5k : ¬ (5000 : Int) < (P1.length : Int) := by omega
          have HQ : Hid (∀ w3 F5, Rdr w3 F5 g most (D1.drop n) 0 → Step wr w3 F4 F5 → RS w w3 F5 g most (D1.drop n) 0 (.slice pv P1.length cv) P1) := Lib.hid (fun w3 F5 hR5 hS5 => hR4.step hS5 hR5)
          have HJ : Hid (P1.map (·.1) ++ q :: (total most (D1.drop n) 0).1 = A.1 ∧ (total most (D1.drop n) 0).2 = A.2 ∧ (D1.drop n).length ≤ 1073741824) := Lib.hid ⟨hJ1, hJ2, by
            rw [List.length_drop]; omega⟩
          have hO2 : outR (.whole q n) = (q, true, 0) := rfl
          clear hts hll hJ1 hJ2 hJ3 hR4 hP1
          go_wp2_with fail
          refine HF.out.mono ?_
          rintro e w3 ⟨l, F5, rfl, hrow, hlf, hR5, hS5⟩
          have HQ2 := Lib.hid (HQ.out w3 F5 hR5 hS5)
          rw [hO2] at hrow ⊢
          dsimp only at hrow ⊢
          have hl1 : l.oneCell' = true := by
            obtain ⟨p, cap, rfl, _⟩ := row_form2 hrow.1
            rfl
          have hq1 := qcl_one q hl1
          have hload := Lib.hid (qload w3 q l)
          have HA : Hid (RS w ((w3.alloc (.cells (qcl q l) RQT)).alloc (.cells (qcl q l) RQT)) F5 g most (D1.drop n) 0 (.slice pv P1.length cv) P1) := Lib.hid ((HQ2.out.call ((Below.refl _ _).alloc (Nat.le_refl _) _)).call ((Below.refl _ _).alloc (Nat.le_refl _) _))
          have hrow4 := HA.out.row
          have HRw : Hid (RowF ((w3.alloc (.cells (qcl q l) RQT)).alloc (.cells (qcl q l) RQT)) 0 l q.head.fields ∧ ∀ b, l.ownBlock = some b → ¬ F5 b) := Lib.hid ⟨⟨row_mono (row_below hrow.1 (((Below.refl _ _).alloc (Nat.le_refl _) _).alloc (by simp) _)) (Nat.zero_le _), hrow.2⟩, hlf⟩
          have hB : w.heap.size ≤ ((w3.alloc (.cells (qcl q l) RQT)).alloc (.cells (qcl q l) RQT)).heap.size := HA.out.below.size
          clear HF HQ hR5 hS5 hrow hlf HQ2
          go_wp2_with (first
            | (refine wpList_putq rfl (.tmp 12) (.tmp 31) rfl _ rfl q l hl1 rfl rfl ?_)
            | (refine wpList_loadq rfl (.tmp 12) rfl ⟨w3.heap.size, 0, none⟩ rfl q l hload.out ?_)
            | (refine wpList_sliceq rfl (.tmp 41) rfl q l rfl ?_)
            | (at_builtin; refine wpList_append_own_at _ rfl (.tmp 40) (.tmp 42) 26 rfl w.heap.size RQT i0 _ 18 224 Tryz.underlying26 hi0 hz0 hs0 hb0 hzc (by decide) _ _ _ rfl hrow4 ⟨(w3.alloc (.cells (qcl q l) RQT)).heap.size, 0, none⟩ 1 1 (qcl q l).toList rfl rfl (news_q _ q l) (one_q hq1) (by simp only [maxLen]; omega) (by omega) hB ?_; intro v4 w4 hown4 hg4 _ hat4))
          have HZ := RS.append HA.out HRw.out.1 HRw.out.2 hg4 hown4 hat4
          obtain ⟨p4, cap4, rfl, _⟩ := row_form2 hown4
          refine ⟨⟨_, 0, 0, D1.drop n, P1 ++ [(q, l)], rfl, rfl, Lib.hid ⟨⟨F5, HZ⟩, ?_, HJ.out.2.1, HJ.out.2.2⟩⟩, ?_⟩
          · rw [List.map_append, List.append_assoc]
            exact HJ.out.1
          · show 5001 - (P1.length + 1) < 5001 - P1.length
            omega
    · have hki : ¬ (k : Int) < (T.length : Int) := by omega
      have hkT : T.take k = T := List.take_of_length_le (by omega)
      rw [hkT] at hst HI
      rw [← hG.out] at hst HI
      obtain rfl := hst.out
      obtain ⟨⟨F2, hR⟩, hP⟩ := HI.out
      have HGt : Hid (Got w wr _ P ∧ P.map (·.1) = G.1) := Lib.hid ⟨⟨hR.row, fun x hx => (hR.lists x hx).1, hR.below⟩, hP⟩
      clear hR hP HI hcl hcnt HTk
      go_wp2_with fail
      go_ret3
      exact ⟨_, P, rfl, HGt.out.1, HGt.out.2⟩
end Go.Proofs.YtmlpdhmafmdkcaaGreatDoor.L11Read

/- Layer 11's anchor. -/
namespace Go.Proofs.YtmlpdhmafmdkcaaGreatDoor.L11Anchor
open Go.ChangeShapes Go.WideShapes Go.ChangeAt Go.RowKit Bytes LexPure Ret FieldsPure HeadPure InflowPure QCell InObj InflowObj PUnder KeptRow Mem Step
set_option maxRecDepth 100000
def AT : List UInt8 := [71, 69, 84, 32, 47, 97, 32, 72, 84, 84, 80, 47, 49, 46, 49, 13, 10, 72, 111, 115, 116, 58, 32, 104, 13, 10, 13, 10, 80, 79, 83, 84, 32, 47, 98, 32, 72, 84, 84, 80, 47, 49, 46, 49, 13, 10, 72, 111, 115, 116, 58, 32, 104, 13, 10, 67, 111, 110, 116, 101, 110, 116, 45, 76, 101, 110, 103, 116, 104, 58, 32, 50, 13, 10, 13, 10, 120, 121, 122]
theorem an1 : ∃ q, nx 9 AT 0 = .whole q 28 ∧ q.target.path = [47, 97] ∧ q.host = [104] ∧ q.keep = true := by
  have h : (match read11 9 AT with | .whole q n => n == 28 && q.target.path == [47, 97] && q.host == [104] && q.keep | _ => false) = true := by decide +kernel
  show ∃ q, read11 9 AT = .whole q 28 ∧ q.target.path = [47, 97] ∧ q.host = [104] ∧ q.keep = true
  cases hr : read11 9 AT with
  | wait => rw [hr] at h; cases h
  | fail s => rw [hr] at h; cases h
  | whole q n =>
    rw [hr] at h
    simp only [Bool.and_eq_true, beq_iff_eq] at h
    obtain ⟨⟨⟨rfl, h2⟩, h3⟩, h4⟩ := h
    exact ⟨q, rfl, h2, h3, h4⟩
theorem an2 : ∃ q n, nx 9 (AT.drop 28) 0 = .whole q n ∧ q.body = [120, 121] ∧ q.sized = true ∧ (AT.drop 28).drop n = [122] := by
  have h : (match read11 9 (AT.drop 28) with | .whole q n => q.body == [120, 121] && q.sized && (AT.drop 28).drop n == [122] | _ => false) = true := by decide +kernel
  show ∃ q n, read11 9 (AT.drop 28) = .whole q n ∧ q.body = [120, 121] ∧ q.sized = true ∧ (AT.drop 28).drop n = [122]
  cases hr : read11 9 (AT.drop 28) with
  | wait => rw [hr] at h; cases h
  | fail s => rw [hr] at h; cases h
  | whole q n =>
    rw [hr] at h
    simp only [Bool.and_eq_true, beq_iff_eq] at h
    obtain ⟨⟨h1, h2⟩, h3⟩ := h
    exact ⟨q, n, rfl, h1, h2, h3⟩
theorem row_one {w : World} {base n size : Nat} {e : TypeId} {v : Value} {xs : List Value} (h : w.ownsRow base e size v n xs) : v.oneCell' = true := by
  rcases h.2 with ⟨hv, hn⟩ | ⟨g, cap, cur, hv, _⟩
  · rw [hv]; rfl
  · rw [hv]; rfl
set_option maxHeartbeats 3200000 in
theorem anchor_any (w : World) (hm : MaxInt w) : Calls Tryz.prog 5 #[] w fun e w' => e = .returned (.bool true) ∧ Below w.heap.size w w' := by
  have HN := Lib.hid (pnew11 9 w)
  replace hm := Lib.hid hm
  obtain ⟨qA, a1, a2, a3, a4⟩ := an1
  obtain ⟨qB, nB, b1, b2, b3, b4⟩ := an2
  have a1 := Lib.hid a1
  have a2 := Lib.hid a2
  have a3 := Lib.hid a3
  have a4 := Lib.hid a4
  have b1 := Lib.hid b1
  have b2 := Lib.hid b2
  have b3 := Lib.hid b3
  have b4 := Lib.hid b4
  go_enter Tryz.func5, Tryz.ntmps5
  go_wp2_with fail
  refine HN.out.mono ?_
  rintro e w1 ⟨⟨g, F, rfl, hD, hlo⟩, hb⟩
  have HF := pfeed11 F g 9 [] 0 ⟨#[71, 69, 84, 32, 47, 97, 32, 72, 84, 84, 80, 47, 49, 46, 49, 13, 10, 72, 111, 115, 116, 58, 32, 104, 13, 10, 13, 10, 80, 79, 83, 84, 32, 47, 98, 32, 72, 84, 84, 80, 47, 49, 46, 49, 13, 10, 72, 111, 115, 116, 58, 32, 104, 13, 10, 67, 111, 110, 116, 101, 110, 116, 45, 76, 101, 110, 103, 116, 104, 58, 32, 50, 13, 10, 13, 10, 120, 121, 122]⟩ (by decide) w1 hD
  rw [show ([] : List UInt8) ++ toL ⟨#[71, 69, 84, 32, 47, 97, 32, 72, 84, 84, 80, 47, 49, 46, 49, 13, 10, 72, 111, 115, 116, 58, 32, 104, 13, 10, 13, 10, 80, 79, 83, 84, 32, 47, 98, 32, 72, 84, 84, 80, 47, 49, 46, 49, 13, 10, 72, 111, 115, 116, 58, 32, 104, 13, 10, 67, 111, 110, 116, 101, 110, 116, 45, 76, 101, 110, 103, 116, 104, 58, 32, 50, 13, 10, 13, 10, 120, 121, 122]⟩ = AT from rfl] at HF
  have HB := Lib.hid hb
  replace HF := Lib.hid HF
  have HL := Lib.hid hlo
  clear HN hD hb hlo
  go_wp2_with fail
  refine HF.out.mono ?_
  rintro e w2 ⟨rfl, F2, hR2, hS2⟩
  have hlow2 : ∀ k, F2 k → w.heap.size ≤ k := fun k hk => by
    rcases hS2.grow k hk with h | h
    · exact HL.out k h
    · exact Nat.le_trans HB.out.size h.1
  have hbel2 : Below w.heap.size w w2 := HB.out.trans (hS2.below HB.out.size HL.out)
  have HX := Lib.hid (pnextL F2 g 9 AT 0 (by decide) (by unfold ChObj.InR; decide) hm.out w2 hbel2 hlow2 hR2)
  replace hlow2 := Lib.hid hlow2
  replace hbel2 := Lib.hid hbel2
  rw [a1.out] at HX
  have HS2 := Lib.hid hS2
  clear HF hR2 hS2
  go_wp2_with fail
  refine HX.out.mono ?_
  rintro e w3 ⟨l1, F3, rfl, hrow, hlf, hR3, hS3⟩
  rw [show outR (.whole qA 28) = (qA, true, 0) from rfl]
  dsimp only
  have hl1 := row_one hrow.1
  have HR3 : Hid (Rdr (w3.alloc (.cells (qcl qA l1) RQT)) F3 g 9 (AT.drop 28) 0) := Lib.hid (hR3.step (Step.of_below ((Below.refl _ _).alloc (Nat.le_refl _) _) (fun _ => False)) (fun _ _ h => h))
  have HA0 := Lib.hid (Has.new w3 RQT (qcl qA l1))
  have HlA : Hid (¬ F3 w3.heap.size) := Lib.hid (fun h => by have := hR3.lt _ h; omega)
  have HS3 := Lib.hid (Step.trans HS2.out hS3)
  have hlow3 : ∀ k, F3 k → w.heap.size ≤ k := fun k hk => by
    rcases HS3.out.grow k hk with h | h
    · exact HL.out k h
    · exact Nat.le_trans HB.out.size h.1
  have hbel3 : Below w.heap.size w w3 := HB.out.trans (HS3.out.below HB.out.size HL.out)
  have HXB := Lib.hid (pnextL F3 g 9 (AT.drop 28) 0 (by decide) (by unfold ChObj.InR; decide) hm.out _ (hbel3.alloc hbel3.size _) hlow3 HR3.out)
  clear hlow3 hbel3 hlow2 hbel2
  rw [b1.out] at HXB
  clear HX hrow hlf hR3 hS3 HS2
  go_wp2_with (refine wpList_putq rfl (.tmp 2) (.tmp 16) rfl _ rfl qA l1 hl1 rfl rfl ?_)
  generalize hW3 : w3.alloc (.cells (qcl qA l1) RQT) = W3 at *
  have HB3 : Hid (Below w.heap.size w w3 → Below w.heap.size w W3) := Lib.hid (fun h => by rw [← hW3]; exact h.alloc h.size _)
  generalize w3.heap.size = A0 at *
  clear hl1 hW3
  refine HXB.out.mono ?_
  rintro e w4 ⟨l2, F4, rfl, hrow, hlf, hR4, hS4⟩
  rw [show outR (.whole qB nB) = (qB, true, 0) from rfl]
  dsimp only
  have hl2 := row_one hrow.1
  rw [show leftR (AT.drop 28) (.whole qB nB) = (AT.drop 28).drop nB from rfl, b4.out] at hR4
  have HA4 := (hS4.has HA0.out HlA.out).alloc (.cells (qcl qB l2) RQT)
  have HB4 := Has.new w4 RQT (qcl qB l2)
  have HR4 : Rdr (w4.alloc (.cells (qcl qB l2) RQT)) F4 g 9 [122] 0 := hR4.step (Step.of_below ((Below.refl _ _).alloc (Nat.le_refl _) _) (fun _ => False)) (fun _ _ h => h)
  have hlow : ∀ k, F3 k → w.heap.size ≤ k := fun k hk => by
    rcases HS3.out.grow k hk with h | h
    · exact HL.out k h
    · exact Nat.le_trans HB.out.size h.1
  have h1 : Below w.heap.size w w3 := HB.out.trans (HS3.out.below HB.out.size HL.out)
  have h2 : Below w.heap.size w W3 := HB3.out h1
  have h3 : Below w.heap.size w w4 := h2.trans (hS4.below h2.size hlow)
  have HL4 : Hid (∀ k, F4 k → w.heap.size ≤ k) := Lib.hid (fun k hk => by
    rcases hS4.grow k hk with h | h
    · exact hlow k h
    · exact Nat.le_trans h2.size h.1)
  have HBL := Lib.hid (h3.alloc h3.size (.cells (qcl qB l2) RQT))
  have HLn := Lib.hid (plen11 F4 g 9 [122] 0 (by decide) _ HR4)
  have c9 := HA4.cell 9
  have c12 := HA4.cell 12
  have c16 := HA4.cell 16
  have c14 := HB4.cell 14
  have c15 := HB4.cell 15
  rw [show (qcl qA l1)[9]? = some (.string (ofL qA.target.path)) from rfl, a2.out, show ofL [47, 97] = ⟨#[47, 97]⟩ from rfl] at c9
  rw [show (qcl qA l1)[12]? = some (.string (ofL qA.host)) from rfl, a3.out, show ofL [104] = ⟨#[104]⟩ from rfl] at c12
  rw [show (qcl qA l1)[16]? = some (.bool qA.keep) from rfl, a4.out] at c16
  rw [show (qcl qB l2)[14]? = some (.string (ofL qB.body)) from rfl, b2.out, show ofL [120, 121] = ⟨#[120, 121]⟩ from rfl] at c14
  rw [show (qcl qB l2)[15]? = some (.bool qB.sized) from rfl, b3.out] at c15
  clear HA4 HB4 HR4 hlow h1 h2 h3 hrow hlf hR4 hS4 HXB HA0 HlA HR3 HS3 HB3 HB HL a1 a2 a3 a4 b1 b2 b3 b4
  go_wp2_with (refine wpList_putq rfl (.tmp 5) (.tmp 22) rfl _ rfl qB l2 hl2 rfl rfl ?_)
  generalize w4.alloc (.cells (qcl qB l2) RQT) = W4 at *
  generalize w4.heap.size = B0 at *
  refine HLn.out.mono ?_
  rintro e w5 ⟨rfl, F5, _, hb5⟩
  have HBL2 := Lib.hid (HBL.out.trans (hb5.below HBL.out.size HL4.out))
  clear hb5 HBL HLn HL4 c9 c12 c14 c15 c16
  go_wp2_with fail
  go_ret
  exact ⟨rfl, HBL2.out⟩
end Go.Proofs.YtmlpdhmafmdkcaaGreatDoor.L11Anchor

/- The row's step for a law whose row lists variables, and its card: the witness in the world that the listed data lay. -/
namespace Go.Proofs.YtmlpdhmafmdkcaaGreatDoor.LawCard
open Go.ChangeShapes Go.WideShapes Go.ChangeAt Go.RowKit
variable {H : Type} {enc : TypeId × Value → H}
/-- there is an input that fits: in the world that the listed data lay -/
theorem witness {C : Checked} {os : Os} {f : FuncId} {fn : Func} {s : OpenSpec} {conds : List PathCond} {apart : Bool} {laid : List (String × DataW Unit)} (args : Array Value)
    (hv : ((World.laidAll C.prog os laid).forCall (fun _ _ => 0) ⟨#[], args, []⟩).variablesZipB C.prog = true)
    (hr : (((World.laidAll C.prog os laid).forCall (fun _ _ => 0) ⟨#[], args, []⟩).heap.toList.drop C.prog.globals.size).take ((begin C.prog (fun _ _ => 0) default).world.heap.size - C.prog.globals.size) =
      (begin C.prog (fun _ _ => 0) default).world.heap.toList.drop C.prog.globals.size)
    (hok : Input.okWideB C.prog ((World.laidAll C.prog os laid).forCall (fun _ _ => 0) ⟨#[], args, []⟩) f ⟨#[], args, []⟩ = true)
    (hplain : ∀ w, laidMetH C.prog laid w = laidMet C.prog laid w)
    (hf : (World.holding C.prog os ⟨#[], #[], []⟩).layFits C.prog laid [] = true)
    (hi : (World.holding C.prog os ⟨#[], #[], []⟩).layIfaces C.prog laid (World.laidAll C.prog os laid) = true)
    {x : List (DataW H) × List (DataW H) × List MemPlace} (hx : DataW.whole enc C.prog ((World.laidAll C.prog os laid).forCall (fun _ _ => 0) ⟨#[], args, []⟩).memory fn.params.toList s.vars apart args.toList 8 = some x)
    (hconds : conds.all (PathCond.test C.prog ⟨fn.params.toList, x.1, s.bare.plain.varTypes C.prog, x.2.1⟩) = true) (hkk : ∀ k, s.cond = some k → k H (x.1 ++ x.2.1) = true)
    (hsz : s.bare.sizedB enc C.prog fn apart ((World.laidAll C.prog os laid).forCall (fun _ _ => 0) ⟨#[], args, []⟩).memory args 8 = true) :
    ∃ (w : World) (tape : Tape) (i : Input), w.os = os ∧ (w.forCall tape i).Shaped C.prog ∧ i.vars = [] ∧ Input.okWide C.prog (w.forCall tape i) .any w.heap.size f i ∧
      s.preRow enc C.prog fn conds apart laid (w.forCall tape i).memory i.args ∧ ({} : Assume).holds C.prog (lone (Frame.enter C.prog f i.args .normal) [] (w.forCall tape i)) :=
  ⟨World.laidAll C.prog os laid, fun _ _ => 0, ⟨#[], args, []⟩, World.laidAll_os _ _ _, World.shaped_of_ZipB hv hr, (Input.okWide_of_okWideB (base := 0) hok).1, (Input.okWide_of_okWideB hok).2,
    OpenSpec.preRow_of_cond 8 hx hconds hkk hsz (by rw [hplain]; exact laidMet_laidAll _ hf hi), by
    simp only [Assume.holds]
    exact ⟨by simp, by simp, fun _ => Modest.zero, by simp, by simp⟩⟩
end Go.Proofs.YtmlpdhmafmdkcaaGreatDoor.LawCard
