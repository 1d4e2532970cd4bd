/- Texts of this seat, one behind another: InflowWholeW. -/

import Derived.Test.YtlgohmghjffiaaaGreatDoorB
import Derived.Test.YtlgohmghjffiaaaGreatDoorA3
import Derived.Test.YtlgohmghjffiaaaGreatDoorMW1
/- A request that is told has the framing that its head says: InflowWhole returns true. -/
namespace Go.Proofs.YtlgohmghjffiaaaGreatDoor.InflowWholeW
open Go.ChangeShapes Go.WideShapes Go.ChangeAt Go.RowKit Bytes LexPure Ret Texts FieldsPure HeadPure HeadLines FramePure InflowPure InflowWholeP R9Req R7Get HeadFew QCell InObj InflowObj PUnder L11Anchor L11Read Flds HBox KeptRow Mem Step
set_option maxRecDepth 100000
theorem texts1 (W : World) (a : ByteArray) : Texts (W.alloc (.cells #[.string a] 9)) (.slice (some ⟨W.heap.size, 0, none⟩) 1 1) [toL a] :=
  ⟨_, 1, rfl, by simp, fun _ => ⟨W.heap.size, 0, rfl, by simp, fun j hj => by
    have h := (Has.new W 9 #[.string a]).cell (0 + j)
    match j, hj with
    | 0, _ => rw [h]; simp [ofL_toL]⟩⟩
theorem encQ_at : ∀ (P : List (Rq × Value)) (k j : Nat) (hk : k < P.length), j < 18 → (encQ P)[k * 18 + j]? = (qcl P[k].1 P[k].2).toList[j]?
  | x :: P, 0, j, _, hj => by
    show ((qcl x.1 x.2).toList ++ encQ P)[0 * 18 + j]? = _
    rw [Nat.zero_mul, Nat.zero_add, List.getElem?_append_left (by rw [qcl_len]; exact hj)]
    rfl
  | x :: P, k + 1, j, hk, hj => by
    show ((qcl x.1 x.2).toList ++ encQ P)[(k + 1) * 18 + j]? = _
    rw [List.getElem?_append_right (by rw [qcl_len]; omega), qcl_len, show (k + 1) * 18 + j - 18 = k * 18 + j by omega]
    exact encQ_at P k j (by simpa using hk) hj
/-- an element of a row of requests -/
theorem row_load {W : World} {base : Nat} {v : Value} {P : List (Rq × Value)} (h : W.ownsRow base RQT 18 v P.length (encQ P)) (h0 : 0 < P.length) :
    ∃ gv cap, v = .slice (some ⟨gv, 0, none⟩) P.length cap ∧ gv < W.heap.size ∧ P.length ≤ maxLen ∧ ∀ (k : Nat) (hk : k < P.length), (loadVar RQT ⟨gv, k * 18, none⟩).run Tryz.prog W = .ok (.agg (qcl P[k].1 P[k].2)) W := by
  rcases h.2 with ⟨_, hn⟩ | ⟨g, cap, cur, hv, _, hg, hcap, hm, _⟩
  · omega
  · refine ⟨g, cap, hv, (Array.getElem?_eq_some_iff.1 hg).1, by omega, fun k hk => ?_⟩
    have hr : W.rangeAt g (k * 18) (qcl P[k].1 P[k].2).toList := fun j u hj => by
      have hj18 : j < 18 := by
        have := (List.getElem?_eq_some_iff.1 hj).1
        rw [qcl_len] at this
        exact this
      have hc := h.cells (g := g) (by rw [hv]; rfl) (k * 18 + j) u (by rw [encQ_at P k j hk hj18]; exact hj)
      rw [show (⟨g, 0, none⟩ : Addr).add (k * 18 + j) = ⟨g, k * 18 + j, none⟩ by unfold Addr.add; split <;> simp_all] at hc
      exact hc
    have := run_loadVar_mid (P := Tryz.prog) W g (k * 18) RQT _ _ hr Tryz.underlying34 rfl (by kernel_rfl)
    rw [Array.toArray_toList] at this
    exact this
theorem wpList_load_any {ops : Array Oper} {rest : List Oper} {o : Oper} {a : Act} {w : World} {Q : Exit → Act → World → Prop} (hgd : o.guard = none) (ty : TypeId) (x : Operand) (ho : o.op = .load ty x) (p : Addr) (hx : a.eval x = .pointer (some p)) (v : Value)
    (hl : (loadVar ty p).run Tryz.prog w = .ok v w) (h : wpList Tryz.prog ops Q rest (a.put o.dst v) w) : wpList Tryz.prog ops Q (o :: rest) a w := by
  refine wpList_plain hgd fun _ hK => ?_
  unfold Oper.wp execOp
  simp only [ho, hx, Instr.loadAt, Instr.sureAddr, Sem.run_bind, Sem.run_pure, Result.andThen_ok, hl]
  exact hK _ _ h
theorem head_load (w : World) (q : Rq) (l : Value) : (loadVar 30 ⟨w.heap.size, 0, none⟩).run Tryz.prog (w.alloc (.cells (qcl q l) RQT)) = .ok (hv q.head l) (w.alloc (.cells (qcl q l) RQT)) := by
  have hr : (w.alloc (.cells (qcl q l) RQT)).rangeAt w.heap.size 0 [.string (ofL q.head.method), .string (ofL q.head.target), .int .i64 q.head.status, .string (ofL q.head.reason), .int .i64 q.head.minor, l] := fun j u hj => by
    have h := (Has.new w RQT (qcl q l)).cell (0 + j)
    rw [h]
    match j, hj with
    | 0, hj => exact hj
    | 1, hj => exact hj
    | 2, hj => exact hj
    | 3, hj => exact hj
    | 4, hj => exact hj
    | 5, hj => exact hj
    | _ + 6, hj => cases hj
  exact run_loadVar_mid (P := Tryz.prog) _ w.heap.size 0 30 _ _ hr Tryz.underlying30 rfl (by kernel_rfl)
theorem frame_kind (minor : Int) (G : List HField) (most : Int) (h : (request9 minor G most).2.2 = 0) : (request9 minor G most).1 = 1 ∨ (request9 minor G most).1 = 2 ∨ (request9 minor G most).1 = 3 := by
  unfold request9 at *
  by_cases h1 : 0 < getN G TENC
  · rw [if_pos h1] at *
    by_cases h2 : minor = 0 ∨ 0 < getN G CLEN ∨ codeN (elems G TENC) = 3
    · rw [if_pos h2] at h; cases h
    · rw [if_neg h2] at *
      by_cases h3 : codeN (elems G TENC) = 2
      · rw [if_pos h3] at h; cases h
      · rw [if_neg h3]; exact .inr (.inr rfl)
  · rw [if_neg h1] at *
    by_cases h2 : getN G CLEN = 0
    · rw [if_pos h2]; exact .inl rfl
    · rw [if_neg h2] at *
      by_cases h3 : lenN G < 0
      · rw [if_pos h3] at h; cases h
      · rw [if_neg h3] at *
        by_cases h4 : most < lenN G
        · rw [if_pos h4] at h; cases h
        · rw [if_neg h4]; exact .inr (.inl rfl)
set_option maxHeartbeats 6400000 in
theorem walkIn (most : Int) (hmost : -9223372036854775808 ≤ most ∧ most ≤ 9223372036854775807) (data : ByteArray) (w : World) (hm : MaxInt w) :
    Calls Tryz.prog 4 #[.int .i64 most, .string data] w fun e w' => e = .returned (.bool true) ∧ Below w.heap.size w w' := by
  have HA := Lib.hid (anchor_any w hm)
  replace hm := Lib.hid hm
  by_cases hbig : 20000 < data.size
  · have hbi : (20000 : Int) < (data.size : Int) := by omega
    go_enter Tryz.func4, Tryz.ntmps4
    go_wp2_with fail
    refine HA.out.mono ?_
    rintro e w1 ⟨rfl, hb1⟩
    go_wp2_with fail
    go_ret
    exact ⟨rfl, hb1⟩
  have hbi : ¬ (20000 : Int) < (data.size : Int) := by omega
  have hfl : ([toL data] : List (List UInt8)).flatten = toL data := by simp
  have HR : Hid (∀ (W : World) (g : Nat), g = W.heap.size → MaxInt W → Calls Tryz.prog 11 #[.int .i64 most, .slice (some ⟨g, 0, none⟩) 1 1] (W.alloc (.cells #[.string data] 9)) fun e w' => GotF (W.alloc (.cells #[.string data] 9)) w' e (allOf most (toL data))) := Lib.hid (fun W g hg hmW => by
    subst hg
    have := read_any most _ _ hmost _ (hmW.below ((Below.refl _ _).alloc (Nat.le_refl _) _)) (texts1 W data) (by rw [hfl, toL_length]; omega) (fun j => by
      have hc := all_count most _ (toL data) (Nat.le_refl _)
      rw [toL_length] at hc
      match j with
      | 0 => rw [List.take_zero, List.flatten_nil, all_nil]; decide
      | j + 1 =>
        rw [show List.take (j + 1) [toL data] = [toL data] by simp, hfl]
        omega)
    rw [hfl] at this
    exact this)
  have HW : Hid (∀ q ∈ (allOf most (toL data)).1, Whole most q ∧ q.head.fields.length ≤ 32 ∧ ∀ f ∈ q.head.fields, short f) := Lib.hid (fun q hq => by
    obtain ⟨E, n, h⟩ := all_mem most _ (toL data) (Nat.le_refl _) q hq
    exact ⟨whole_say h, (whole_few h).2⟩)
  generalize allOf most (toL data) = A at *
  clear hbig hfl
  go_enter Tryz.func4, Tryz.ntmps4
  go_wp2_with fail
  refine HA.out.mono ?_
  rintro e w1 ⟨rfl, hb1⟩
  have HB := Lib.hid hb1
  clear HA hb1
  go_wp2_with fail
  refine (HR.out _ _ rfl (hm.out.below HB.out)).mono ?_
  rintro e w2 ⟨v, P, rfl, hG, hP⟩
  have HB2 : Hid (Below w.heap.size w w2) := Lib.hid (below_chain (HB.out.alloc HB.out.size _) hG.below)
  have HWP : Hid (∀ x ∈ P, Whole most x.1 ∧ x.1.head.fields.length ≤ 32 ∧ ∀ f ∈ x.1.head.fields, short f) := Lib.hid (fun x hx => HW.out x.1 (by rw [← hP]; exact List.mem_map.2 ⟨x, hx, rfl⟩))
  have HG := Lib.hid hG
  clear HR HW HB hP hG
  obtain ⟨pv, cv, rfl, _⟩ := row_form2 HG.out.row
  go_wp2_with fail
  go_loopw [32] (fun i wr => ∃ k : Nat, k ≤ P.length ∧ i = .int .i64 k ∧ Hid (Below w2.heap.size w2 wr)) (fun i _ => P.length - (intOf i).toNat)
  case atStart => exact ⟨0, Nat.zero_le _, rfl, Lib.hid (Below.refl _ _)⟩
  case round =>
    obtain ⟨k, hk, rfl, HI⟩ := hrel
    by_cases hlt : k < P.length
    · have hki : (k : Int) < (P.length : Int) := by omega
      obtain ⟨gv, cap, hv, hgv, hml, hld⟩ := row_load (row_below HG.out.row HI.out) (by omega)
      injection hv with e1 e2 e3
      subst e1
      subst e3
      have hload := Lib.hid (hld k hlt)
      obtain ⟨hw, hc32, hsh⟩ := HWP.out P[k] (List.getElem_mem hlt)
      have hli := HG.out.lists P[k] (List.getElem_mem hlt)
      obtain ⟨q, hq⟩ : ∃ q, q = P[k].1 := ⟨_, rfl⟩
      obtain ⟨l, hl⟩ : ∃ l, l = P[k].2 := ⟨_, rfl⟩
      rw [← hq] at hw hc32 hsh hli
      rw [← hl] at hli
      rw [← hq, ← hl] at hload
      have hl1 := row_one hli.1
      have HH := Lib.hid (head_load wr q l)
      have hPm : P.length ≤ 9223372036854775807 := by unfold maxLen at hml; exact hml
      clear hld hq hl e2 hml
      go_wp2_with (first
        | (refine wpList_loadq rfl (.tmp 34) rfl ⟨gv, k * 18, none⟩ rfl q l hload.out ?_)
        | (refine wpList_putq rfl (.tmp 9) (.tmp 35) rfl _ rfl q l hl1 rfl rfl ?_)
        | (refine wpList_load_any rfl 30 (.tmp 37) rfl ⟨wr.heap.size, 0, none⟩ rfl _ HH.out ?_))
      have hFL : FL (wr.alloc (.cells (qcl q l) RQT)) l q.head.fields := ((fl_of hli.1 (by have := hli.2; omega)).below HI.out).below ((Below.refl _ _).alloc (Nat.le_refl _) _)
      have hFew : Few q.head.fields := fun j hj => by
        have := hsh _ (List.getElem_mem hj)
        unfold short at this
        exact ⟨by omega, by omega⟩
      have HQ := Lib.hid (r9request_any q.head l most hFew (by omega) _ hFL)
      have hHas := Has.new wr RQT (qcl q l)
      have HBr : Hid (Below w2.heap.size w2 (wr.alloc (.cells (qcl q l) RQT))) := Lib.hid (HI.out.alloc HI.out.size _)
      have hlt0 : wr.heap.size < (wr.alloc (.cells (qcl q l) RQT)).heap.size := by simp
      replace hw := Lib.hid hw
      replace hFL := Lib.hid hFL
      replace hFew := Lib.hid hFew
      replace hsh := Lib.hid hsh
      generalize wr.alloc (.cells (qcl q l) RQT) = W1 at *
      generalize wr.heap.size = B0 at *
      refine HQ.out.mono ?_
      rintro e w3 ⟨rfl, hb3⟩
      replace hHas := hHas.below hb3 hlt0
      have c0 := hHas.cell 0
      have c4 := hHas.cell 4
      have c5 := hHas.cell 5
      have c12 := hHas.cell 12
      have c14 := hHas.cell 14
      have c15 := hHas.cell 15
      have c17 := hHas.cell 17
      rw [show (qcl q l)[0]? = some (.string (ofL q.head.method)) from rfl] at c0
      rw [show (qcl q l)[4]? = some (.int .i64 q.head.minor) from rfl] at c4
      rw [show (qcl q l)[5]? = some l from rfl] at c5
      rw [show (qcl q l)[12]? = some (.string (ofL q.host)) from rfl] at c12
      rw [show (qcl q l)[14]? = some (.string (ofL q.body)) from rfl] at c14
      rw [show (qcl q l)[15]? = some (.bool q.sized) from rfl] at c15
      rw [show (qcl q l)[17]? = some (.string (ofL q.upgrade)) from rfl] at c17
      have HGt := Lib.hid (fun (w : World) (hF : FL w l q.head.fields) => rget_any l q.head.fields ⟨#[69, 120, 112, 101, 99, 116]⟩ (by decide) hFew.out w hF)
      have HF3 := Lib.hid (hFL.out.below hb3)
      have HB3 := Lib.hid (HBr.out.trans (Below.mono hb3 HBr.out.size))
      have hN0 : getN q.head.fields (toL (⟨#[69, 120, 112, 101, 99, 116]⟩ : ByteArray)) = 0 := by
        have he : (toL (⟨#[69, 120, 112, 101, 99, 116]⟩ : ByteArray)) = [69, 120, 112, 101, 99, 116] := rfl
        rw [he]
        have h2 := hw.out.expect
        have hh : hit [69, 120, 112, 101, 99, 116] = hit EXPECT := by
          funext f
          unfold hit alike
          rw [show lower [69, 120, 112, 101, 99, 116] = lower EXPECT from by decide]
        unfold getN at h2 ⊢
        rw [hh]
        exact h2
      rw [hN0] at HGt
      have hE := hw.out.frame
      have hbd := hw.out.bound
      have hsz := hw.out.sized
      have hln := hw.out.len
      have hno := hw.out.none
      have hho := hw.out.host
      have hup := hw.out.up
      have hk3 := frame_kind _ _ _ hE
      unfold trip
      rw [hE]
      generalize (request9 q.head.minor q.head.fields most).1 = K at *
      generalize (request9 q.head.minor q.head.fields most).2.1 = Ln at *
      obtain ⟨B, hB⟩ : ∃ B, B = ofL q.body := ⟨_, rfl⟩
      have sB : B.size = q.body.length := by rw [hB, ofL_size]
      have nB : q.body = [] → B = ⟨#[]⟩ := fun h => by rw [hB, h]; rfl
      rw [← hB] at c14
      have hcs : (K = 1 ∧ B = ⟨#[]⟩ ∧ q.sized = false) ∨ (K = 2 ∧ q.sized = true ∧ (B.size : Int) = Ln) ∨ (K = 3 ∧ q.sized = true) := by
        by_cases k1 : K = 1
        · exact .inl ⟨k1, nB (hno k1), by rw [hsz, k1]; rfl⟩
        · by_cases k2 : K = 2
          · exact .inr (.inl ⟨k2, by rw [hsz, k2]; rfl, by have := hln k2; omega⟩)
          · exact .inr (.inr ⟨by rcases hk3 with h | h | h; exact absurd h k1; exact absurd h k2; exact h, by rw [hsz]; exact decide_eq_true k1⟩)
      have hB0 : most < (B.size : Int) → B.size = 0 := fun h => by
        rcases hbd with q1 | q1
        · omega
        · rw [sB, q1]; rfl
      have hhs : 0 < q.head.minor → ¬ (ofL q.host).toList = [] ∧ (ofL q.host).toList.isEmpty = false := fun h => by
        have h2 := hho h
        have e : (ofL q.host).toList = q.host := by rw [ByteArray.toList_eq]; exact toL_ofL _
        rw [e]
        refine ⟨h2, ?_⟩
        cases hq2 : q.host with
        | nil => exact absurd hq2 h2
        | cons => rfl
      have hups : ((ofL q.upgrade).toList = [] ∧ (ofL q.upgrade).toList.isEmpty = true) ∨ (¬ (ofL q.upgrade).toList = [] ∧ (ofL q.upgrade).toList.isEmpty = false ∧ K = 1 ∧ ofL q.head.method = ⟨#[71, 69, 84]⟩) := by
        have e : (ofL q.upgrade).toList = q.upgrade := by rw [ByteArray.toList_eq]; exact toL_ofL _
        rw [e]
        cases hq2 : q.upgrade with
        | nil => exact .inl ⟨rfl, rfl⟩
        | cons a b =>
          obtain ⟨u1, u2⟩ := hup (by rw [hq2]; simp)
          exact .inr ⟨by simp, rfl, u1, by rw [u2]; rfl⟩
      generalize ofL q.host = HO at *
      generalize ofL q.upgrade = UP at *
      generalize ofL q.head.method = ME at *
      replace hhs := Lib.hid hhs
      replace hups := Lib.hid hups
      replace hB0 := Lib.hid hB0
      clear hE hbd hsz hln hno hho hup hB sB nB hw hN0 HQ hb3 hHas HBr hFL hFew hsh hc32 hlt0 hli hload HH
      have HL : Hid (∀ wz, Below w2.heap.size w2 wz → ∃ k_1 : Nat, k_1 ≤ P.length ∧ (.int .i64 ((k : Int) + 1) : Value) = .int .i64 k_1 ∧ Hid (Below w2.heap.size w2 wz)) := Lib.hid (fun wz h => ⟨k + 1, by omega, by go_num, Lib.hid h⟩)
      have hm2 : (most < 0 ∧ B = ⟨#[]⟩) ∨ (¬ (most < (B.size : Int)) ∧ True) := by
        by_cases h : most < (B.size : Int)
        · have h0 := hB0.out h
          exact .inl ⟨by omega, toL_inj (by
            have : (toL B).length = 0 := by rw [toL_length]; exact h0
            rw [List.length_eq_zero_iff.1 this])⟩
        · exact .inr ⟨h, trivial⟩
      have hmi : (0 < q.head.minor ∧ (¬ HO.toList = [] ∧ HO.toList.isEmpty = false)) ∨ (¬ 0 < q.head.minor ∧ True) := by
        by_cases h : 0 < q.head.minor
        · exact .inl ⟨h, hhs.out h⟩
        · exact .inr ⟨h, trivial⟩
      clear hB0 hhs
      generalize q.head.minor = mi at *
      rcases hcs with ⟨rfl, rfl, hz⟩ | ⟨rfl, hz, rfl⟩ | ⟨rfl, hz⟩
      · rw [hz] at c15
        clear hz hm2
        rcases (show most < 0 ∨ ¬ most < 0 from Classical.em _) with hm | hm <;> rcases hmi with ⟨hi1, hi2, hi3⟩ | ⟨hi1, _⟩
        all_goals
          go_wp2_with fail
          refine (HGt.out _ HF3.out).mono ?_
          rintro e w4 ⟨rfl, hb4⟩
          replace c0 := (hb4.cell (p := ⟨B0, 0, none⟩) (World.block_lt_of_cell? _ _ c0)).trans c0
          replace c15 := (hb4.cell (p := ⟨B0, 15, none⟩) (World.block_lt_of_cell? _ _ c15)).trans c15
          replace c17 := (hb4.cell (p := ⟨B0, 17, none⟩) (World.block_lt_of_cell? _ _ c17)).trans c17
          have HB4 := Lib.hid (below_chain HB3.out hb4)
          clear HGt HF3 hb4 c4 c5 c12 c14
          clear hm hi1
          rcases hups.out with ⟨u1, u2⟩ | ⟨u1, u2, _, u4⟩
          · clear hups
            go_wp2_with fail
            exact ⟨HL.out _ HB4.out, by simp [intOf]; omega⟩
          · subst u4
            clear hups
            go_wp2_with fail
            exact ⟨HL.out _ HB4.out, by simp [intOf]; omega⟩
      · rw [hz] at c15
        clear hz
        rcases hm2 with ⟨hm, rfl⟩ | ⟨hm, _⟩ <;> rcases hmi with ⟨hi1, hi2, hi3⟩ | ⟨hi1, _⟩
        all_goals
          go_wp2_with fail
          refine (HGt.out _ HF3.out).mono ?_
          rintro e w4 ⟨rfl, hb4⟩
          replace c0 := (hb4.cell (p := ⟨B0, 0, none⟩) (World.block_lt_of_cell? _ _ c0)).trans c0
          replace c15 := (hb4.cell (p := ⟨B0, 15, none⟩) (World.block_lt_of_cell? _ _ c15)).trans c15
          replace c17 := (hb4.cell (p := ⟨B0, 17, none⟩) (World.block_lt_of_cell? _ _ c17)).trans c17
          have HB4 := Lib.hid (below_chain HB3.out hb4)
          clear HGt HF3 hb4 c4 c5 c12 c14
          clear hm hi1
          rcases hups.out with ⟨u1, u2⟩ | ⟨u1, u2, u3, u4⟩
          · clear hups
            go_wp2_with fail
            exact ⟨HL.out _ HB4.out, by simp [intOf]; omega⟩
          · exact absurd u3 (by decide)
      · rw [hz] at c15
        clear hz
        rcases hm2 with ⟨hm, rfl⟩ | ⟨hm, _⟩ <;> rcases hmi with ⟨hi1, hi2, hi3⟩ | ⟨hi1, _⟩
        all_goals
          go_wp2_with fail
          refine (HGt.out _ HF3.out).mono ?_
          rintro e w4 ⟨rfl, hb4⟩
          replace c0 := (hb4.cell (p := ⟨B0, 0, none⟩) (World.block_lt_of_cell? _ _ c0)).trans c0
          replace c15 := (hb4.cell (p := ⟨B0, 15, none⟩) (World.block_lt_of_cell? _ _ c15)).trans c15
          replace c17 := (hb4.cell (p := ⟨B0, 17, none⟩) (World.block_lt_of_cell? _ _ c17)).trans c17
          have HB4 := Lib.hid (below_chain HB3.out hb4)
          clear HGt HF3 hb4 c4 c5 c12 c14
          clear hm hi1
          rcases hups.out with ⟨u1, u2⟩ | ⟨u1, u2, u3, u4⟩
          · clear hups
            go_wp2_with fail
            exact ⟨HL.out _ HB4.out, by simp [intOf]; omega⟩
          · exact absurd u3 (by decide)
    · have hki : ¬ (k : Int) < (P.length : Int) := by omega
      have HB3 := Lib.hid (below_chain HB2.out HI.out)
      clear HI HG HWP
      go_wp2_with fail
      go_ret
      exact ⟨rfl, HB3.out⟩
theorem walk (most : Int) (hmost : (Lit.int .i64 most).wf = true) (data : ByteArray) (_w : data.size ≤ maxLen) (_z : data.size ≤ 1048576) (W : World) (hsh : W.ShapedOpen Tryz.prog) :
    Calls Tryz.prog 4 #[.int .i64 most, .string data] W fun e w' => e = .returned (.bool true) ∧ Below W.heap.size W w' := by
  have h1 : (decide (IntKind.i64.min ≤ most) && decide (most ≤ IntKind.i64.max)) = true := hmost
  rw [show IntKind.i64.max = 9223372036854775807 from rfl, show IntKind.i64.min = -9223372036854775808 from rfl, Bool.and_eq_true, decide_eq_true_eq, decide_eq_true_eq] at h1
  exact walkIn most h1 data W (MaxInt.of_shape hsh)
end Go.Proofs.YtlgohmghjffiaaaGreatDoor.InflowWholeW
