/- Texts of this seat, one behind another: R11ReadA. -/
import Derived.Deep.RegionHeld3
import Derived.Test.YtblpooddamkfdaaGreatDoorG
import Derived.Test.YtblpooddamkfdaaGreatDoorE
import Derived.Test.YtblpooddamkfdaaGreatDoorC3
import Derived.Test.YtblpooddamkfdaaGreatDoorF
/- Layer 11, the document's own Read, walked. -/
namespace Go.Proofs.YtblpooddamkfdaaGreatDoor.R11Read
open Go.ChangeShapes Go.WideShapes Go.ChangeAt Go.RowKit LexPure Bytes FieldsPure HeadPure FramePure TargetPure InflowPure Flds HBox KeptRow Mem R11D R12Box R11Host
set_option maxRecDepth 100000
set_option linter.unusedVariables false
set_option linter.unusedSimpArgs false
abbrev QT : TypeId := 29
abbrev TT : TypeId := 27
/-- a request's cells; l is its head's list of fields -/
def qcl (q : Rq) (l : Value) : Array Value :=
  #[.string (ofL q.head.method), .string (ofL q.head.target), .int .i64 q.head.status, .string (ofL q.head.reason), .int .i64 q.head.minor, l,
    .int .i64 q.target.form, .string (ofL q.target.host), .int .i64 q.target.port, .string (ofL q.target.path), .string (ofL q.target.query), .bool q.target.has,
    .string (ofL q.host), .int .i64 q.port, .string (ofL q.body), .bool q.sized, .bool q.keep, .string (ofL q.upgrade)]
def zq : Array Value := #[.string ⟨#[]⟩, .string ⟨#[]⟩, .int .i64 0, .string ⟨#[]⟩, .int .i64 0, .slice none 0 0, .int .i64 0, .string ⟨#[]⟩, .int .i64 0, .string ⟨#[]⟩, .string ⟨#[]⟩, .bool false, .string ⟨#[]⟩, .int .i64 0, .string ⟨#[]⟩, .bool false, .bool false, .string ⟨#[]⟩]
theorem qload {w : World} {g : Nat} {cs : Array Value} (h : Has w g QT cs) (hs : cs.size = 18) : (loadVar QT ⟨g, 0, none⟩).run Tryz.prog w = .ok (.agg cs) w :=
  run_loadVar_row w g QT QT _ _ _ h.at_ Tryz.underlying29 rfl (by rw [hs]; kernel_rfl)
/-- what Read answers -/
def Ans (X : RIn) (base : Nat) (e : Ending) (w' : World) : Prop :=
  match X with
  | .wait => e = .returned (.tuple #[.agg zq, .int .i64 0, .int .i64 0])
  | .fail s => e = .returned (.tuple #[.agg zq, .int .i64 0, .int .i64 s])
  | .whole q n => ∃ l, e = .returned (.tuple #[.agg (qcl q l), .int .i64 n, .int .i64 0]) ∧ RowF w' base l q.head.fields
/-- the answer's box -/
structure QB (w : World) (cs : Array Value) (W : World) : Prop where
  below : Below w.heap.size w W
  box : Has W w.heap.size QT cs
theorem QB.start (w : World) : QB w zq (w.alloc (.cells zq QT)) := ⟨(Below.refl w.heap.size w).alloc (Nat.le_refl _) _, Has.new w QT _⟩
theorem QB.call {w W W' : World} {cs : Array Value} (h : QB w cs W) (hb : Below W.heap.size W W') : QB w cs W' := ⟨below_chain h.below hb, h.box.below hb h.box.lt⟩
theorem QB.put {w W : World} {cs : Array Value} (h : QB w cs W) (ps : Array Value) : QB w ps (W.setRow w.heap.size ps) := ⟨below_setRow h.below (Nat.le_refl _) ps, has_setRow h.box ps⟩
/-- beside it the head's -/
structure HB (w : World) (gh : Nat) (h : H8) (v : Value) (W : World) : Prop where
  q : QB w zq W
  bx : HBox W gh h v
  row : RowF W (w.heap.size + 1) v h.fields
  low : w.heap.size < gh
  lt : gh < W.heap.size
theorem RowF.below {W W' : World} {base : Nat} {v : Value} {l : List HField} (h : RowF W base v l) (hb : Below W.heap.size W W') : RowF W' base v l := ⟨row_below h.1 hb, h.2⟩
theorem row_lower {W : World} {base b0 : Nat} {v : Value} {l : List HField} (h : W.ownsRow b0 36 2 v l.length (encFs l)) (hb : base ≤ b0) (hl : l.length ≤ 32) : RowF W base v l := by
  refine ⟨⟨h.1, ?_⟩, hl⟩
  rcases h.2 with hx | ⟨k, cap, cur, rfl, hk, rest⟩
  · exact .inl hx
  · exact .inr ⟨k, cap, cur, rfl, Nat.le_trans hb hk, rest⟩
theorem HB.call {w W W' : World} {gh : Nat} {h : H8} {v : Value} (x : HB w gh h v W) (hb : Below W.heap.size W W') : HB w gh h v W' :=
  ⟨x.q.call hb, x.bx.below hb x.lt, RowF.below x.row hb, x.low, Nat.lt_of_lt_of_le x.lt hb.size⟩
theorem HB.fl {w W : World} {gh : Nat} {h : H8} {v : Value} (x : HB w gh h v W) : FL W v h.fields := fl_of x.row.1 (Nat.le_trans x.row.2 (by decide))
/-- and the target's -/
structure TB (w : World) (gh gt : Nat) (h : H8) (v : Value) (t : Tgt) (W : World) : Prop where
  h : HB w gh h v W
  bx : Has W gt TT (tcs t)
  low : w.heap.size < gt
theorem TB.call {w W W' : World} {gh gt : Nat} {h : H8} {v : Value} {t : Tgt} (x : TB w gh gt h v t W) (hb : Below W.heap.size W W') : TB w gh gt h v t W' :=
  ⟨x.h.call hb, x.bx.below hb x.bx.lt, x.low⟩
theorem TB.cells {w W : World} {gh gt : Nat} {h : H8} {v : Value} {t : Tgt} (x : TB w gh gt h v t W) : W.cell? ⟨gt, 0, none⟩ = some (.int .i64 t.form) ∧ W.cell? ⟨gt, 1, none⟩ = some (.string (ofL t.host)) ∧ W.cell? ⟨gt, 2, none⟩ = some (.int .i64 t.port) ∧ W.cell? ⟨gt, 3, none⟩ = some (.string (ofL t.path)) ∧ W.cell? ⟨gt, 4, none⟩ = some (.string (ofL t.query)) ∧ W.cell? ⟨gt, 5, none⟩ = some (.bool t.has) :=
  ⟨x.bx.cell 0, x.bx.cell 1, x.bx.cell 2, x.bx.cell 3, x.bx.cell 4, x.bx.cell 5⟩
/-- the request's block, wherever it lies -/
structure RQ (w0 W : World) (g : Nat) (cs : Array Value) : Prop where
  below : Below w0.heap.size w0 W
  box : Has W g QT cs
  low : w0.heap.size ≤ g
/-- a proof that several ways share -/
theorem share {P G : Prop} (tail : P) (ways : Hid P → G) : G := ways (Lib.hid tail)
/-- a walk that leaves three goals for texts of their own -/
def cut3 {G P1 P2 P3 : Prop} (h : Hid P1 → Hid P2 → Hid P3 → G) : PSigma fun P : Prop × Prop × Prop => P.1 → P.2.1 → P.2.2 → G := ⟨(P1, P2, P3), fun a b c => h (Lib.hid a) (Lib.hid b) (Lib.hid c)⟩
set_option maxHeartbeats 12800000 in
noncomputable def upto (s : ByteArray) (hs : s.size ≤ 140737488351232) (most : Int) (hmost : -9223372036854775808 ≤ most ∧ most ≤ 9223372036854775807) (w : World) :
    PSigma fun P : Prop × Prop × Prop => P.1 → P.2.1 → P.2.2 → Calls Tryz.prog 7 #[.string s, .int .i64 most] w fun e w' => Ans (readD most (toL s)) w.heap.size e w' ∧ Below w.heap.size w w' := by
  have HMost := Lib.hid hmost
  have HS := Lib.hid hs
  clear hmost
  apply cut3
  intro CUT1 CUT2 CUT3
  have Q0 := Lib.hid (QB.start w)
  obtain ⟨X, hX⟩ : ∃ X, X = readD most (toL s) := ⟨_, rfl⟩
  rw [← hX]
  unfold readD at hX
  have HR := Lib.hid (fun w => R8Read.r8read_any s (by omega) false w)
  unfold zq at Q0
  go_enter Tryz.func7, Tryz.ntmps7
  go_wp2_with fail
  cases hr : read8 false (toL s) with
  | wait =>
    rw [hr] at hX HR
    have HV := Lib.hid (show X = .wait from hX)
    unfold resH resN resE hrv3 hv at HR
    dsimp only at HR
    clear hX hr
    refine (HR.out _).mono ?_
    rintro e w2 ⟨v, rfl, hrow, hb2⟩
    obtain ⟨p, cap, rfl, _, _⟩ := fl_of hrow.1 (by rw [show zero8.fields.length = 0 from rfl]; exact Nat.zero_le _)
    have Q2 := Lib.hid ((Q0.out.call hb2).call ((Below.refl _ _).alloc (Nat.le_refl _) (.cells (hc zero8 (.slice p 0 cap)) 25)))
    unfold hc at Q2
    rw [show zero8.fields.length = 0 from rfl]
    unfold zero8 at Q2 ⊢
    clear HR hb2 Q0 hrow
    as_aux_lemma =>
      have HQ := Lib.hid (Q2.out)
      have hat := HQ.out.box.at_
      go_wp2_with (refine wpList_store_row rfl QT _ _ rfl w.heap.size zq rfl rfl QT _ hat (by kernel_rfl) rfl (by simp [zq, Value.oneCell']) ?_)
      have HE := HQ.out.put zq
      have hld := qload HE.box rfl
      refine bodyPost_ret (v := .tuple #[.agg zq, .int .i64 0, .int .i64 0]) ?_ rfl ⟨HV.out ▸ rfl, HE.below⟩
      rw [results_cell_tmp2 rfl]
      simp [asAddr, Result.andThen, hld]
  | bad er =>
    rw [hr] at hX HR
    have HV := Lib.hid (show X = .fail (status11 er) from hX)
    have hne : (er != 0) = true := bne_iff_ne.2 (OutPure.read_err false _ er hr)
    unfold resH resN resE hrv3 hv at HR
    dsimp only at HR
    have HS := Lib.hid (fun w => R11Stat.r11status_any er w)
    clear hX hr
    refine (HR.out _).mono ?_
    rintro e w2 ⟨v, rfl, hrow, hb2⟩
    obtain ⟨p, cap, rfl, _, _⟩ := fl_of hrow.1 (by rw [show zero8.fields.length = 0 from rfl]; exact Nat.zero_le _)
    have Q2 := Lib.hid ((Q0.out.call hb2).call ((Below.refl _ _).alloc (Nat.le_refl _) (.cells (hc zero8 (.slice p 0 cap)) 25)))
    unfold hc at Q2
    rw [show zero8.fields.length = 0 from rfl]
    unfold zero8 at Q2 ⊢
    clear HR hb2 Q0 hrow
    go_wp2_with fail
    refine (HS.out _).mono ?_
    rintro e w3 ⟨rfl, rfl⟩
    clear HS
    as_aux_lemma =>
      have HQ := Lib.hid (Q2.out)
      have hat := HQ.out.box.at_
      go_wp2_with (refine wpList_store_row rfl QT _ _ rfl w.heap.size zq rfl rfl QT _ hat (by kernel_rfl) rfl (by simp [zq, Value.oneCell']) ?_)
      have HE := HQ.out.put zq
      have hld := qload HE.box rfl
      refine bodyPost_ret (v := .tuple #[.agg zq, .int .i64 0, .int .i64 (status11 er)]) ?_ rfl ⟨HV.out ▸ rfl, HE.below⟩
      rw [results_cell_tmp2 rfl]
      simp [asAddr, Result.andThen, hld]
  | done h n =>
    have hgood := EmitForwP.read_good hr
    have hfew := HeadFew.read_few hr
    have hnl := (HeadPure.read_front false _ h n hr).1
    rw [toL_length] at hnl
    rw [hr] at hX HR
    unfold resH resN resE hrv3 hv at HR
    dsimp only at HR
    replace hX : X = restD h n most ((toL s).drop n) := hX
    have HFw : Hid (Few h.fields) := Lib.hid (fun j hj => by
      have := hfew.2.2 _ (List.getElem_mem hj)
      exact ⟨Nat.le_trans this.1 (by decide), Nat.le_trans this.2 (by decide)⟩)
    have hn0 : ((n : Int) == 0) = false := by simp; omega
    have HNL : Hid (n ≤ s.size) := Lib.hid hnl
    have hlen : h.fields.length ≤ 32 := hfew.2.1
    have HPs := Lib.hid (fun w => RParseAll.rparse_any (ofL h.method) (ofL h.target) (by rw [ofL_size]; omega) w)
    rw [toL_ofL, toL_ofL] at HPs
    unfold restD at hX
    have HX := Lib.hid hX
    clear hX hr hgood hfew hnl
    refine (HR.out _).mono ?_
    rintro e w2 ⟨v, rfl, hrow, hb2⟩
    obtain ⟨p, cap, rfl, -, -⟩ := id (fl_of hrow.1 (by omega))
    have H2 : Hid (HB w w2.heap.size h (.slice p h.fields.length cap) (w2.alloc (.cells (hc h (.slice p h.fields.length cap)) HT))) := Lib.hid
      ⟨(Q0.out.call hb2).call ((Below.refl _ _).alloc (Nat.le_refl _) _), ⟨Has.new w2 _ _⟩, row_lower (row_below hrow.1 ((Below.refl _ _).alloc (Nat.le_refl _) _)) (by simp) hrow.2, by have := hb2.size; simp at this; omega, by simp⟩
    unfold hc at H2
    clear HR hb2 Q0 hrow
    dsimp only
    iterate 22 go_step
    generalize w2.alloc (.cells #[.string (ofL h.method), .string (ofL h.target), .int .i64 h.status, .string (ofL h.reason), .int .i64 h.minor, .slice p h.fields.length cap] HT) = W2 at H2 ⊢
    generalize w2.heap.size = gh at H2 ⊢
    obtain ⟨k0, k1, -, -, -, -⟩ := H2.out.bx.cells
    go_wp2_with fail
    refine (HPs.out _).mono ?_
    rintro e w3 ⟨rfl, hb3⟩
    have H3 := H2.out.call hb3
    obtain ⟨⟨t, f⟩, hP⟩ : ∃ P, P = parse6 h.method h.target := ⟨_, rfl⟩
    rw [← hP] at HX ⊢
    have T3 : Hid (TB w gh w3.heap.size h (.slice p h.fields.length cap) t (w3.alloc (.cells (tcs t) TT))) := Lib.hid
      ⟨H3.call ((Below.refl _ _).alloc (Nat.le_refl _) _), Has.new w3 _ _, by have := H3.low; have := H3.lt; omega⟩
    unfold tcs at T3
    clear H3 hb3 H2 k0 k1 hP HPs
    unfold TBox.rv TBox.tv
    dsimp only
    by_cases hf : f = 0
    case neg =>
      have hfb : (f != 0) = true := bne_iff_ne.2 hf
      have HV : Hid (X = .fail 400) := Lib.hid (HX.out.trans (if_pos hf))
      clear HX hf
      as_aux_lemma =>
        have HQ := Lib.hid (T3.out.h.q)
        have hat := HQ.out.box.at_
        go_wp2_with (refine wpList_store_row rfl QT _ _ rfl w.heap.size zq rfl rfl QT _ hat (by kernel_rfl) rfl (by simp [zq, Value.oneCell']) ?_)
        have HE := HQ.out.put zq
        have hld := qload HE.box rfl
        refine bodyPost_ret (v := .tuple #[.agg zq, .int .i64 0, .int .i64 400]) ?_ rfl ⟨HV.out ▸ rfl, HE.below⟩
        rw [results_cell_tmp2 rfl]
        simp [asAddr, Result.andThen, hld]
    subst hf
    have HX1 := Lib.hid (HX.out.trans (if_neg (fun h => h rfl)))
    clear HX
    iterate 21 go_step
    generalize w3.alloc (.cells #[.int .i64 t.form, .string (ofL t.host), .int .i64 t.port, .string (ofL t.path), .string (ofL t.query), .bool t.has] TT) = W3 at T3 ⊢
    generalize w3.heap.size = gt at T3 ⊢
    have HH := Lib.hid (fun w' hF => R11Host.r11host_any h (.slice p h.fields.length cap) t HFw.out w' hF)
    unfold hv tcs at HH
    obtain ⟨k0, k1, k2, k3, k4, k5⟩ := T3.out.h.bx.cells
    obtain ⟨t0, t1, t2, t3, t4, t5⟩ := T3.out.cells
    go_wp2_with fail
    refine (HH.out _ T3.out.h.fl).mono ?_
    rintro e w4 ⟨rfl, hb4⟩
    have T4 := Lib.hid (T3.out.call hb4)
    clear hb4 HH T3 k0 k1 k2 k3 k4 k5 t0 t1 t2 t3 t4 t5
    cases ho : host11 h t with
    | none =>
      have HV : Hid (X = .fail 400) := Lib.hid (by have := HX1.out; rw [ho] at this; exact this)
      clear HX1 ho
      unfold hostT
      dsimp only
      as_aux_lemma =>
        have HQ := Lib.hid (T4.out.h.q)
        have hat := HQ.out.box.at_
        go_wp2_with (refine wpList_store_row rfl QT _ _ rfl w.heap.size zq rfl rfl QT _ hat (by kernel_rfl) rfl (by simp [zq, Value.oneCell']) ?_)
        have HE := HQ.out.put zq
        have hld := qload HE.box rfl
        refine bodyPost_ret (v := .tuple #[.agg zq, .int .i64 0, .int .i64 400]) ?_ rfl ⟨HV.out ▸ rfl, HE.below⟩
        rw [results_cell_tmp2 rfl]
        simp [asAddr, Result.andThen, hld]
    | some r =>
      obtain ⟨hn, hp⟩ := r
      have HX2 := Lib.hid (by have := HX1.out; rw [ho] at this; exact this)
      clear HX1 ho
      unfold hostT
      dsimp only
      have HG := Lib.hid (R7Get.rget_any (.slice p h.fields.length cap) h.fields ⟨#[101, 120, 112, 101, 99, 116]⟩ (by decide) HFw.out w4 T4.out.h.fl)
      rw [show toL ⟨#[101, 120, 112, 101, 99, 116]⟩ = EXPECT from rfl] at HG
      obtain ⟨nx, hnx⟩ : ∃ nx, nx = getN h.fields EXPECT := ⟨_, rfl⟩
      rw [← hnx] at HG HX2
      have k5 := T4.out.h.bx.cells.2.2.2.2.2
      clear hnx
      go_wp2_with fail
      refine HG.out.mono ?_
      rintro e w5 ⟨rfl, hb5⟩
      have T5 := Lib.hid (T4.out.call hb5)
      clear hb5 HG T4 k5
      by_cases hx : 0 < nx
      · have hxi : (0 : Int) < (nx : Int) := by omega
        have HV : Hid (X = .fail 417) := Lib.hid (HX2.out.trans (if_pos hx))
        clear HX2 hx
        as_aux_lemma =>
          have HQ := Lib.hid (T5.out.h.q)
          have hat := HQ.out.box.at_
          go_wp2_with (refine wpList_store_row rfl QT _ _ rfl w.heap.size zq rfl rfl QT _ hat (by kernel_rfl) rfl (by simp [zq, Value.oneCell']) ?_)
          have HE := HQ.out.put zq
          have hld := qload HE.box rfl
          refine bodyPost_ret (v := .tuple #[.agg zq, .int .i64 0, .int .i64 417]) ?_ rfl ⟨HV.out ▸ rfl, HE.below⟩
          rw [results_cell_tmp2 rfl]
          simp [asAddr, Result.andThen, hld]
      have hxi : ¬ (0 : Int) < (nx : Int) := by omega
      have HX3 := Lib.hid (HX2.out.trans (if_neg hx))
      clear HX2 hx
      have HQ9 := Lib.hid (fun w' hF => R9Req.r9request_any h (.slice p h.fields.length cap) most HFw.out (by omega) w' hF)
      obtain ⟨⟨K, L, g⟩, hR9⟩ : ∃ R, R = request9 h.minor h.fields most := ⟨_, rfl⟩
      rw [← hR9] at HQ9 HX3
      have HR9 := Lib.hid hR9
      unfold hv R9Req.trip at HQ9
      dsimp only at HQ9
      obtain ⟨k0, k1, k2, k3, k4, k5⟩ := T5.out.h.bx.cells
      have HQ10 := Lib.hid (HQ9.out w5 T5.out.h.fl)
      clear HQ9 hR9
      go_wp2_with fail
      refine HQ10.out.mono ?_
      rintro e w6 ⟨rfl, hb6⟩
      have T6 := Lib.hid (T5.out.call hb6)
      clear hb6 HQ10 T5 k0 k1 k2 k3 k4 k5 hxi
      by_cases hg : g = 0
      case neg =>
        have hgb : (g != 0) = true := bne_iff_ne.2 hg
        have HS := Lib.hid (fun w => R11Stat.r11status_any g w)
        have HV : Hid (X = .fail (status11 g)) := Lib.hid (HX3.out.trans (if_pos hg))
        clear HX3 hg
        go_wp2_with fail
        refine (HS.out _).mono ?_
        rintro e w7 ⟨rfl, rfl⟩
        clear HS
        as_aux_lemma =>
          have HQ := Lib.hid (T6.out.h.q)
          have hat := HQ.out.box.at_
          go_wp2_with (refine wpList_store_row rfl QT _ _ rfl w.heap.size zq rfl rfl QT _ hat (by kernel_rfl) rfl (by simp [zq, Value.oneCell']) ?_)
          have HE := HQ.out.put zq
          have hld := qload HE.box rfl
          refine bodyPost_ret (v := .tuple #[.agg zq, .int .i64 0, .int .i64 (status11 g)]) ?_ rfl ⟨HV.out ▸ rfl, HE.below⟩
          rw [results_cell_tmp2 rfl]
          simp [asAddr, Result.andThen, hld]
      subst hg
      have HX4 := Lib.hid (HX3.out.trans (if_neg (fun h => h rfl)))
      clear HX3
      have k0 := T6.out.h.bx.cells.1
      have hmt : ((ofL h.method).toList == [67, 79, 78, 78, 69, 67, 84]) = (h.method == TargetPure.CONNECT) := by rw [RParse.is_text, toL_ofL]; rfl
      obtain ⟨bm, hbm⟩ : ∃ bm, bm = (h.method == TargetPure.CONNECT) := ⟨_, rfl⟩
      rw [← hbm] at hmt
      have HBm := Lib.hid hbm
      clear hbm
      obtain ⟨kp, hkp⟩ : ∃ kp, kp = keep9 h.minor h.fields := ⟨_, rfl⟩
      obtain ⟨up, hup⟩ : ∃ up, up = up11 h K := ⟨_, rfl⟩
      obtain ⟨kb, hkb⟩ : ∃ kb, kb = (K != 1) := ⟨_, rfl⟩
      have HKp : Hid (∀ W, Below w6.heap.size w6 W → Calls Tryz.prog 26 #[.agg #[.string (ofL h.method), .string (ofL h.target), .int .i64 h.status, .string (ofL h.reason), .int .i64 h.minor, .slice p h.fields.length cap]] W fun e w' => e = .returned (.bool kp) ∧ Below W.heap.size W w') := Lib.hid (fun W hW => by rw [hkp]; exact R9Keep.r9keep_any h (.slice p h.fields.length cap) HFw.out (by omega) W (T6.out.h.fl.below hW))
      have HUp : Hid (∀ W, Below w6.heap.size w6 W → Calls Tryz.prog 27 #[.agg #[.string (ofL h.method), .string (ofL h.target), .int .i64 h.status, .string (ofL h.reason), .int .i64 h.minor, .slice p h.fields.length cap], .int .i64 K] W fun e w' => e = .returned (.string (ofL up)) ∧ Below W.heap.size W w') := Lib.hid (fun W hW => by rw [hup]; exact R11Up.r11up_any h (.slice p h.fields.length cap) K HFw.out (by omega) W (T6.out.h.fl.below hW))
      have HCh : ∀ W, Below w6.heap.size w6 W → HBox W gh h (.slice p h.fields.length cap) := fun W hW => T6.out.h.bx.below hW T6.out.h.lt
      have HCt : ∀ W, Below w6.heap.size w6 W → TB w gh gt h (.slice p h.fields.length cap) t W := fun W hW => T6.out.call hW
      have hb0 : Below w6.heap.size w6 w6.drew := ⟨rfl, rfl, rfl, Nat.le_refl _, fun _ _ => rfl⟩
      have HKU := Lib.hid (And.intro hkp hup)
      have HKB := Lib.hid hkb
      replace hkb := hkb.symm
      clear hkp hup
      cases bm with
      | true =>
        cases kb with
        | true =>
          have HV : Hid (X = .fail 400) := Lib.hid (HX4.out.trans (if_pos ⟨eq_of_beq HBm.out.symm, ne_of_beq_false (by have := HKB.out; unfold bne at this; simpa using this.symm)⟩))
          clear HX4 HCh HCt hb0
          as_aux_lemma =>
            have HQ := Lib.hid (T6.out.h.q)
            have hat := HQ.out.box.at_
            go_wp2_with (refine wpList_store_row rfl QT _ _ rfl w.heap.size zq rfl rfl QT _ hat (by kernel_rfl) rfl (by simp [zq, Value.oneCell']) ?_)
            have HE := HQ.out.put zq
            have hld := qload HE.box rfl
            refine bodyPost_ret (v := .tuple #[.agg zq, .int .i64 0, .int .i64 400]) ?_ rfl ⟨HV.out ▸ rfl, HE.below⟩
            rw [results_cell_tmp2 rfl]
            simp [asAddr, Result.andThen, hld]
        | false =>
          go_wp2_with fail
          clear k0 hmt
          apply share
          case ways =>
            intro TAIL
            refine wp_region_held_drew (S := fun w' => Below w6.heap.size w6 w') (by kernel_rfl) hb0 (fun hHeld => ?_)
            refine wpAnyH_take (i := 0) (v := .agg #[.string (ofL h.method), .string (ofL h.target), .int .i64 h.status, .string (ofL h.reason), .int .i64 h.minor, .slice p h.fields.length cap]) rfl (by kernel_rfl) (by kernel_rfl) (by kernel_rfl) (fun _ _ _ h => h) (Or.inl ⟨by rfl, (fun w hSw => by obtain ⟨d0, d1, d2, d3, d4, d5⟩ := (HCh w hSw).cells; go_simp)⟩) hHeld ?_
            refine wpAnyH_take (i := 1) (v := .agg #[.int .i64 t.form, .string (ofL t.host), .int .i64 t.port, .string (ofL t.path), .string (ofL t.query), .bool t.has]) rfl (by kernel_rfl) (by kernel_rfl) (by kernel_rfl) (fun _ _ _ h => h) (Or.inl ⟨by rfl, (fun w hSw => by obtain ⟨d0, d1, d2, d3, d4, d5⟩ := (HCt w hSw).cells; go_simp)⟩) hHeld ?_
            refine wpAnyH_take (i := 2) (v := .string (ofL hn)) rfl (by kernel_rfl) (by kernel_rfl) (by kernel_rfl) (fun _ _ _ h => h) (Or.inl ⟨by rfl, (fun w hSw => by go_simp)⟩) hHeld ?_
            refine wpAnyH_take (i := 3) (v := .int .i64 hp) rfl (by kernel_rfl) (by kernel_rfl) (by kernel_rfl) (fun _ _ _ h => h) (Or.inl ⟨by rfl, (fun w hSw => by go_simp)⟩) hHeld ?_
            refine wpAnyH_take (i := 4) (v := .int .i64 K) rfl (by kernel_rfl) (by kernel_rfl) (by kernel_rfl) (fun _ _ _ h => h) (Or.inl ⟨by rfl, (fun w hSw => by go_simp)⟩) hHeld ?_
            refine wpAnyH_take (i := 5) (v := .bool false) rfl (by kernel_rfl) (by kernel_rfl) (by kernel_rfl) (fun _ _ _ h => h) (Or.inl ⟨by rfl, (fun w hSw => by go_simp)⟩) hHeld ?_
            refine wpAnyH_take (i := 6) (v := .agg #[.string (ofL h.method), .string (ofL h.target), .int .i64 h.status, .string (ofL h.reason), .int .i64 h.minor, .slice p h.fields.length cap]) rfl (by kernel_rfl) (by kernel_rfl) (by kernel_rfl) (fun _ _ _ h => h) (Or.inl ⟨by rfl, (fun w hSw => by obtain ⟨d0, d1, d2, d3, d4, d5⟩ := (HCh w hSw).cells; go_simp)⟩) hHeld ?_
            refine wpAnyH_take (i := 8) (v := .agg #[.string (ofL h.method), .string (ofL h.target), .int .i64 h.status, .string (ofL h.reason), .int .i64 h.minor, .slice p h.fields.length cap]) rfl (by kernel_rfl) (by kernel_rfl) (by kernel_rfl) (fun _ _ _ h => h) (Or.inl ⟨by rfl, (fun w hSw => by obtain ⟨d0, d1, d2, d3, d4, d5⟩ := (HCh w hSw).cells; go_simp)⟩) hHeld ?_
            refine wpAnyH_take (i := 9) (v := .int .i64 K) rfl (by kernel_rfl) (by kernel_rfl) (by kernel_rfl) (fun _ _ _ h => h) (Or.inl ⟨by rfl, (fun w hSw => by go_simp)⟩) hHeld ?_
            have hbz := Lib.hid hb0
            refine wpAnyH_ready (rs := [7, 12]) (by kernel_rfl) (by simp) (AllReadyH.cons rfl (fun K hK => ?_) (AllReadyH.cons rfl (fun K hK => ?_) AllReadyH.nil))
            · go_simp
              refine (HKp.out _ hbz.out).mono ?_
              rintro e w7 ⟨rfl, hb7⟩
              replace hbz := Lib.hid (below_chain hbz.out hb7)
              clear hb7
              refine hK.out _ _ hbz.out (fun hHeld => ?_)
              clear hK
              refine wpAnyH_ready (rs := [10, 12]) (by kernel_rfl) (by simp) (AllReadyH.cons rfl (fun K hK => ?_) (AllReadyH.cons rfl (fun K hK => ?_) AllReadyH.nil))
              · go_simp
                refine (HUp.out _ hbz.out).mono ?_
                rintro e w8 ⟨rfl, hb7⟩
                replace hbz := Lib.hid (below_chain hbz.out hb7)
                clear hb7
                refine hK.out _ _ hbz.out (fun hHeld => ?_)
                clear hK
                refine wpAnyH_take (i := 11) (v := .agg #[.string (ofL h.method), .string (ofL h.target), .int .i64 h.status, .string (ofL h.reason), .int .i64 h.minor, .slice p h.fields.length cap, .int .i64 t.form, .string (ofL t.host), .int .i64 t.port, .string (ofL t.path), .string (ofL t.query), .bool t.has, .string (ofL hn), .int .i64 hp, .string ⟨#[]⟩, .bool false, .bool kp, .string (ofL up)]) rfl (by kernel_rfl) (by kernel_rfl) (by kernel_rfl) (fun _ _ _ h => h) (Or.inl ⟨by rfl, (fun w hSw => by go_simp)⟩) hHeld ?_
                refine wpAnyH_ready (rs := [12]) (by kernel_rfl) (by simp) (AllReadyH.cons rfl (fun K hK => ?_) AllReadyH.nil)
                go_simp
                have N := Lib.hid (Has.new w8 QT #[.string ⟨#[]⟩, .string ⟨#[]⟩, .int .i64 0, .string ⟨#[]⟩, .int .i64 0, .slice none 0 0, .int .i64 0, .string ⟨#[]⟩, .int .i64 0, .string ⟨#[]⟩, .string ⟨#[]⟩, .bool false, .string ⟨#[]⟩, .int .i64 0, .string ⟨#[]⟩, .bool false, .bool false, .string ⟨#[]⟩])
                have hlo : Hid (w6.heap.size ≤ w8.heap.size) := Lib.hid hbz.out.size
                replace hbz := Lib.hid (hbz.out.alloc hbz.out.size (.cells #[.string ⟨#[]⟩, .string ⟨#[]⟩, .int .i64 0, .string ⟨#[]⟩, .int .i64 0, .slice none 0 0, .int .i64 0, .string ⟨#[]⟩, .int .i64 0, .string ⟨#[]⟩, .string ⟨#[]⟩, .bool false, .string ⟨#[]⟩, .int .i64 0, .string ⟨#[]⟩, .bool false, .bool false, .string ⟨#[]⟩] QT))
                refine hK.out _ _ hbz.out (fun hHeld => ?_)
                clear hK
                refine wpAnyH_ready (rs := [13]) (by kernel_rfl) (by simp) (AllReadyH.cons rfl (fun K hK => ?_) AllReadyH.nil)
                rw [if_pos (by rfl)]
                refine wp_store_row QT (.tmp 20) (.tmp 99) rfl w8.heap.size #[.string (ofL h.method), .string (ofL h.target), .int .i64 h.status, .string (ofL h.reason), .int .i64 h.minor, .slice p h.fields.length cap, .int .i64 t.form, .string (ofL t.host), .int .i64 t.port, .string (ofL t.path), .string (ofL t.query), .bool t.has, .string (ofL hn), .int .i64 hp, .string ⟨#[]⟩, .bool false, .bool kp, .string (ofL up)] rfl rfl QT _ N.out.at_ (by kernel_rfl) rfl (by simp [Value.oneCell']) ?_
                have q1 := below_setRow hbz.out hlo.out #[.string (ofL h.method), .string (ofL h.target), .int .i64 h.status, .string (ofL h.reason), .int .i64 h.minor, .slice p h.fields.length cap, .int .i64 t.form, .string (ofL t.host), .int .i64 t.port, .string (ofL t.path), .string (ofL t.query), .bool t.has, .string (ofL hn), .int .i64 hp, .string ⟨#[]⟩, .bool false, .bool kp, .string (ofL up)]
                refine hK.out _ _ q1 (fun hHeld => ?_)
                clear hK hHeld
                have HQ : RQ w6 ((w8.alloc (.cells #[.string ⟨#[]⟩, .string ⟨#[]⟩, .int .i64 0, .string ⟨#[]⟩, .int .i64 0, .slice none 0 0, .int .i64 0, .string ⟨#[]⟩, .int .i64 0, .string ⟨#[]⟩, .string ⟨#[]⟩, .bool false, .string ⟨#[]⟩, .int .i64 0, .string ⟨#[]⟩, .bool false, .bool false, .string ⟨#[]⟩] QT)).setRow w8.heap.size #[.string (ofL h.method), .string (ofL h.target), .int .i64 h.status, .string (ofL h.reason), .int .i64 h.minor, .slice p h.fields.length cap, .int .i64 t.form, .string (ofL t.host), .int .i64 t.port, .string (ofL t.path), .string (ofL t.query), .bool t.has, .string (ofL hn), .int .i64 hp, .string ⟨#[]⟩, .bool false, .bool kp, .string (ofL up)]) w8.heap.size #[.string (ofL h.method), .string (ofL h.target), .int .i64 h.status, .string (ofL h.reason), .int .i64 h.minor, .slice p h.fields.length cap, .int .i64 t.form, .string (ofL t.host), .int .i64 t.port, .string (ofL t.path), .string (ofL t.query), .bool t.has, .string (ofL hn), .int .i64 hp, .string ⟨#[]⟩, .bool false, .bool kp, .string (ofL up)] := ⟨q1, has_setRow N.out _, hlo.out⟩
                refine wpAnyH_done (by kernel_rfl) ?_ _
                generalize (w8.alloc (.cells #[.string ⟨#[]⟩, .string ⟨#[]⟩, .int .i64 0, .string ⟨#[]⟩, .int .i64 0, .slice none 0 0, .int .i64 0, .string ⟨#[]⟩, .int .i64 0, .string ⟨#[]⟩, .string ⟨#[]⟩, .bool false, .string ⟨#[]⟩, .int .i64 0, .string ⟨#[]⟩, .bool false, .bool false, .string ⟨#[]⟩] QT)).setRow w8.heap.size #[.string (ofL h.method), .string (ofL h.target), .int .i64 h.status, .string (ofL h.reason), .int .i64 h.minor, .slice p h.fields.length cap, .int .i64 t.form, .string (ofL t.host), .int .i64 t.port, .string (ofL t.path), .string (ofL t.query), .bool t.has, .string (ofL hn), .int .i64 hp, .string ⟨#[]⟩, .bool false, .bool kp, .string (ofL up)] = W8 at HQ ⊢
                generalize w8.heap.size = g8 at HQ ⊢
                revert HQ
                revert g8
                revert W8
                exact TAIL.out
              · go_simp
                have N := Lib.hid (Has.new w7 QT #[.string ⟨#[]⟩, .string ⟨#[]⟩, .int .i64 0, .string ⟨#[]⟩, .int .i64 0, .slice none 0 0, .int .i64 0, .string ⟨#[]⟩, .int .i64 0, .string ⟨#[]⟩, .string ⟨#[]⟩, .bool false, .string ⟨#[]⟩, .int .i64 0, .string ⟨#[]⟩, .bool false, .bool false, .string ⟨#[]⟩])
                have hlo : Hid (w6.heap.size ≤ w7.heap.size) := Lib.hid hbz.out.size
                replace hbz := Lib.hid (hbz.out.alloc hbz.out.size (.cells #[.string ⟨#[]⟩, .string ⟨#[]⟩, .int .i64 0, .string ⟨#[]⟩, .int .i64 0, .slice none 0 0, .int .i64 0, .string ⟨#[]⟩, .int .i64 0, .string ⟨#[]⟩, .string ⟨#[]⟩, .bool false, .string ⟨#[]⟩, .int .i64 0, .string ⟨#[]⟩, .bool false, .bool false, .string ⟨#[]⟩] QT))
                refine hK.out _ _ hbz.out (fun hHeld => ?_)
                clear hK
                refine wpAnyH_ready (rs := [10]) (by kernel_rfl) (by simp) (AllReadyH.cons rfl (fun K hK => ?_) AllReadyH.nil)
                go_simp
                refine (HUp.out _ hbz.out).mono ?_
                rintro e w8 ⟨rfl, hb7⟩
                replace hbz := Lib.hid (below_chain hbz.out hb7)
                replace N := Lib.hid (N.out.below hb7 N.out.lt)
                clear hb7
                refine hK.out _ _ hbz.out (fun hHeld => ?_)
                clear hK
                refine wpAnyH_take (i := 11) (v := .agg #[.string (ofL h.method), .string (ofL h.target), .int .i64 h.status, .string (ofL h.reason), .int .i64 h.minor, .slice p h.fields.length cap, .int .i64 t.form, .string (ofL t.host), .int .i64 t.port, .string (ofL t.path), .string (ofL t.query), .bool t.has, .string (ofL hn), .int .i64 hp, .string ⟨#[]⟩, .bool false, .bool kp, .string (ofL up)]) rfl (by kernel_rfl) (by kernel_rfl) (by kernel_rfl) (fun _ _ _ h => h) (Or.inl ⟨by rfl, (fun w hSw => by go_simp)⟩) hHeld ?_
                refine wpAnyH_ready (rs := [13]) (by kernel_rfl) (by simp) (AllReadyH.cons rfl (fun K hK => ?_) AllReadyH.nil)
                rw [if_pos (by rfl)]
                refine wp_store_row QT (.tmp 20) (.tmp 99) rfl w7.heap.size #[.string (ofL h.method), .string (ofL h.target), .int .i64 h.status, .string (ofL h.reason), .int .i64 h.minor, .slice p h.fields.length cap, .int .i64 t.form, .string (ofL t.host), .int .i64 t.port, .string (ofL t.path), .string (ofL t.query), .bool t.has, .string (ofL hn), .int .i64 hp, .string ⟨#[]⟩, .bool false, .bool kp, .string (ofL up)] rfl rfl QT _ N.out.at_ (by kernel_rfl) rfl (by simp [Value.oneCell']) ?_
                have q1 := below_setRow hbz.out hlo.out #[.string (ofL h.method), .string (ofL h.target), .int .i64 h.status, .string (ofL h.reason), .int .i64 h.minor, .slice p h.fields.length cap, .int .i64 t.form, .string (ofL t.host), .int .i64 t.port, .string (ofL t.path), .string (ofL t.query), .bool t.has, .string (ofL hn), .int .i64 hp, .string ⟨#[]⟩, .bool false, .bool kp, .string (ofL up)]
                refine hK.out _ _ q1 (fun hHeld => ?_)
                clear hK hHeld
                have HQ : RQ w6 (w8.setRow w7.heap.size #[.string (ofL h.method), .string (ofL h.target), .int .i64 h.status, .string (ofL h.reason), .int .i64 h.minor, .slice p h.fields.length cap, .int .i64 t.form, .string (ofL t.host), .int .i64 t.port, .string (ofL t.path), .string (ofL t.query), .bool t.has, .string (ofL hn), .int .i64 hp, .string ⟨#[]⟩, .bool false, .bool kp, .string (ofL up)]) w7.heap.size #[.string (ofL h.method), .string (ofL h.target), .int .i64 h.status, .string (ofL h.reason), .int .i64 h.minor, .slice p h.fields.length cap, .int .i64 t.form, .string (ofL t.host), .int .i64 t.port, .string (ofL t.path), .string (ofL t.query), .bool t.has, .string (ofL hn), .int .i64 hp, .string ⟨#[]⟩, .bool false, .bool kp, .string (ofL up)] := ⟨q1, has_setRow N.out _, hlo.out⟩
                refine wpAnyH_done (by kernel_rfl) ?_ _
                generalize w8.setRow w7.heap.size #[.string (ofL h.method), .string (ofL h.target), .int .i64 h.status, .string (ofL h.reason), .int .i64 h.minor, .slice p h.fields.length cap, .int .i64 t.form, .string (ofL t.host), .int .i64 t.port, .string (ofL t.path), .string (ofL t.query), .bool t.has, .string (ofL hn), .int .i64 hp, .string ⟨#[]⟩, .bool false, .bool kp, .string (ofL up)] = W8 at HQ ⊢
                generalize w7.heap.size = g8 at HQ ⊢
                revert HQ
                revert g8
                revert W8
                exact TAIL.out
            · go_simp
              have N : Hid (Has (w6.drew.alloc (.cells #[.string ⟨#[]⟩, .string ⟨#[]⟩, .int .i64 0, .string ⟨#[]⟩, .int .i64 0, .slice none 0 0, .int .i64 0, .string ⟨#[]⟩, .int .i64 0, .string ⟨#[]⟩, .string ⟨#[]⟩, .bool false, .string ⟨#[]⟩, .int .i64 0, .string ⟨#[]⟩, .bool false, .bool false, .string ⟨#[]⟩] QT)) w6.heap.size QT #[.string ⟨#[]⟩, .string ⟨#[]⟩, .int .i64 0, .string ⟨#[]⟩, .int .i64 0, .slice none 0 0, .int .i64 0, .string ⟨#[]⟩, .int .i64 0, .string ⟨#[]⟩, .string ⟨#[]⟩, .bool false, .string ⟨#[]⟩, .int .i64 0, .string ⟨#[]⟩, .bool false, .bool false, .string ⟨#[]⟩]) := Lib.hid (Has.new w6.drew QT #[.string ⟨#[]⟩, .string ⟨#[]⟩, .int .i64 0, .string ⟨#[]⟩, .int .i64 0, .slice none 0 0, .int .i64 0, .string ⟨#[]⟩, .int .i64 0, .string ⟨#[]⟩, .string ⟨#[]⟩, .bool false, .string ⟨#[]⟩, .int .i64 0, .string ⟨#[]⟩, .bool false, .bool false, .string ⟨#[]⟩])
              have hlo : Hid (w6.heap.size ≤ w6.heap.size) := Lib.hid hbz.out.size
              replace hbz := Lib.hid (hbz.out.alloc hbz.out.size (.cells #[.string ⟨#[]⟩, .string ⟨#[]⟩, .int .i64 0, .string ⟨#[]⟩, .int .i64 0, .slice none 0 0, .int .i64 0, .string ⟨#[]⟩, .int .i64 0, .string ⟨#[]⟩, .string ⟨#[]⟩, .bool false, .string ⟨#[]⟩, .int .i64 0, .string ⟨#[]⟩, .bool false, .bool false, .string ⟨#[]⟩] QT))
              refine hK.out _ _ hbz.out (fun hHeld => ?_)
              clear hK
              refine wpAnyH_ready (rs := [7]) (by kernel_rfl) (by simp) (AllReadyH.cons rfl (fun K hK => ?_) AllReadyH.nil)
              go_simp
              refine (HKp.out _ hbz.out).mono ?_
              rintro e w7 ⟨rfl, hb7⟩
              replace hbz := Lib.hid (below_chain hbz.out hb7)
              replace N := Lib.hid (N.out.below hb7 N.out.lt)
              clear hb7
              refine hK.out _ _ hbz.out (fun hHeld => ?_)
              clear hK
              refine wpAnyH_ready (rs := [10]) (by kernel_rfl) (by simp) (AllReadyH.cons rfl (fun K hK => ?_) AllReadyH.nil)
              go_simp
              refine (HUp.out _ hbz.out).mono ?_
              rintro e w8 ⟨rfl, hb7⟩
              replace hbz := Lib.hid (below_chain hbz.out hb7)
              replace N := Lib.hid (N.out.below hb7 N.out.lt)
              clear hb7
              refine hK.out _ _ hbz.out (fun hHeld => ?_)
              clear hK
              refine wpAnyH_take (i := 11) (v := .agg #[.string (ofL h.method), .string (ofL h.target), .int .i64 h.status, .string (ofL h.reason), .int .i64 h.minor, .slice p h.fields.length cap, .int .i64 t.form, .string (ofL t.host), .int .i64 t.port, .string (ofL t.path), .string (ofL t.query), .bool t.has, .string (ofL hn), .int .i64 hp, .string ⟨#[]⟩, .bool false, .bool kp, .string (ofL up)]) rfl (by kernel_rfl) (by kernel_rfl) (by kernel_rfl) (fun _ _ _ h => h) (Or.inl ⟨by rfl, (fun w hSw => by go_simp)⟩) hHeld ?_
              refine wpAnyH_ready (rs := [13]) (by kernel_rfl) (by simp) (AllReadyH.cons rfl (fun K hK => ?_) AllReadyH.nil)
              rw [if_pos (by rfl)]
              refine wp_store_row QT (.tmp 20) (.tmp 99) rfl w6.heap.size #[.string (ofL h.method), .string (ofL h.target), .int .i64 h.status, .string (ofL h.reason), .int .i64 h.minor, .slice p h.fields.length cap, .int .i64 t.form, .string (ofL t.host), .int .i64 t.port, .string (ofL t.path), .string (ofL t.query), .bool t.has, .string (ofL hn), .int .i64 hp, .string ⟨#[]⟩, .bool false, .bool kp, .string (ofL up)] rfl rfl QT _ N.out.at_ (by kernel_rfl) rfl (by simp [Value.oneCell']) ?_
              have q1 := below_setRow hbz.out hlo.out #[.string (ofL h.method), .string (ofL h.target), .int .i64 h.status, .string (ofL h.reason), .int .i64 h.minor, .slice p h.fields.length cap, .int .i64 t.form, .string (ofL t.host), .int .i64 t.port, .string (ofL t.path), .string (ofL t.query), .bool t.has, .string (ofL hn), .int .i64 hp, .string ⟨#[]⟩, .bool false, .bool kp, .string (ofL up)]
              refine hK.out _ _ q1 (fun hHeld => ?_)
              clear hK hHeld
              have HQ : RQ w6 (w8.setRow w6.heap.size #[.string (ofL h.method), .string (ofL h.target), .int .i64 h.status, .string (ofL h.reason), .int .i64 h.minor, .slice p h.fields.length cap, .int .i64 t.form, .string (ofL t.host), .int .i64 t.port, .string (ofL t.path), .string (ofL t.query), .bool t.has, .string (ofL hn), .int .i64 hp, .string ⟨#[]⟩, .bool false, .bool kp, .string (ofL up)]) w6.heap.size #[.string (ofL h.method), .string (ofL h.target), .int .i64 h.status, .string (ofL h.reason), .int .i64 h.minor, .slice p h.fields.length cap, .int .i64 t.form, .string (ofL t.host), .int .i64 t.port, .string (ofL t.path), .string (ofL t.query), .bool t.has, .string (ofL hn), .int .i64 hp, .string ⟨#[]⟩, .bool false, .bool kp, .string (ofL up)] := ⟨q1, has_setRow N.out _, hlo.out⟩
              refine wpAnyH_done (by kernel_rfl) ?_ _
              generalize w8.setRow w6.heap.size #[.string (ofL h.method), .string (ofL h.target), .int .i64 h.status, .string (ofL h.reason), .int .i64 h.minor, .slice p h.fields.length cap, .int .i64 t.form, .string (ofL t.host), .int .i64 t.port, .string (ofL t.path), .string (ofL t.query), .bool t.has, .string (ofL hn), .int .i64 hp, .string ⟨#[]⟩, .bool false, .bool kp, .string (ofL up)] = W8 at HQ ⊢
              generalize w6.heap.size = g8 at HQ ⊢
              revert HQ
              revert g8
              revert W8
              exact TAIL.out
          case tail =>
            intro W8 g8 HQ0
            have HQ := Lib.hid HQ0
            clear HQ0 HCh HCt HKp HUp hb0
            have hK : K = 1 := by have := HKB.out; simpa [bne] using this
            subst hK
            rename_i K0 hK0
            revert K0 X h n p cap gh gt t hn hp nx L w6 kp up W8 g8
            exact CUT3.out
      | false =>
        go_wp2_with fail
        clear k0 hmt
        apply share
        case ways =>
          intro TAIL
          refine wp_region_held_drew (S := fun w' => Below w6.heap.size w6 w') (by kernel_rfl) hb0 (fun hHeld => ?_)
          refine wpAnyH_take (i := 0) (v := .agg #[.string (ofL h.method), .string (ofL h.target), .int .i64 h.status, .string (ofL h.reason), .int .i64 h.minor, .slice p h.fields.length cap]) rfl (by kernel_rfl) (by kernel_rfl) (by kernel_rfl) (fun _ _ _ h => h) (Or.inl ⟨by rfl, (fun w hSw => by obtain ⟨d0, d1, d2, d3, d4, d5⟩ := (HCh w hSw).cells; go_simp)⟩) hHeld ?_
          refine wpAnyH_take (i := 1) (v := .agg #[.int .i64 t.form, .string (ofL t.host), .int .i64 t.port, .string (ofL t.path), .string (ofL t.query), .bool t.has]) rfl (by kernel_rfl) (by kernel_rfl) (by kernel_rfl) (fun _ _ _ h => h) (Or.inl ⟨by rfl, (fun w hSw => by obtain ⟨d0, d1, d2, d3, d4, d5⟩ := (HCt w hSw).cells; go_simp)⟩) hHeld ?_
          refine wpAnyH_take (i := 2) (v := .string (ofL hn)) rfl (by kernel_rfl) (by kernel_rfl) (by kernel_rfl) (fun _ _ _ h => h) (Or.inl ⟨by rfl, (fun w hSw => by go_simp)⟩) hHeld ?_
          refine wpAnyH_take (i := 3) (v := .int .i64 hp) rfl (by kernel_rfl) (by kernel_rfl) (by kernel_rfl) (fun _ _ _ h => h) (Or.inl ⟨by rfl, (fun w hSw => by go_simp)⟩) hHeld ?_
          refine wpAnyH_take (i := 4) (v := .int .i64 K) rfl (by kernel_rfl) (by kernel_rfl) (by kernel_rfl) (fun _ _ _ h => h) (Or.inl ⟨by rfl, (fun w hSw => by go_simp)⟩) hHeld ?_
          refine wpAnyH_take (i := 5) (v := .bool kb) rfl (by kernel_rfl) (by kernel_rfl) (by kernel_rfl) (fun _ _ _ h => h) (Or.inl ⟨by rfl, (fun w hSw => by go_simp)⟩) hHeld ?_
          refine wpAnyH_take (i := 6) (v := .agg #[.string (ofL h.method), .string (ofL h.target), .int .i64 h.status, .string (ofL h.reason), .int .i64 h.minor, .slice p h.fields.length cap]) rfl (by kernel_rfl) (by kernel_rfl) (by kernel_rfl) (fun _ _ _ h => h) (Or.inl ⟨by rfl, (fun w hSw => by obtain ⟨d0, d1, d2, d3, d4, d5⟩ := (HCh w hSw).cells; go_simp)⟩) hHeld ?_
          refine wpAnyH_take (i := 8) (v := .agg #[.string (ofL h.method), .string (ofL h.target), .int .i64 h.status, .string (ofL h.reason), .int .i64 h.minor, .slice p h.fields.length cap]) rfl (by kernel_rfl) (by kernel_rfl) (by kernel_rfl) (fun _ _ _ h => h) (Or.inl ⟨by rfl, (fun w hSw => by obtain ⟨d0, d1, d2, d3, d4, d5⟩ := (HCh w hSw).cells; go_simp)⟩) hHeld ?_
          refine wpAnyH_take (i := 9) (v := .int .i64 K) rfl (by kernel_rfl) (by kernel_rfl) (by kernel_rfl) (fun _ _ _ h => h) (Or.inl ⟨by rfl, (fun w hSw => by go_simp)⟩) hHeld ?_
          have hbz := Lib.hid hb0
          refine wpAnyH_ready (rs := [7, 12]) (by kernel_rfl) (by simp) (AllReadyH.cons rfl (fun K hK => ?_) (AllReadyH.cons rfl (fun K hK => ?_) AllReadyH.nil))
          · go_simp
            refine (HKp.out _ hbz.out).mono ?_
            rintro e w7 ⟨rfl, hb7⟩
            replace hbz := Lib.hid (below_chain hbz.out hb7)
            clear hb7
            refine hK.out _ _ hbz.out (fun hHeld => ?_)
            clear hK
            refine wpAnyH_ready (rs := [10, 12]) (by kernel_rfl) (by simp) (AllReadyH.cons rfl (fun K hK => ?_) (AllReadyH.cons rfl (fun K hK => ?_) AllReadyH.nil))
            · go_simp
              refine (HUp.out _ hbz.out).mono ?_
              rintro e w8 ⟨rfl, hb7⟩
              replace hbz := Lib.hid (below_chain hbz.out hb7)
              clear hb7
              refine hK.out _ _ hbz.out (fun hHeld => ?_)
              clear hK
              refine wpAnyH_take (i := 11) (v := .agg #[.string (ofL h.method), .string (ofL h.target), .int .i64 h.status, .string (ofL h.reason), .int .i64 h.minor, .slice p h.fields.length cap, .int .i64 t.form, .string (ofL t.host), .int .i64 t.port, .string (ofL t.path), .string (ofL t.query), .bool t.has, .string (ofL hn), .int .i64 hp, .string ⟨#[]⟩, .bool kb, .bool kp, .string (ofL up)]) rfl (by kernel_rfl) (by kernel_rfl) (by kernel_rfl) (fun _ _ _ h => h) (Or.inl ⟨by rfl, (fun w hSw => by go_simp)⟩) hHeld ?_
              refine wpAnyH_ready (rs := [12]) (by kernel_rfl) (by simp) (AllReadyH.cons rfl (fun K hK => ?_) AllReadyH.nil)
              go_simp
              have N := Lib.hid (Has.new w8 QT #[.string ⟨#[]⟩, .string ⟨#[]⟩, .int .i64 0, .string ⟨#[]⟩, .int .i64 0, .slice none 0 0, .int .i64 0, .string ⟨#[]⟩, .int .i64 0, .string ⟨#[]⟩, .string ⟨#[]⟩, .bool false, .string ⟨#[]⟩, .int .i64 0, .string ⟨#[]⟩, .bool false, .bool false, .string ⟨#[]⟩])
              have hlo : Hid (w6.heap.size ≤ w8.heap.size) := Lib.hid hbz.out.size
              replace hbz := Lib.hid (hbz.out.alloc hbz.out.size (.cells #[.string ⟨#[]⟩, .string ⟨#[]⟩, .int .i64 0, .string ⟨#[]⟩, .int .i64 0, .slice none 0 0, .int .i64 0, .string ⟨#[]⟩, .int .i64 0, .string ⟨#[]⟩, .string ⟨#[]⟩, .bool false, .string ⟨#[]⟩, .int .i64 0, .string ⟨#[]⟩, .bool false, .bool false, .string ⟨#[]⟩] QT))
              refine hK.out _ _ hbz.out (fun hHeld => ?_)
              clear hK
              refine wpAnyH_ready (rs := [13]) (by kernel_rfl) (by simp) (AllReadyH.cons rfl (fun K hK => ?_) AllReadyH.nil)
              rw [if_pos (by rfl)]
              refine wp_store_row QT (.tmp 20) (.tmp 99) rfl w8.heap.size #[.string (ofL h.method), .string (ofL h.target), .int .i64 h.status, .string (ofL h.reason), .int .i64 h.minor, .slice p h.fields.length cap, .int .i64 t.form, .string (ofL t.host), .int .i64 t.port, .string (ofL t.path), .string (ofL t.query), .bool t.has, .string (ofL hn), .int .i64 hp, .string ⟨#[]⟩, .bool kb, .bool kp, .string (ofL up)] rfl rfl QT _ N.out.at_ (by kernel_rfl) rfl (by simp [Value.oneCell']) ?_
              have q1 := below_setRow hbz.out hlo.out #[.string (ofL h.method), .string (ofL h.target), .int .i64 h.status, .string (ofL h.reason), .int .i64 h.minor, .slice p h.fields.length cap, .int .i64 t.form, .string (ofL t.host), .int .i64 t.port, .string (ofL t.path), .string (ofL t.query), .bool t.has, .string (ofL hn), .int .i64 hp, .string ⟨#[]⟩, .bool kb, .bool kp, .string (ofL up)]
              refine hK.out _ _ q1 (fun hHeld => ?_)
              clear hK hHeld
              have HQ : RQ w6 ((w8.alloc (.cells #[.string ⟨#[]⟩, .string ⟨#[]⟩, .int .i64 0, .string ⟨#[]⟩, .int .i64 0, .slice none 0 0, .int .i64 0, .string ⟨#[]⟩, .int .i64 0, .string ⟨#[]⟩, .string ⟨#[]⟩, .bool false, .string ⟨#[]⟩, .int .i64 0, .string ⟨#[]⟩, .bool false, .bool false, .string ⟨#[]⟩] QT)).setRow w8.heap.size #[.string (ofL h.method), .string (ofL h.target), .int .i64 h.status, .string (ofL h.reason), .int .i64 h.minor, .slice p h.fields.length cap, .int .i64 t.form, .string (ofL t.host), .int .i64 t.port, .string (ofL t.path), .string (ofL t.query), .bool t.has, .string (ofL hn), .int .i64 hp, .string ⟨#[]⟩, .bool kb, .bool kp, .string (ofL up)]) w8.heap.size #[.string (ofL h.method), .string (ofL h.target), .int .i64 h.status, .string (ofL h.reason), .int .i64 h.minor, .slice p h.fields.length cap, .int .i64 t.form, .string (ofL t.host), .int .i64 t.port, .string (ofL t.path), .string (ofL t.query), .bool t.has, .string (ofL hn), .int .i64 hp, .string ⟨#[]⟩, .bool kb, .bool kp, .string (ofL up)] := ⟨q1, has_setRow N.out _, hlo.out⟩
              refine wpAnyH_done (by kernel_rfl) ?_ _
              generalize (w8.alloc (.cells #[.string ⟨#[]⟩, .string ⟨#[]⟩, .int .i64 0, .string ⟨#[]⟩, .int .i64 0, .slice none 0 0, .int .i64 0, .string ⟨#[]⟩, .int .i64 0, .string ⟨#[]⟩, .string ⟨#[]⟩, .bool false, .string ⟨#[]⟩, .int .i64 0, .string ⟨#[]⟩, .bool false, .bool false, .string ⟨#[]⟩] QT)).setRow w8.heap.size #[.string (ofL h.method), .string (ofL h.target), .int .i64 h.status, .string (ofL h.reason), .int .i64 h.minor, .slice p h.fields.length cap, .int .i64 t.form, .string (ofL t.host), .int .i64 t.port, .string (ofL t.path), .string (ofL t.query), .bool t.has, .string (ofL hn), .int .i64 hp, .string ⟨#[]⟩, .bool kb, .bool kp, .string (ofL up)] = W8 at HQ ⊢
              generalize w8.heap.size = g8 at HQ ⊢
              revert HQ
              revert g8
              revert W8
              exact TAIL.out
            · go_simp
              have N := Lib.hid (Has.new w7 QT #[.string ⟨#[]⟩, .string ⟨#[]⟩, .int .i64 0, .string ⟨#[]⟩, .int .i64 0, .slice none 0 0, .int .i64 0, .string ⟨#[]⟩, .int .i64 0, .string ⟨#[]⟩, .string ⟨#[]⟩, .bool false, .string ⟨#[]⟩, .int .i64 0, .string ⟨#[]⟩, .bool false, .bool false, .string ⟨#[]⟩])
              have hlo : Hid (w6.heap.size ≤ w7.heap.size) := Lib.hid hbz.out.size
              replace hbz := Lib.hid (hbz.out.alloc hbz.out.size (.cells #[.string ⟨#[]⟩, .string ⟨#[]⟩, .int .i64 0, .string ⟨#[]⟩, .int .i64 0, .slice none 0 0, .int .i64 0, .string ⟨#[]⟩, .int .i64 0, .string ⟨#[]⟩, .string ⟨#[]⟩, .bool false, .string ⟨#[]⟩, .int .i64 0, .string ⟨#[]⟩, .bool false, .bool false, .string ⟨#[]⟩] QT))
              refine hK.out _ _ hbz.out (fun hHeld => ?_)
              clear hK
              refine wpAnyH_ready (rs := [10]) (by kernel_rfl) (by simp) (AllReadyH.cons rfl (fun K hK => ?_) AllReadyH.nil)
              go_simp
              refine (HUp.out _ hbz.out).mono ?_
              rintro e w8 ⟨rfl, hb7⟩
              replace hbz := Lib.hid (below_chain hbz.out hb7)
              replace N := Lib.hid (N.out.below hb7 N.out.lt)
              clear hb7
              refine hK.out _ _ hbz.out (fun hHeld => ?_)
              clear hK
              refine wpAnyH_take (i := 11) (v := .agg #[.string (ofL h.method), .string (ofL h.target), .int .i64 h.status, .string (ofL h.reason), .int .i64 h.minor, .slice p h.fields.length cap, .int .i64 t.form, .string (ofL t.host), .int .i64 t.port, .string (ofL t.path), .string (ofL t.query), .bool t.has, .string (ofL hn), .int .i64 hp, .string ⟨#[]⟩, .bool kb, .bool kp, .string (ofL up)]) rfl (by kernel_rfl) (by kernel_rfl) (by kernel_rfl) (fun _ _ _ h => h) (Or.inl ⟨by rfl, (fun w hSw => by go_simp)⟩) hHeld ?_
              refine wpAnyH_ready (rs := [13]) (by kernel_rfl) (by simp) (AllReadyH.cons rfl (fun K hK => ?_) AllReadyH.nil)
              rw [if_pos (by rfl)]
              refine wp_store_row QT (.tmp 20) (.tmp 99) rfl w7.heap.size #[.string (ofL h.method), .string (ofL h.target), .int .i64 h.status, .string (ofL h.reason), .int .i64 h.minor, .slice p h.fields.length cap, .int .i64 t.form, .string (ofL t.host), .int .i64 t.port, .string (ofL t.path), .string (ofL t.query), .bool t.has, .string (ofL hn), .int .i64 hp, .string ⟨#[]⟩, .bool kb, .bool kp, .string (ofL up)] rfl rfl QT _ N.out.at_ (by kernel_rfl) rfl (by simp [Value.oneCell']) ?_
              have q1 := below_setRow hbz.out hlo.out #[.string (ofL h.method), .string (ofL h.target), .int .i64 h.status, .string (ofL h.reason), .int .i64 h.minor, .slice p h.fields.length cap, .int .i64 t.form, .string (ofL t.host), .int .i64 t.port, .string (ofL t.path), .string (ofL t.query), .bool t.has, .string (ofL hn), .int .i64 hp, .string ⟨#[]⟩, .bool kb, .bool kp, .string (ofL up)]
              refine hK.out _ _ q1 (fun hHeld => ?_)
              clear hK hHeld
              have HQ : RQ w6 (w8.setRow w7.heap.size #[.string (ofL h.method), .string (ofL h.target), .int .i64 h.status, .string (ofL h.reason), .int .i64 h.minor, .slice p h.fields.length cap, .int .i64 t.form, .string (ofL t.host), .int .i64 t.port, .string (ofL t.path), .string (ofL t.query), .bool t.has, .string (ofL hn), .int .i64 hp, .string ⟨#[]⟩, .bool kb, .bool kp, .string (ofL up)]) w7.heap.size #[.string (ofL h.method), .string (ofL h.target), .int .i64 h.status, .string (ofL h.reason), .int .i64 h.minor, .slice p h.fields.length cap, .int .i64 t.form, .string (ofL t.host), .int .i64 t.port, .string (ofL t.path), .string (ofL t.query), .bool t.has, .string (ofL hn), .int .i64 hp, .string ⟨#[]⟩, .bool kb, .bool kp, .string (ofL up)] := ⟨q1, has_setRow N.out _, hlo.out⟩
              refine wpAnyH_done (by kernel_rfl) ?_ _
              generalize w8.setRow w7.heap.size #[.string (ofL h.method), .string (ofL h.target), .int .i64 h.status, .string (ofL h.reason), .int .i64 h.minor, .slice p h.fields.length cap, .int .i64 t.form, .string (ofL t.host), .int .i64 t.port, .string (ofL t.path), .string (ofL t.query), .bool t.has, .string (ofL hn), .int .i64 hp, .string ⟨#[]⟩, .bool kb, .bool kp, .string (ofL up)] = W8 at HQ ⊢
              generalize w7.heap.size = g8 at HQ ⊢
              revert HQ
              revert g8
              revert W8
              exact TAIL.out
          · go_simp
            have N : Hid (Has (w6.drew.alloc (.cells #[.string ⟨#[]⟩, .string ⟨#[]⟩, .int .i64 0, .string ⟨#[]⟩, .int .i64 0, .slice none 0 0, .int .i64 0, .string ⟨#[]⟩, .int .i64 0, .string ⟨#[]⟩, .string ⟨#[]⟩, .bool false, .string ⟨#[]⟩, .int .i64 0, .string ⟨#[]⟩, .bool false, .bool false, .string ⟨#[]⟩] QT)) w6.heap.size QT #[.string ⟨#[]⟩, .string ⟨#[]⟩, .int .i64 0, .string ⟨#[]⟩, .int .i64 0, .slice none 0 0, .int .i64 0, .string ⟨#[]⟩, .int .i64 0, .string ⟨#[]⟩, .string ⟨#[]⟩, .bool false, .string ⟨#[]⟩, .int .i64 0, .string ⟨#[]⟩, .bool false, .bool false, .string ⟨#[]⟩]) := Lib.hid (Has.new w6.drew QT #[.string ⟨#[]⟩, .string ⟨#[]⟩, .int .i64 0, .string ⟨#[]⟩, .int .i64 0, .slice none 0 0, .int .i64 0, .string ⟨#[]⟩, .int .i64 0, .string ⟨#[]⟩, .string ⟨#[]⟩, .bool false, .string ⟨#[]⟩, .int .i64 0, .string ⟨#[]⟩, .bool false, .bool false, .string ⟨#[]⟩])
            have hlo : Hid (w6.heap.size ≤ w6.heap.size) := Lib.hid hbz.out.size
            replace hbz := Lib.hid (hbz.out.alloc hbz.out.size (.cells #[.string ⟨#[]⟩, .string ⟨#[]⟩, .int .i64 0, .string ⟨#[]⟩, .int .i64 0, .slice none 0 0, .int .i64 0, .string ⟨#[]⟩, .int .i64 0, .string ⟨#[]⟩, .string ⟨#[]⟩, .bool false, .string ⟨#[]⟩, .int .i64 0, .string ⟨#[]⟩, .bool false, .bool false, .string ⟨#[]⟩] QT))
            refine hK.out _ _ hbz.out (fun hHeld => ?_)
            clear hK
            refine wpAnyH_ready (rs := [7]) (by kernel_rfl) (by simp) (AllReadyH.cons rfl (fun K hK => ?_) AllReadyH.nil)
            go_simp
            refine (HKp.out _ hbz.out).mono ?_
            rintro e w7 ⟨rfl, hb7⟩
            replace hbz := Lib.hid (below_chain hbz.out hb7)
            replace N := Lib.hid (N.out.below hb7 N.out.lt)
            clear hb7
            refine hK.out _ _ hbz.out (fun hHeld => ?_)
            clear hK
            refine wpAnyH_ready (rs := [10]) (by kernel_rfl) (by simp) (AllReadyH.cons rfl (fun K hK => ?_) AllReadyH.nil)
            go_simp
            refine (HUp.out _ hbz.out).mono ?_
            rintro e w8 ⟨rfl, hb7⟩
            replace hbz := Lib.hid (below_chain hbz.out hb7)
            replace N := Lib.hid (N.out.below hb7 N.out.lt)
            clear hb7
            refine hK.out _ _ hbz.out (fun hHeld => ?_)
            clear hK
            refine wpAnyH_take (i := 11) (v := .agg #[.string (ofL h.method), .string (ofL h.target), .int .i64 h.status, .string (ofL h.reason), .int .i64 h.minor, .slice p h.fields.length cap, .int .i64 t.form, .string (ofL t.host), .int .i64 t.port, .string (ofL t.path), .string (ofL t.query), .bool t.has, .string (ofL hn), .int .i64 hp, .string ⟨#[]⟩, .bool kb, .bool kp, .string (ofL up)]) rfl (by kernel_rfl) (by kernel_rfl) (by kernel_rfl) (fun _ _ _ h => h) (Or.inl ⟨by rfl, (fun w hSw => by go_simp)⟩) hHeld ?_
            refine wpAnyH_ready (rs := [13]) (by kernel_rfl) (by simp) (AllReadyH.cons rfl (fun K hK => ?_) AllReadyH.nil)
            rw [if_pos (by rfl)]
            refine wp_store_row QT (.tmp 20) (.tmp 99) rfl w6.heap.size #[.string (ofL h.method), .string (ofL h.target), .int .i64 h.status, .string (ofL h.reason), .int .i64 h.minor, .slice p h.fields.length cap, .int .i64 t.form, .string (ofL t.host), .int .i64 t.port, .string (ofL t.path), .string (ofL t.query), .bool t.has, .string (ofL hn), .int .i64 hp, .string ⟨#[]⟩, .bool kb, .bool kp, .string (ofL up)] rfl rfl QT _ N.out.at_ (by kernel_rfl) rfl (by simp [Value.oneCell']) ?_
            have q1 := below_setRow hbz.out hlo.out #[.string (ofL h.method), .string (ofL h.target), .int .i64 h.status, .string (ofL h.reason), .int .i64 h.minor, .slice p h.fields.length cap, .int .i64 t.form, .string (ofL t.host), .int .i64 t.port, .string (ofL t.path), .string (ofL t.query), .bool t.has, .string (ofL hn), .int .i64 hp, .string ⟨#[]⟩, .bool kb, .bool kp, .string (ofL up)]
            refine hK.out _ _ q1 (fun hHeld => ?_)
            clear hK hHeld
            have HQ : RQ w6 (w8.setRow w6.heap.size #[.string (ofL h.method), .string (ofL h.target), .int .i64 h.status, .string (ofL h.reason), .int .i64 h.minor, .slice p h.fields.length cap, .int .i64 t.form, .string (ofL t.host), .int .i64 t.port, .string (ofL t.path), .string (ofL t.query), .bool t.has, .string (ofL hn), .int .i64 hp, .string ⟨#[]⟩, .bool kb, .bool kp, .string (ofL up)]) w6.heap.size #[.string (ofL h.method), .string (ofL h.target), .int .i64 h.status, .string (ofL h.reason), .int .i64 h.minor, .slice p h.fields.length cap, .int .i64 t.form, .string (ofL t.host), .int .i64 t.port, .string (ofL t.path), .string (ofL t.query), .bool t.has, .string (ofL hn), .int .i64 hp, .string ⟨#[]⟩, .bool kb, .bool kp, .string (ofL up)] := ⟨q1, has_setRow N.out _, hlo.out⟩
            refine wpAnyH_done (by kernel_rfl) ?_ _
            generalize w8.setRow w6.heap.size #[.string (ofL h.method), .string (ofL h.target), .int .i64 h.status, .string (ofL h.reason), .int .i64 h.minor, .slice p h.fields.length cap, .int .i64 t.form, .string (ofL t.host), .int .i64 t.port, .string (ofL t.path), .string (ofL t.query), .bool t.has, .string (ofL hn), .int .i64 hp, .string ⟨#[]⟩, .bool kb, .bool kp, .string (ofL up)] = W8 at HQ ⊢
            generalize w6.heap.size = g8 at HQ ⊢
            revert HQ
            revert g8
            revert W8
            exact TAIL.out
        case tail =>
          intro W8 g8 HQ0
          have HQ := Lib.hid HQ0
          clear HQ0 HCh HCt HKp HUp hb0
          by_cases hK : K = 1
          · subst hK
            rename_i K0 hK0
            revert K0 X h n p cap gh gt t hn hp nx L w6 kp up kb W8 g8
            exact CUT1.out
          · skip
            rename_i K0 hK0
            revert K0 X h n p cap gh gt t hn hp nx K L w6 kp up kb W8 g8
            exact CUT2.out
end Go.Proofs.YtblpooddamkfdaaGreatDoor.R11Read
