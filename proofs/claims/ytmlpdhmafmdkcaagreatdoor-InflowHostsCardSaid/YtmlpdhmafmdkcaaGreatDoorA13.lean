/- Texts of this seat, one behind another: PJudge, InErr, POpen11, PBody11, PChunks11. -/
import Derived.Handy
import Derived.BigRegion
import Derived.Deep.RegionHeld3
import Derived.Test.YtmlpdhmafmdkcaaGreatDoorA9
import Derived.Test.YtmlpdhmafmdkcaaGreatDoorA10
import Derived.Test.YtmlpdhmafmdkcaaGreatDoorA11
import Derived.Test.YtmlpdhmafmdkcaaGreatDoorA12
import Derived.Test.YtmlpdhmafmdkcaaGreatDoorA3
import Derived.Test.YtmlpdhmafmdkcaaGreatDoorA4
/- Layer 11 of the program: judge, all. -/
namespace Go.Proofs.YtmlpdhmafmdkcaaGreatDoor.PJudge
open Go.ChangeShapes Go.WideShapes Go.ChangeAt Go.RowKit LexPure Bytes Ret FieldsPure Flds HeadPure HBox HostPure TargetPure FramePure FrBox InflowPure InJudge QCell TBox PHost11 PUp11 PStat11 PGet PUnder TParse Mem
set_option maxRecDepth 20000
set_option linter.unusedVariables false
set_option linter.unusedSimpArgs false
theorem pjudge11 (h : H8) (v : Value) (most : Int) (hmin : 0 ≤ h.minor) (hG : Few h.fields) (hle : h.fields.length ≤ 32) (ht : h.target.length ≤ 1100) (w : World) (hF : FL w v h.fields) (hm : MaxInt w) :
    Calls Tryz.prog 25 #[hv h v, .int .i64 most] w fun e w' => e = .returned (jdV (judge11 h most) v) ∧ Below w.heap.size w w' := by
  cases hs : judge11 h most with
  | bad s =>
    have := pjudge_bad h v most hmin hG hle ht w hF hm s hs
    rwa [hs] at this
  | ok q kk ll =>
    have key : Calls Tryz.prog 25 #[hv h v, .int .i64 most] w fun e w' => e = .returned (jdV (judge11 h most) v) ∧ Below w.heap.size w w' := by
      cases h2 : ((request9 h.minor h.fields most).1 != 1) with
      | true =>
        cases h1 : decide (h.method = TargetPure.CONNECT) with
        | true =>
          exfalso
          unfold judge11 at hs
          split at hs
          · cases hs
          split at hs
          · cases hs
          split at hs
          · cases hs
          split at hs
          · cases hs
          rw [if_pos ⟨of_decide_eq_true h1, bne_iff_ne.1 h2⟩] at hs
          cases hs
        | false => exact pjudge_ok3 h v most hmin hG hle ht w hF hm q kk ll hs h1 h2
      | false =>
        cases h1 : decide (h.method = TargetPure.CONNECT) with
        | true => exact pjudge_ok1 h v most hmin hG hle ht w hF hm q kk ll hs h1 h2
        | false => exact pjudge_ok2 h v most hmin hG hle ht w hF hm q kk ll hs h1 h2
    rwa [hs] at key
end Go.Proofs.YtmlpdhmafmdkcaaGreatDoor.PJudge

/- Layer 8: an error of a head that is read is not 0. No program is named. -/
namespace Go.Proofs.YtmlpdhmafmdkcaaGreatDoor.InErr
open Bytes LexPure LexNum FieldsPure HeadPure HostPure TargetPure FramePure ChunkPure InflowPure InJudge
set_option maxRecDepth 20000
/-! ### a head's errors -/
theorem scan_err (most : Nat) (over : Int) (ho : over ≠ 0) : ∀ (s : List UInt8) (i : Nat) (e : Int), scan most over i s = .bad e → e ≠ 0
  | [], _, _, h => by cases h
  | c :: s, i, e, h => by
    unfold scan at h
    split at h
    · injection h with h; rw [← h]; decide
    split at h
    · split at h
      · cases h
      · split at h
        · cases h
        · injection h with h; rw [← h]; decide
    split at h
    · injection h with h; rw [← h]; exact ho
    · exact scan_err most over ho s (i + 1) e h
theorem version_err (s : List UInt8) : (version8 s).2 = 0 ∨ (version8 s).2 = 80 ∨ (version8 s).2 = 81 := by
  unfold version8
  split
  · split
    · split
      · exact .inl rfl
      · exact .inr (.inr rfl)
    · exact .inr (.inl rfl)
  · exact .inr (.inl rfl)
theorem fields_err (h : H8) : ∀ (m : Nat) (acc : List HField) (a : Nat) (s : List UInt8) (e : Int), fields8 h m acc a s = .bad e → e ≠ 0 := by
  intro m
  induction m with
  | zero =>
    intro acc a s e hd
    unfold fields8 at hd
    cases hs : scan 512 83 0 s with
    | wait => rw [hs] at hd; cases hd
    | bad e' => rw [hs] at hd; injection hd with hd; rw [← hd]; exact scan_err _ _ (by decide) _ _ _ hs
    | whole k =>
      rw [hs] at hd
      dsimp only at hd
      by_cases hk : k = 0
      · rw [if_pos hk] at hd
        cases hd
      · rw [if_neg hk] at hd
        injection hd with hd
        rw [← hd]
        decide
  | succ m ih =>
    intro acc a s e hd
    unfold fields8 at hd
    cases hs : scan 512 83 0 s with
    | wait => rw [hs] at hd; cases hd
    | bad e' => rw [hs] at hd; injection hd with hd; rw [← hd]; exact scan_err _ _ (by decide) _ _ _ hs
    | whole k =>
      rw [hs] at hd
      dsimp only at hd
      by_cases hk : k = 0
      · rw [if_pos hk] at hd
        cases hd
      · rw [if_neg hk] at hd
        by_cases hf : (field8 (s.take k)).2 = 0
        · rw [if_pos hf] at hd
          exact ih _ _ _ _ hd
        · rw [if_neg hf] at hd
          injection hd with hd
          rw [← hd]
          decide
theorem read_err {s : List UInt8} {e : Int} (hd : read8 false s = .bad e) : e ≠ 0 := by
  unfold read8 skipOf at hd
  simp only [Bool.false_eq_true, if_false] at hd
  unfold from8 at hd
  cases hs : scan 1100 82 0 (s.drop (skip8 s)) with
  | wait => rw [hs] at hd; cases hd
  | bad e' => rw [hs] at hd; injection hd with hd; rw [← hd]; exact scan_err _ _ (by decide) _ _ _ hs
  | whole k =>
    rw [hs] at hd
    simp only [Bool.false_eq_true, if_false] at hd
    by_cases hx : (start8 ((s.drop (skip8 s)).take k)).2 = 0
    · rw [if_pos hx] at hd
      exact fields_err _ _ _ _ _ _ hd
    · rw [if_neg hx] at hd
      injection hd with hd
      rw [← hd]
      exact hx
/-- the head behind empty lines -/
theorem read_behind {D : List UInt8} {k : Nat} {r : List UInt8} (h : D = emptiesOf k ++ r) : read8 false D = shift (2 * k) (read8 false r) := by rw [h]; exact read_ahead k r
end Go.Proofs.YtmlpdhmafmdkcaaGreatDoor.InErr

/- Layer 11 of the program: open. -/
namespace Go.Proofs.YtmlpdhmafmdkcaaGreatDoor.POpen11
open Go.ChangeShapes Go.WideShapes Go.ChangeAt Go.RowKit LexPure Bytes Ret FieldsPure Flds HeadPure HBox FramePure ChunkPure ChunkObj InflowPure InJudge InErr QCell KeptRow PHead8 PStat11 PJudge PUnder Mem Step InEmb InObj PText11
set_option maxRecDepth 20000
set_option linter.unusedVariables false
set_option linter.unusedSimpArgs false
def MAXB : Nat := 0
theorem max_step {w w' : World} {F F' : Nat → Prop} (h : MaxInt w) (hs : Step w w' F F') (hn : ¬ F MAXB) : MaxInt w' := by
  obtain ⟨m, hm⟩ := h
  exact ⟨m, (hs.cell (World.block_lt_of_cell? _ _ hm) hn).trans hm⟩
/-- behind judge: the request lies in block j, its framing in jf -/
structure RE (W3 W : World) (j jf : Nat) (jq : Array Value) (jk jl : Int) : Prop where
  below : Below W3.heap.size W3 W
  row : Has W j RQT jq
  frm : Has W jf FRT #[.int .i64 jk, .int .i64 jl]
  jlo : W3.heap.size ≤ j
  flo : W3.heap.size ≤ jf
  ne : jf ≠ j
theorem jd_parts (J : Jd) (vp : Option Addr) (vn vc : Nat) (hb : ∀ s, J = .bad s → s ≠ 0) : ∃ (jq : Array Value) (jk jl js : Int), jdV J (.slice vp vn vc) = .tuple #[.agg jq, .agg #[.int .i64 jk, .int .i64 jl], .int .i64 js] ∧ jq.size = 18 ∧ jq.all (·.oneCell') = true ∧ ((js ≠ 0 ∧ J = .bad js) ∨ (js = 0 ∧ ∃ q, J = .ok q jk jl ∧ jq = qcl q (.slice vp vn vc))) := by
  cases J with
  | bad s => exact ⟨_, _, _, _, rfl, rfl, qcl_one _ rfl, .inl ⟨hb s rfl, rfl⟩⟩
  | ok q k l => exact ⟨_, _, _, _, rfl, rfl, qcl_one _ rfl, .inr ⟨rfl, q, rfl, rfl⟩⟩
/-- a proof that several ways share -/
theorem share {P G : Prop} (tail : P) (ways : Hid P → G) : G := ways (Lib.hid tail)
theorem opn_plain {W : World} {hh : Nat} {q : Rq} {l : Value} {hd : H8} {n : Nat} {jk jl most : Int} {D : List UInt8} (H : Has W hh OT (ocl q l jk jl n (.pointer none) (.pointer none) (.slice none 0 0))) (hrow : RowF W 0 l q.head.fields) (h8 : read8 false D = .done hd n) (hj : judge11 hd most = .ok q jk jl) (hk : jk ≠ 3) :
    Opn W (fun k => k = hh ∨ l.ownBlock = some k) hh most D :=
  ⟨⟨q, l, hd, n, jk, jl, 0, .pointer none, .pointer none, .slice none 0 0, [], ⟨H, rfl, rfl, .inl rfl, RowB.nil _⟩, hrow, fun j hj => .inr hj, (fun j hj => by cases hj), h8, hj, ⟨fun _ => ⟨rfl, rfl⟩, fun h => absurd h hk⟩⟩, .inl rfl, fun k hk => by
    rcases hk with hk | hk
    · rw [hk]; exact H.lt
    · exact row_lt hrow.1 hk⟩
theorem opn_chunk {W : World} {hh gd : Nat} {G : Nat → Prop} {q : Rq} {l : Value} {hd : H8} {n : Nat} {jk jl most : Int} {D : List UInt8} (H : Has W hh OT (ocl q l jk jl n (.pointer (some ⟨gd, 0, none⟩)) (.pointer none) (.slice none 0 0))) (hrow : RowF W 0 l q.head.fields) (h8 : read8 false D = .done hd n) (hj : judge11 hd most = .ok q jk jl) (hk : jk = 3) (hd' : Dec W G gd (begin_ most)) (hG : ∀ k, G k → k ≠ hh ∧ l.ownBlock ≠ some k) :
    Opn W (fun k => k = hh ∨ l.ownBlock = some k ∨ G k) hh most D :=
  ⟨⟨q, l, hd, n, jk, jl, 0, _, .pointer none, .slice none 0 0, [], ⟨H, rfl, rfl, .inl rfl, RowB.nil _⟩, hrow, fun j hj => .inr (.inl hj), (fun j hj => by cases hj), h8, hj, ⟨fun h => absurd hk h, fun _ => ⟨gd, G, begin_ most, rfl, hd', fun j hj => ⟨.inr (.inr hj), (hG j hj).1, (hG j hj).2, fun e => by cases e⟩, Nat.zero_le _, by rw [List.take_zero]; rfl, rfl⟩⟩⟩, .inl rfl, fun k hk => by
    rcases hk with hk | hk | hk
    · rw [hk]; exact H.lt
    · exact row_lt hrow.1 hk
    · exact hd'.lt k hk⟩
/-- the opened request lies in block hh, its framing's copy in f8 -/
structure OE (W3 W : World) (R : Nat → Prop) (g : Nat) (most : Int) (T : List UInt8) (U E hh f8 : Nat) (cs : Array Value) (jk jl : Int) : Prop where
  dat : Dat W R g most T U E (some hh) 0
  has : Has W hh OT cs
  frm : Has W f8 FRT #[.int .i64 jk, .int .i64 jl]
  step : Step W3 W R R
  lo : W3.heap.size ≤ hh
theorem OE.make {W3 W8 : World} {R : Nat → Prop} {g : Nat} {most : Int} {T : List UInt8} {U E j8 f8 : Nat} {jq cs : Array Value} {jk jl : Int} (h3 : Dat W3 R g most T U E none 0) (r : RE W3 W8 j8 f8 jq jk jl) :
    OE W3 ((W8.drew.alloc (.cells cs OT)).setCell ⟨g, 5, none⟩ (.pointer (some ⟨W8.heap.size, 0, none⟩))) R g most T U E W8.heap.size f8 cs jk jl := by
  have hb : Below W3.heap.size W3 (W8.drew.alloc (.cells cs OT)) := r.below.drew.alloc r.below.size _
  have hD := h3.below hb
  have hlt := h3.lt g h3.mine
  have hg : W8.heap.size ≠ g := by have := r.below.size; omega
  have hf : f8 ≠ g := by have := r.flo; omega
  exact ⟨hD.putO (some W8.heap.size), (Has.new W8.drew OT cs).far (by show W8.heap.size ≠ g; exact hg) _, (r.frm.drew.alloc _).far (by show f8 ≠ g; exact hf) _, (Step.of_below hb R).trans (hD.step_put 5 _), r.below.size⟩
/-- what open leaves -/
def OpenR (w w' : World) (e : Ending) (R : Nat → Prop) (g : Nat) (most : Int) (T : List UInt8) (U : Nat) : Prop :=
  ∃ s E', e = .returned (.int .i64 s) ∧ Ahead (T.drop U) E' ∧ Step w w' R R ∧
    ((Dat w' R g most T U E' none 0 ∧ ((s = 0 ∧ read11 most (T.drop U) = .wait) ∨ (s ≠ 0 ∧ read11 most (T.drop U) = .fail s))) ∨
     (s = 0 ∧ ∃ h O, Dat w' R g most T U E' (some h) 0 ∧ Opn w' O h most (T.drop U) ∧ ∀ k, O k → w.heap.size ≤ k))
set_option maxHeartbeats 6400000 in
theorem popen11 {w : World} {R : Nat → Prop} {g : Nat} {most : Int} {T : List UInt8} {U E : Nat} (h : Dat w R g most T U E none 0) (hA : Ahead (T.drop U) E) (hT : T.length ≤ 4294967296) (hm : MaxInt w) (hn : ¬ R MAXB) (hr : ChObj.InR most) :
    Calls Tryz.prog 17 #[.pointer (some ⟨g, 0, none⟩)] w fun e w' => OpenR w w' e R g most T U := by
  have HE := Lib.hid (pempty11 h hA hT)
  have HM := Lib.hid hm
  obtain ⟨D, hD⟩ : ∃ D, D = T.drop U := ⟨_, rfl⟩
  have hDl : D.length ≤ 4294967296 := by rw [hD, List.length_drop]; omega
  have hOR : Hid (∀ w' e, (∃ s E', e = .returned (.int .i64 s) ∧ Ahead D E' ∧ Step w w' R R ∧
    ((Dat w' R g most T U E' none 0 ∧ ((s = 0 ∧ read11 most D = .wait) ∨ (s ≠ 0 ∧ read11 most D = .fail s))) ∨
     (s = 0 ∧ ∃ h O, Dat w' R g most T U E' (some h) 0 ∧ Opn w' O h most D ∧ ∀ k, O k → w.heap.size ≤ k))) → OpenR w w' e R g most T U) := Lib.hid (fun w' e q => by rw [hD] at q; exact q)
  rw [← hD] at HE
  obtain ⟨E2, hE2⟩ : ∃ E2, E2 = skip8 D := ⟨_, rfl⟩
  rw [← hE2] at HE
  have hRl := Lib.hid h.lt
  clear h hA hT hm hD
  go_enter Tryz.func17, Tryz.ntmps17
  go_wp2_with fail
  refine HE.out.mono ?_
  rintro e w1 ⟨rfl, ⟨hD1, hS1⟩, hA1⟩
  obtain ⟨S, hS⟩ : ∃ S, S = ofL (D.drop E2) := ⟨_, rfl⟩
  have sS : S.size ≤ 4294967296 := by rw [hS, ofL_size, List.length_drop]; omega
  have HH := Lib.hid (prequest_row S (by omega) w1)
  rw [show toL S = D.drop E2 by rw [hS, toL_ofL]] at HH
  have hread : read8 false D = shift E2 (read8 false (D.drop E2)) := by
    obtain ⟨k, r, e1, e2⟩ := hA1
    have e3 : D.drop E2 = r := by rw [e1, e2, List.drop_append_of_le_length (by rw [ahead_len]; exact Nat.le_refl _), List.drop_of_length_le (by rw [ahead_len]; exact Nat.le_refl _), List.nil_append]
    rw [e3, e2]
    exact read_behind e1
  have hzn := fun h' n' (q : read8 false (D.drop E2) = .done h' n') => (HeadFew.read_few q).1
  have hzl := fun h' n' (q : read8 false (D.drop E2) = .done h' n') => (read_front false _ h' n' q).1
  generalize read8 false (D.drop E2) = Z at *
  rw [← hS]
  have HM1 := Lib.hid (max_step HM.out hS1 hn)
  replace hD1 := Lib.hid hD1
  replace hS1 := Lib.hid hS1
  replace hA1 := Lib.hid hA1
  clear HE hS sS hn HM
  go_wp2_with fail
  refine HH.out.mono ?_
  rintro e w2 ⟨v, rfl, hrow, hb2⟩
  obtain ⟨vp, vc, hvv, hv1, hv2⟩ := fl_of hrow.1 (by have := hrow.2; omega)
  clear hv1 hv2
  subst hvv
  have hS2 := Lib.hid (hS1.out.trans (Step.of_below hb2 R))
  have hD2 := Lib.hid (hD1.out.below hb2)
  have HM2 := Lib.hid (HM1.out.below hb2)
  have HS := Lib.hid pstatus11_any
  have hw1 := Lib.hid hS1.out.size
  replace hrow := Lib.hid hrow
  clear HH hD1 hS1 HM1
  cases Z with
  | bad er =>
    have he : er ≠ 0 := read_err (s := D) hread
    have hR : read11 most D = .fail (status11 er) := by rw [read11_prog, show read8 false D = .bad er from hread]
    have hb := (Below.refl w2.heap.size w2).alloc (Nat.le_refl _) (.cells #[.string (ofL []), .string (ofL []), .int .i64 0, .string (ofL []), .int .i64 0, .slice vp 0 vc] 31)
    have HQ : Hid (∀ e, e = .returned (.int .i64 (status11 er)) → OpenR w (w2.alloc (.cells #[.string (ofL []), .string (ofL []), .int .i64 0, .string (ofL []), .int .i64 0, .slice vp 0 vc] 31)) e R g most T U) := Lib.hid (fun e q => hOR.out _ _ ⟨status11 er, E2, q, hA1.out, hS2.out.trans (Step.of_below hb R), .inl ⟨hD2.out.below hb, .inr ⟨status_pos er, hR⟩⟩⟩)
    have heb : (er != 0) = true := bne_iff_ne.2 he
    have h1 := Lib.hid (HS.out er)
    unfold hrv3 hv
    dsimp only [resH, resN, resE, zero8, List.length_nil]
    clear hzn hzl hread hR hb hOR hD2 hS2 HM2 hrow hA1 hE2 HS he hb2
    go_wp2_with fail
    refine (h1.out _).mono ?_
    rintro e w3 ⟨rfl, rfl⟩
    go_wp2_with fail
    go_ret
    exact HQ.out _ rfl
  | wait =>
    have hR : read11 most D = .wait := by rw [read11_prog, show read8 false D = .wait from hread]
    have hb := (Below.refl w2.heap.size w2).alloc (Nat.le_refl _) (.cells #[.string (ofL []), .string (ofL []), .int .i64 0, .string (ofL []), .int .i64 0, .slice vp 0 vc] 31)
    have HQ : Hid (OpenR w (w2.alloc (.cells #[.string (ofL []), .string (ofL []), .int .i64 0, .string (ofL []), .int .i64 0, .slice vp 0 vc] 31)) (.returned (.int .i64 0)) R g most T U) := Lib.hid (hOR.out _ _ ⟨0, E2, rfl, hA1.out, hS2.out.trans (Step.of_below hb R), .inl ⟨hD2.out.below hb, .inl ⟨rfl, hR⟩⟩⟩)
    unfold hrv3 hv
    dsimp only [resH, resN, resE, zero8, List.length_nil]
    clear hzn hzl hread hR hb hOR hD2 hS2 HM2 hrow hA1 hE2 HS hb2
    go_wp2_with fail
    go_ret
    exact HQ.out
  | done hd n =>
    have hR8 : read8 false D = .done hd (n + E2) := hread
    obtain ⟨n5, f32, fsh⟩ := HeadFew.read_few hR8
    obtain ⟨m0, tl, ml, sk⟩ := read_more hR8
    have hn5 := hzn hd n rfl
    have hnl := hzl hd n rfl
    rw [List.length_drop] at hnl
    have hRJ : read11 most D = after11 (judge11 hd most) (n + E2) most (D.drop (n + E2)) := by rw [read11_prog, hR8]
    have hfew : Few hd.fields := short_few fsh
    have hjb := fun s (q : judge11 hd most = .bad s) => judge_bad q
    have hjo := fun q k l (e : judge11 hd most = .ok q k l) => judge_ok e
    have hL3 : FL (w2.alloc (.cells #[.string (ofL hd.method), .string (ofL hd.target), .int .i64 hd.status, .string (ofL hd.reason), .int .i64 hd.minor, .slice vp hd.fields.length vc] 31)) (.slice vp hd.fields.length vc) hd.fields := (fl_of hrow.out.1 (by have := hrow.out.2; omega)).below ((Below.refl _ _).alloc (Nat.le_refl _) _)
    have hM3 : MaxInt (w2.alloc (.cells #[.string (ofL hd.method), .string (ofL hd.target), .int .i64 hd.status, .string (ofL hd.reason), .int .i64 hd.minor, .slice vp hd.fields.length vc] 31)) := HM2.out.below ((Below.refl _ _).alloc (Nat.le_refl _) _)
    have hD3 : Dat (w2.alloc (.cells #[.string (ofL hd.method), .string (ofL hd.target), .int .i64 hd.status, .string (ofL hd.reason), .int .i64 hd.minor, .slice vp hd.fields.length vc] 31)) R g most T U E2 none 0 := hD2.out.below ((Below.refl _ _).alloc (Nat.le_refl _) _)
    have hB3 : HBox (w2.alloc (.cells #[.string (ofL hd.method), .string (ofL hd.target), .int .i64 hd.status, .string (ofL hd.reason), .int .i64 hd.minor, .slice vp hd.fields.length vc] 31)) w2.heap.size hd (.slice vp hd.fields.length vc) := ⟨Has.new _ _ _⟩
    have hS3 := Lib.hid (hS2.out.trans (Step.of_below ((Below.refl w2.heap.size w2).alloc (Nat.le_refl _) (.cells #[.string (ofL hd.method), .string (ofL hd.target), .int .i64 hd.status, .string (ofL hd.reason), .int .i64 hd.minor, .slice vp hd.fields.length vc] 31)) R))
    have hrow3 : Hid (RowF (w2.alloc (.cells #[.string (ofL hd.method), .string (ofL hd.target), .int .i64 hd.status, .string (ofL hd.reason), .int .i64 hd.minor, .slice vp hd.fields.length vc] 31)) w1.heap.size (.slice vp hd.fields.length vc) hd.fields) := Lib.hid ⟨row_below hrow.out.1 ((Below.refl _ _).alloc (Nat.le_refl _) _), hrow.out.2⟩
    have hbl : w2.heap.size < (w2.alloc (.cells #[.string (ofL hd.method), .string (ofL hd.target), .int .i64 hd.status, .string (ofL hd.reason), .int .i64 hd.minor, .slice vp hd.fields.length vc] 31)).heap.size := by simp
    have hn0 : ((n : Int) == 0) = false := beq_eq_false_iff_ne.2 (by omega)
    unfold hrv3 hv
    dsimp only [resH, resN, resE]
    replace hread := Lib.hid hread
    clear hzn hzl hrow hD2 hS2 HM2 HS hb2
    go_wp2_with fail
    generalize w2.alloc (.cells #[.string (ofL hd.method), .string (ofL hd.target), .int .i64 hd.status, .string (ofL hd.reason), .int .i64 hd.minor, .slice vp hd.fields.length vc] 31) = W3 at hL3 hM3 hD3 hB3 hS3 hrow3 hbl ⊢
    generalize w2.heap.size = b at hB3 hbl ⊢
    have HJ : Hid (∀ W, Below W3.heap.size W3 W → Calls Tryz.prog 25 #[hv hd (.slice vp hd.fields.length vc), .int .i64 most] W fun e w' => e = .returned (jdV (judge11 hd most) (.slice vp hd.fields.length vc)) ∧ Below W.heap.size W w') := Lib.hid (fun W hW => pjudge11 hd (.slice vp hd.fields.length vc) most m0 hfew f32 tl W (hL3.below hW) (PUnder.MaxInt.below hM3 hW))
    generalize hJJ : judge11 hd most = J at *
    obtain ⟨jq, jk, jl, js, hjd, hjz, hj1, hJc⟩ := jd_parts J vp hd.fields.length vc hjb
    rw [hjd] at HJ
    unfold hv at HJ
    have HC0 : ∀ W, Below W3.heap.size W3 W → W.cell? ⟨g, 0, none⟩ = some (.int .i64 most) := fun W hW => (hD3.below hW).cells.1
    have HC1 : ∀ W, Below W3.heap.size W3 W → HBox W b hd (.slice vp hd.fields.length vc) := fun W hW => hB3.below hW hbl
    have hb0 : Below W3.heap.size W3 W3.drew := ⟨rfl, rfl, rfl, Nat.le_refl _, fun _ _ => rfl⟩
    replace hJc := Lib.hid hJc
    clear hjd hjb
    apply share
    case ways =>
      intro TAIL
      refine wp_region_held_drew (S := fun w' => Below W3.heap.size W3 w') (by kernel_rfl) hb0 (fun hHeld => ?_)
      refine wpAnyH_take (i := 0) (v := .agg #[.string (ofL hd.method), .string (ofL hd.target), .int .i64 hd.status, .string (ofL hd.reason), .int .i64 hd.minor, .slice vp hd.fields.length vc]) rfl (by kernel_rfl) (by kernel_rfl) (by kernel_rfl) (fun _ _ _ h => h) (Or.inl ⟨by rfl, (fun w hSw => by obtain ⟨d0, d1, d2, d3, d4, d5⟩ := (HC1 w hSw).cells; go_simp)⟩) hHeld ?_
      refine wpAnyH_take (i := 1) (v := .pointer (some ⟨g, 0, none⟩)) rfl (by kernel_rfl) (by kernel_rfl) (by kernel_rfl) (fun _ _ _ h => h) (Or.inl ⟨by rfl, (fun w _ => by go_simp)⟩) hHeld ?_
      refine wpAnyH_take (i := 2) (v := .pointer (some ⟨g, 0, none⟩)) rfl (by kernel_rfl) (by kernel_rfl) (by kernel_rfl) (fun _ _ _ h => h) (Or.inl ⟨by rfl, (fun w _ => by go_simp)⟩) hHeld ?_
      refine wpAnyH_take (i := 3) (v := .pointer (some ⟨g, 0, none⟩)) rfl (by kernel_rfl) (by kernel_rfl) (by kernel_rfl) (fun _ _ _ h => h) (Or.inl ⟨by rfl, (fun w _ => by go_simp)⟩) hHeld ?_
      refine wpAnyH_take (i := 4) (v := .int .i64 most) rfl (by kernel_rfl) (by kernel_rfl) (by kernel_rfl) (fun _ _ _ h => h) (Or.inl ⟨by rfl, (fun w hSw => by have c0 := HC0 w hSw; go_simp)⟩) hHeld ?_
      have hbz := Lib.hid hb0
      refine wpAnyH_ready (rs := [5, 10, 11]) (by kernel_rfl) (by simp) (AllReadyH.cons rfl (fun K hK => ?_) (AllReadyH.cons rfl (fun K hK => ?_) (AllReadyH.cons rfl (fun K hK => ?_) AllReadyH.nil)))
      · go_simp
        refine (HJ.out _ hbz.out).mono ?_
        rintro e w7 ⟨rfl, hb7⟩
        replace hbz := Lib.hid (below_chain hbz.out hb7)
        clear hb7
        refine hK.out _ _ hbz.out (fun hHeld => ?_)
        clear hK
        refine wpAnyH_take (i := 6) (v := .tuple #[.agg jq, .agg #[.int .i64 jk, .int .i64 jl], .int .i64 js]) rfl (by kernel_rfl) (by kernel_rfl) (by kernel_rfl) (fun _ _ _ h => h) (Or.inl ⟨by rfl, (fun w _ => by go_simp)⟩) hHeld ?_
        refine wpAnyH_take (i := 7) (v := .agg jq) rfl (by kernel_rfl) (by kernel_rfl) (by kernel_rfl) (fun _ _ _ h => h) (Or.inl ⟨by rfl, (fun w _ => by go_simp)⟩) hHeld ?_
        refine wpAnyH_take (i := 8) (v := .agg #[.int .i64 jk, .int .i64 jl]) rfl (by kernel_rfl) (by kernel_rfl) (by kernel_rfl) (fun _ _ _ h => h) (Or.inl ⟨by rfl, (fun w _ => by go_simp)⟩) hHeld ?_
        refine wpAnyH_take (i := 9) (v := .int .i64 js) rfl (by kernel_rfl) (by kernel_rfl) (by kernel_rfl) (fun _ _ _ h => h) (Or.inl ⟨by rfl, (fun w _ => by go_simp)⟩) hHeld ?_
        refine wpAnyH_ready (rs := [10, 11]) (by kernel_rfl) (by simp) (AllReadyH.cons rfl (fun K hK => ?_) (AllReadyH.cons rfl (fun K hK => ?_) AllReadyH.nil))
        · go_simp
          have N10 : Hid (Has (w7.alloc (.cells #[.string ⟨#[]⟩, .string ⟨#[]⟩, .int .i64 0, .string ⟨#[]⟩, .int .i64 0, .slice none 0 0, .int .i64 0, .string ⟨#[]⟩, .int .i64 0, .string ⟨#[]⟩, .string ⟨#[]⟩, .bool false, .string ⟨#[]⟩, .int .i64 0, .string ⟨#[]⟩, .bool false, .bool false, .string ⟨#[]⟩] RQT)) (w7.heap.size) RQT #[.string ⟨#[]⟩, .string ⟨#[]⟩, .int .i64 0, .string ⟨#[]⟩, .int .i64 0, .slice none 0 0, .int .i64 0, .string ⟨#[]⟩, .int .i64 0, .string ⟨#[]⟩, .string ⟨#[]⟩, .bool false, .string ⟨#[]⟩, .int .i64 0, .string ⟨#[]⟩, .bool false, .bool false, .string ⟨#[]⟩]) := Lib.hid (by
            have q := Has.new w7 RQT #[.string ⟨#[]⟩, .string ⟨#[]⟩, .int .i64 0, .string ⟨#[]⟩, .int .i64 0, .slice none 0 0, .int .i64 0, .string ⟨#[]⟩, .int .i64 0, .string ⟨#[]⟩, .string ⟨#[]⟩, .bool false, .string ⟨#[]⟩, .int .i64 0, .string ⟨#[]⟩, .bool false, .bool false, .string ⟨#[]⟩]
            exact q)
          have hbz10 : Hid (W3.heap.size ≤ w7.heap.size) := Lib.hid (by
            have q := hbz.out.size
            exact q)
          replace hbz := Lib.hid (hbz.out.alloc hbz.out.size (.cells #[.string ⟨#[]⟩, .string ⟨#[]⟩, .int .i64 0, .string ⟨#[]⟩, .int .i64 0, .slice none 0 0, .int .i64 0, .string ⟨#[]⟩, .int .i64 0, .string ⟨#[]⟩, .string ⟨#[]⟩, .bool false, .string ⟨#[]⟩, .int .i64 0, .string ⟨#[]⟩, .bool false, .bool false, .string ⟨#[]⟩] RQT))
          refine hK.out _ _ hbz.out (fun hHeld => ?_)
          clear hK
          refine wpAnyH_ready (rs := [11]) (by kernel_rfl) (by simp) (AllReadyH.cons rfl (fun K hK => ?_) AllReadyH.nil)
          · go_simp
            have N11 : Hid (Has ((w7.alloc (.cells #[.string ⟨#[]⟩, .string ⟨#[]⟩, .int .i64 0, .string ⟨#[]⟩, .int .i64 0, .slice none 0 0, .int .i64 0, .string ⟨#[]⟩, .int .i64 0, .string ⟨#[]⟩, .string ⟨#[]⟩, .bool false, .string ⟨#[]⟩, .int .i64 0, .string ⟨#[]⟩, .bool false, .bool false, .string ⟨#[]⟩] RQT)).alloc (.cells #[.int .i64 0, .int .i64 0] FRT)) (w7.heap.size + 1) FRT #[.int .i64 0, .int .i64 0]) := Lib.hid (by
              have q := Has.new (w7.alloc (.cells #[.string ⟨#[]⟩, .string ⟨#[]⟩, .int .i64 0, .string ⟨#[]⟩, .int .i64 0, .slice none 0 0, .int .i64 0, .string ⟨#[]⟩, .int .i64 0, .string ⟨#[]⟩, .string ⟨#[]⟩, .bool false, .string ⟨#[]⟩, .int .i64 0, .string ⟨#[]⟩, .bool false, .bool false, .string ⟨#[]⟩] RQT)) FRT #[.int .i64 0, .int .i64 0]
              rwa [World.size_alloc] at q)
            have hbz11 : Hid (W3.heap.size ≤ w7.heap.size + 1) := Lib.hid (by
              have q := hbz.out.size
              rwa [World.size_alloc] at q)
            have hne0 : Hid ((w7.heap.size) < w7.heap.size + 1) := Lib.hid (by
              have q := N10.out.lt
              rwa [World.size_alloc] at q)
            have N10a := Lib.hid (N10.out.alloc (.cells #[.int .i64 0, .int .i64 0] FRT))
            clear N10
            replace hbz := Lib.hid (hbz.out.alloc hbz.out.size (.cells #[.int .i64 0, .int .i64 0] FRT))
            refine hK.out _ _ hbz.out (fun hHeld => ?_)
            clear hK
            refine wpAnyH_ready (rs := [12]) (by kernel_rfl) (by simp) (AllReadyH.cons rfl (fun K hK => ?_) AllReadyH.nil)
            rw [if_pos (by rfl)]
            refine wp_store_row RQT (.tmp 6) (.tmp 29) rfl (w7.heap.size) jq rfl rfl RQT _ N10a.out.at_ (by rw [rq_size, hjz]) (by rw [hjz]; rfl) hj1 ?_
            have hlo := hbz10.out
            have hfl := hbz11.out
            have hne := (show w7.heap.size + 1 ≠ (w7.heap.size) by have := hne0.out; omega)
            have q1 := below_setRow hbz.out hlo jq
            refine hK.out _ _ q1 (fun hHeld => ?_)
            clear hK
            have p10 := PJudge.has_row N10a.out jq
            have p11 := PJudge.has_row_far N11.out hne jq
            refine wpAnyH_ready (rs := [13]) (by kernel_rfl) (by simp) (AllReadyH.cons rfl (fun K hK => ?_) AllReadyH.nil)
            rw [if_pos (by rfl)]
            refine wp_store_row FRT (.tmp 7) (.tmp 30) rfl (w7.heap.size + 1) #[.int .i64 jk, .int .i64 jl] rfl rfl FRT _ p11.at_ fr_size rfl (two_one _ _) ?_
            have q2 := below_setRow q1 hfl #[.int .i64 jk, .int .i64 jl]
            refine hK.out _ _ q2 (fun hHeld => ?_)
            clear hK
            refine wpAnyH_ready (rs := [14]) (by kernel_rfl) (by simp) (AllReadyH.cons rfl (fun K hK => ?_) AllReadyH.nil)
            go_simp
            refine hK.out _ _ q2 (fun hHeld => ?_)
            clear hK hHeld
            have HQ : RE W3 ((((w7.alloc (.cells #[.string ⟨#[]⟩, .string ⟨#[]⟩, .int .i64 0, .string ⟨#[]⟩, .int .i64 0, .slice none 0 0, .int .i64 0, .string ⟨#[]⟩, .int .i64 0, .string ⟨#[]⟩, .string ⟨#[]⟩, .bool false, .string ⟨#[]⟩, .int .i64 0, .string ⟨#[]⟩, .bool false, .bool false, .string ⟨#[]⟩] RQT)).alloc (.cells #[.int .i64 0, .int .i64 0] FRT)).setRow (w7.heap.size) jq).setRow (w7.heap.size + 1) #[.int .i64 jk, .int .i64 jl]) (w7.heap.size) (w7.heap.size + 1) jq jk jl := ⟨q2, PJudge.has_row_far p10 (fun e => hne e.symm) _, PJudge.has_row p11 _, hlo, hfl, hne⟩
            refine wpAnyH_done (by kernel_rfl) ?_ _
            generalize (((w7.alloc (.cells #[.string ⟨#[]⟩, .string ⟨#[]⟩, .int .i64 0, .string ⟨#[]⟩, .int .i64 0, .slice none 0 0, .int .i64 0, .string ⟨#[]⟩, .int .i64 0, .string ⟨#[]⟩, .string ⟨#[]⟩, .bool false, .string ⟨#[]⟩, .int .i64 0, .string ⟨#[]⟩, .bool false, .bool false, .string ⟨#[]⟩] RQT)).alloc (.cells #[.int .i64 0, .int .i64 0] FRT)).setRow (w7.heap.size) jq).setRow (w7.heap.size + 1) #[.int .i64 jk, .int .i64 jl] = W8 at HQ ⊢
            generalize (w7.heap.size + 1) = f8 at HQ ⊢
            generalize (w7.heap.size) = j8 at HQ ⊢
            revert HQ
            revert f8
            revert j8
            revert W8
            exact TAIL.out
        · go_simp
          have N11 : Hid (Has (w7.alloc (.cells #[.int .i64 0, .int .i64 0] FRT)) (w7.heap.size) FRT #[.int .i64 0, .int .i64 0]) := Lib.hid (by
            have q := Has.new w7 FRT #[.int .i64 0, .int .i64 0]
            exact q)
          have hbz11 : Hid (W3.heap.size ≤ w7.heap.size) := Lib.hid (by
            have q := hbz.out.size
            exact q)
          replace hbz := Lib.hid (hbz.out.alloc hbz.out.size (.cells #[.int .i64 0, .int .i64 0] FRT))
          refine hK.out _ _ hbz.out (fun hHeld => ?_)
          clear hK
          refine wpAnyH_ready (rs := [10]) (by kernel_rfl) (by simp) (AllReadyH.cons rfl (fun K hK => ?_) AllReadyH.nil)
          · go_simp
            have N10 : Hid (Has ((w7.alloc (.cells #[.int .i64 0, .int .i64 0] FRT)).alloc (.cells #[.string ⟨#[]⟩, .string ⟨#[]⟩, .int .i64 0, .string ⟨#[]⟩, .int .i64 0, .slice none 0 0, .int .i64 0, .string ⟨#[]⟩, .int .i64 0, .string ⟨#[]⟩, .string ⟨#[]⟩, .bool false, .string ⟨#[]⟩, .int .i64 0, .string ⟨#[]⟩, .bool false, .bool false, .string ⟨#[]⟩] RQT)) (w7.heap.size + 1) RQT #[.string ⟨#[]⟩, .string ⟨#[]⟩, .int .i64 0, .string ⟨#[]⟩, .int .i64 0, .slice none 0 0, .int .i64 0, .string ⟨#[]⟩, .int .i64 0, .string ⟨#[]⟩, .string ⟨#[]⟩, .bool false, .string ⟨#[]⟩, .int .i64 0, .string ⟨#[]⟩, .bool false, .bool false, .string ⟨#[]⟩]) := Lib.hid (by
              have q := Has.new (w7.alloc (.cells #[.int .i64 0, .int .i64 0] FRT)) RQT #[.string ⟨#[]⟩, .string ⟨#[]⟩, .int .i64 0, .string ⟨#[]⟩, .int .i64 0, .slice none 0 0, .int .i64 0, .string ⟨#[]⟩, .int .i64 0, .string ⟨#[]⟩, .string ⟨#[]⟩, .bool false, .string ⟨#[]⟩, .int .i64 0, .string ⟨#[]⟩, .bool false, .bool false, .string ⟨#[]⟩]
              rwa [World.size_alloc] at q)
            have hbz10 : Hid (W3.heap.size ≤ w7.heap.size + 1) := Lib.hid (by
              have q := hbz.out.size
              rwa [World.size_alloc] at q)
            have hne0 : Hid ((w7.heap.size) < w7.heap.size + 1) := Lib.hid (by
              have q := N11.out.lt
              rwa [World.size_alloc] at q)
            have N11a := Lib.hid (N11.out.alloc (.cells #[.string ⟨#[]⟩, .string ⟨#[]⟩, .int .i64 0, .string ⟨#[]⟩, .int .i64 0, .slice none 0 0, .int .i64 0, .string ⟨#[]⟩, .int .i64 0, .string ⟨#[]⟩, .string ⟨#[]⟩, .bool false, .string ⟨#[]⟩, .int .i64 0, .string ⟨#[]⟩, .bool false, .bool false, .string ⟨#[]⟩] RQT))
            clear N11
            replace hbz := Lib.hid (hbz.out.alloc hbz.out.size (.cells #[.string ⟨#[]⟩, .string ⟨#[]⟩, .int .i64 0, .string ⟨#[]⟩, .int .i64 0, .slice none 0 0, .int .i64 0, .string ⟨#[]⟩, .int .i64 0, .string ⟨#[]⟩, .string ⟨#[]⟩, .bool false, .string ⟨#[]⟩, .int .i64 0, .string ⟨#[]⟩, .bool false, .bool false, .string ⟨#[]⟩] RQT))
            refine hK.out _ _ hbz.out (fun hHeld => ?_)
            clear hK
            refine wpAnyH_ready (rs := [12]) (by kernel_rfl) (by simp) (AllReadyH.cons rfl (fun K hK => ?_) AllReadyH.nil)
            rw [if_pos (by rfl)]
            refine wp_store_row RQT (.tmp 6) (.tmp 29) rfl (w7.heap.size + 1) jq rfl rfl RQT _ N10.out.at_ (by rw [rq_size, hjz]) (by rw [hjz]; rfl) hj1 ?_
            have hlo := hbz10.out
            have hfl := hbz11.out
            have hne := (show (w7.heap.size) ≠ w7.heap.size + 1 by have := hne0.out; omega)
            have q1 := below_setRow hbz.out hlo jq
            refine hK.out _ _ q1 (fun hHeld => ?_)
            clear hK
            have p10 := PJudge.has_row N10.out jq
            have p11 := PJudge.has_row_far N11a.out hne jq
            refine wpAnyH_ready (rs := [13]) (by kernel_rfl) (by simp) (AllReadyH.cons rfl (fun K hK => ?_) AllReadyH.nil)
            rw [if_pos (by rfl)]
            refine wp_store_row FRT (.tmp 7) (.tmp 30) rfl (w7.heap.size) #[.int .i64 jk, .int .i64 jl] rfl rfl FRT _ p11.at_ fr_size rfl (two_one _ _) ?_
            have q2 := below_setRow q1 hfl #[.int .i64 jk, .int .i64 jl]
            refine hK.out _ _ q2 (fun hHeld => ?_)
            clear hK
            refine wpAnyH_ready (rs := [14]) (by kernel_rfl) (by simp) (AllReadyH.cons rfl (fun K hK => ?_) AllReadyH.nil)
            go_simp
            refine hK.out _ _ q2 (fun hHeld => ?_)
            clear hK hHeld
            have HQ : RE W3 ((((w7.alloc (.cells #[.int .i64 0, .int .i64 0] FRT)).alloc (.cells #[.string ⟨#[]⟩, .string ⟨#[]⟩, .int .i64 0, .string ⟨#[]⟩, .int .i64 0, .slice none 0 0, .int .i64 0, .string ⟨#[]⟩, .int .i64 0, .string ⟨#[]⟩, .string ⟨#[]⟩, .bool false, .string ⟨#[]⟩, .int .i64 0, .string ⟨#[]⟩, .bool false, .bool false, .string ⟨#[]⟩] RQT)).setRow (w7.heap.size + 1) jq).setRow (w7.heap.size) #[.int .i64 jk, .int .i64 jl]) (w7.heap.size + 1) (w7.heap.size) jq jk jl := ⟨q2, PJudge.has_row_far p10 (fun e => hne e.symm) _, PJudge.has_row p11 _, hlo, hfl, hne⟩
            refine wpAnyH_done (by kernel_rfl) ?_ _
            generalize (((w7.alloc (.cells #[.int .i64 0, .int .i64 0] FRT)).alloc (.cells #[.string ⟨#[]⟩, .string ⟨#[]⟩, .int .i64 0, .string ⟨#[]⟩, .int .i64 0, .slice none 0 0, .int .i64 0, .string ⟨#[]⟩, .int .i64 0, .string ⟨#[]⟩, .string ⟨#[]⟩, .bool false, .string ⟨#[]⟩, .int .i64 0, .string ⟨#[]⟩, .bool false, .bool false, .string ⟨#[]⟩] RQT)).setRow (w7.heap.size + 1) jq).setRow (w7.heap.size) #[.int .i64 jk, .int .i64 jl] = W8 at HQ ⊢
            generalize (w7.heap.size + 1) = j8 at HQ ⊢
            generalize (w7.heap.size) = f8 at HQ ⊢
            revert HQ
            revert f8
            revert j8
            revert W8
            exact TAIL.out
      · go_simp
        have N10 : Hid (Has (W3.drew.alloc (.cells #[.string ⟨#[]⟩, .string ⟨#[]⟩, .int .i64 0, .string ⟨#[]⟩, .int .i64 0, .slice none 0 0, .int .i64 0, .string ⟨#[]⟩, .int .i64 0, .string ⟨#[]⟩, .string ⟨#[]⟩, .bool false, .string ⟨#[]⟩, .int .i64 0, .string ⟨#[]⟩, .bool false, .bool false, .string ⟨#[]⟩] RQT)) (W3.heap.size) RQT #[.string ⟨#[]⟩, .string ⟨#[]⟩, .int .i64 0, .string ⟨#[]⟩, .int .i64 0, .slice none 0 0, .int .i64 0, .string ⟨#[]⟩, .int .i64 0, .string ⟨#[]⟩, .string ⟨#[]⟩, .bool false, .string ⟨#[]⟩, .int .i64 0, .string ⟨#[]⟩, .bool false, .bool false, .string ⟨#[]⟩]) := Lib.hid (by
          have q := Has.new W3.drew RQT #[.string ⟨#[]⟩, .string ⟨#[]⟩, .int .i64 0, .string ⟨#[]⟩, .int .i64 0, .slice none 0 0, .int .i64 0, .string ⟨#[]⟩, .int .i64 0, .string ⟨#[]⟩, .string ⟨#[]⟩, .bool false, .string ⟨#[]⟩, .int .i64 0, .string ⟨#[]⟩, .bool false, .bool false, .string ⟨#[]⟩]
          exact q)
        have hbz10 : Hid (W3.heap.size ≤ W3.heap.size) := Lib.hid (by
          have q := hbz.out.size
          exact q)
        replace hbz := Lib.hid (hbz.out.alloc hbz.out.size (.cells #[.string ⟨#[]⟩, .string ⟨#[]⟩, .int .i64 0, .string ⟨#[]⟩, .int .i64 0, .slice none 0 0, .int .i64 0, .string ⟨#[]⟩, .int .i64 0, .string ⟨#[]⟩, .string ⟨#[]⟩, .bool false, .string ⟨#[]⟩, .int .i64 0, .string ⟨#[]⟩, .bool false, .bool false, .string ⟨#[]⟩] RQT))
        refine hK.out _ _ hbz.out (fun hHeld => ?_)
        clear hK
        refine wpAnyH_ready (rs := [5, 11]) (by kernel_rfl) (by simp) (AllReadyH.cons rfl (fun K hK => ?_) (AllReadyH.cons rfl (fun K hK => ?_) AllReadyH.nil))
        · go_simp
          refine (HJ.out _ hbz.out).mono ?_
          rintro e w7 ⟨rfl, hb7⟩
          have N10c := Lib.hid (N10.out.below hb7 N10.out.lt)
          clear N10
          replace hbz := Lib.hid (below_chain hbz.out hb7)
          clear hb7
          refine hK.out _ _ hbz.out (fun hHeld => ?_)
          clear hK
          refine wpAnyH_take (i := 6) (v := .tuple #[.agg jq, .agg #[.int .i64 jk, .int .i64 jl], .int .i64 js]) rfl (by kernel_rfl) (by kernel_rfl) (by kernel_rfl) (fun _ _ _ h => h) (Or.inl ⟨by rfl, (fun w _ => by go_simp)⟩) hHeld ?_
          refine wpAnyH_take (i := 7) (v := .agg jq) rfl (by kernel_rfl) (by kernel_rfl) (by kernel_rfl) (fun _ _ _ h => h) (Or.inl ⟨by rfl, (fun w _ => by go_simp)⟩) hHeld ?_
          refine wpAnyH_take (i := 8) (v := .agg #[.int .i64 jk, .int .i64 jl]) rfl (by kernel_rfl) (by kernel_rfl) (by kernel_rfl) (fun _ _ _ h => h) (Or.inl ⟨by rfl, (fun w _ => by go_simp)⟩) hHeld ?_
          refine wpAnyH_take (i := 9) (v := .int .i64 js) rfl (by kernel_rfl) (by kernel_rfl) (by kernel_rfl) (fun _ _ _ h => h) (Or.inl ⟨by rfl, (fun w _ => by go_simp)⟩) hHeld ?_
          refine wpAnyH_ready (rs := [11]) (by kernel_rfl) (by simp) (AllReadyH.cons rfl (fun K hK => ?_) AllReadyH.nil)
          · go_simp
            have N11 : Hid (Has (w7.alloc (.cells #[.int .i64 0, .int .i64 0] FRT)) (w7.heap.size) FRT #[.int .i64 0, .int .i64 0]) := Lib.hid (by
              have q := Has.new w7 FRT #[.int .i64 0, .int .i64 0]
              exact q)
            have hbz11 : Hid (W3.heap.size ≤ w7.heap.size) := Lib.hid (by
              have q := hbz.out.size
              exact q)
            have hne0 : Hid ((W3.heap.size) < w7.heap.size) := Lib.hid (by
              have q := N10c.out.lt
              exact q)
            have N10ca := Lib.hid (N10c.out.alloc (.cells #[.int .i64 0, .int .i64 0] FRT))
            clear N10c
            replace hbz := Lib.hid (hbz.out.alloc hbz.out.size (.cells #[.int .i64 0, .int .i64 0] FRT))
            refine hK.out _ _ hbz.out (fun hHeld => ?_)
            clear hK
            refine wpAnyH_ready (rs := [12]) (by kernel_rfl) (by simp) (AllReadyH.cons rfl (fun K hK => ?_) AllReadyH.nil)
            rw [if_pos (by rfl)]
            refine wp_store_row RQT (.tmp 6) (.tmp 29) rfl (W3.heap.size) jq rfl rfl RQT _ N10ca.out.at_ (by rw [rq_size, hjz]) (by rw [hjz]; rfl) hj1 ?_
            have hlo := hbz10.out
            have hfl := hbz11.out
            have hne := (show w7.heap.size ≠ (W3.heap.size) by have := hne0.out; omega)
            have q1 := below_setRow hbz.out hlo jq
            refine hK.out _ _ q1 (fun hHeld => ?_)
            clear hK
            have p10 := PJudge.has_row N10ca.out jq
            have p11 := PJudge.has_row_far N11.out hne jq
            refine wpAnyH_ready (rs := [13]) (by kernel_rfl) (by simp) (AllReadyH.cons rfl (fun K hK => ?_) AllReadyH.nil)
            rw [if_pos (by rfl)]
            refine wp_store_row FRT (.tmp 7) (.tmp 30) rfl (w7.heap.size) #[.int .i64 jk, .int .i64 jl] rfl rfl FRT _ p11.at_ fr_size rfl (two_one _ _) ?_
            have q2 := below_setRow q1 hfl #[.int .i64 jk, .int .i64 jl]
            refine hK.out _ _ q2 (fun hHeld => ?_)
            clear hK
            refine wpAnyH_ready (rs := [14]) (by kernel_rfl) (by simp) (AllReadyH.cons rfl (fun K hK => ?_) AllReadyH.nil)
            go_simp
            refine hK.out _ _ q2 (fun hHeld => ?_)
            clear hK hHeld
            have HQ : RE W3 (((w7.alloc (.cells #[.int .i64 0, .int .i64 0] FRT)).setRow (W3.heap.size) jq).setRow (w7.heap.size) #[.int .i64 jk, .int .i64 jl]) (W3.heap.size) (w7.heap.size) jq jk jl := ⟨q2, PJudge.has_row_far p10 (fun e => hne e.symm) _, PJudge.has_row p11 _, hlo, hfl, hne⟩
            refine wpAnyH_done (by kernel_rfl) ?_ _
            generalize ((w7.alloc (.cells #[.int .i64 0, .int .i64 0] FRT)).setRow (W3.heap.size) jq).setRow (w7.heap.size) #[.int .i64 jk, .int .i64 jl] = W8 at HQ ⊢
            generalize (w7.heap.size) = f8 at HQ ⊢
            generalize (W3.heap.size) = j8 at HQ ⊢
            revert HQ
            revert f8
            revert j8
            revert W8
            exact TAIL.out
        · go_simp
          have N11 : Hid (Has ((W3.drew.alloc (.cells #[.string ⟨#[]⟩, .string ⟨#[]⟩, .int .i64 0, .string ⟨#[]⟩, .int .i64 0, .slice none 0 0, .int .i64 0, .string ⟨#[]⟩, .int .i64 0, .string ⟨#[]⟩, .string ⟨#[]⟩, .bool false, .string ⟨#[]⟩, .int .i64 0, .string ⟨#[]⟩, .bool false, .bool false, .string ⟨#[]⟩] RQT)).alloc (.cells #[.int .i64 0, .int .i64 0] FRT)) (W3.heap.size + 1) FRT #[.int .i64 0, .int .i64 0]) := Lib.hid (by
            have q := Has.new (W3.drew.alloc (.cells #[.string ⟨#[]⟩, .string ⟨#[]⟩, .int .i64 0, .string ⟨#[]⟩, .int .i64 0, .slice none 0 0, .int .i64 0, .string ⟨#[]⟩, .int .i64 0, .string ⟨#[]⟩, .string ⟨#[]⟩, .bool false, .string ⟨#[]⟩, .int .i64 0, .string ⟨#[]⟩, .bool false, .bool false, .string ⟨#[]⟩] RQT)) FRT #[.int .i64 0, .int .i64 0]
            rwa [World.size_alloc] at q)
          have hbz11 : Hid (W3.heap.size ≤ W3.heap.size + 1) := Lib.hid (by
            have q := hbz.out.size
            rwa [World.size_alloc] at q)
          have hne0 : Hid ((W3.heap.size) < W3.heap.size + 1) := Lib.hid (by
            have q := N10.out.lt
            rwa [World.size_alloc] at q)
          have N10a := Lib.hid (N10.out.alloc (.cells #[.int .i64 0, .int .i64 0] FRT))
          clear N10
          replace hbz := Lib.hid (hbz.out.alloc hbz.out.size (.cells #[.int .i64 0, .int .i64 0] FRT))
          refine hK.out _ _ hbz.out (fun hHeld => ?_)
          clear hK
          refine wpAnyH_ready (rs := [5]) (by kernel_rfl) (by simp) (AllReadyH.cons rfl (fun K hK => ?_) AllReadyH.nil)
          · go_simp
            refine (HJ.out _ hbz.out).mono ?_
            rintro e w7 ⟨rfl, hb7⟩
            have N10ac := Lib.hid (N10a.out.below hb7 N10a.out.lt)
            clear N10a
            have N11c := Lib.hid (N11.out.below hb7 N11.out.lt)
            clear N11
            replace hbz := Lib.hid (below_chain hbz.out hb7)
            clear hb7
            refine hK.out _ _ hbz.out (fun hHeld => ?_)
            clear hK
            refine wpAnyH_take (i := 6) (v := .tuple #[.agg jq, .agg #[.int .i64 jk, .int .i64 jl], .int .i64 js]) rfl (by kernel_rfl) (by kernel_rfl) (by kernel_rfl) (fun _ _ _ h => h) (Or.inl ⟨by rfl, (fun w _ => by go_simp)⟩) hHeld ?_
            refine wpAnyH_take (i := 8) (v := .agg #[.int .i64 jk, .int .i64 jl]) rfl (by kernel_rfl) (by kernel_rfl) (by kernel_rfl) (fun _ _ _ h => h) (Or.inl ⟨by rfl, (fun w _ => by go_simp)⟩) hHeld ?_
            refine wpAnyH_take (i := 9) (v := .int .i64 js) rfl (by kernel_rfl) (by kernel_rfl) (by kernel_rfl) (fun _ _ _ h => h) (Or.inl ⟨by rfl, (fun w _ => by go_simp)⟩) hHeld ?_
            refine wpAnyH_ready (rs := [7]) (by kernel_rfl) (by simp) (AllReadyH.cons rfl (fun K hK => ?_) AllReadyH.nil)
            go_simp
            refine hK.out _ _ hbz.out (fun hHeld => ?_)
            clear hK
            refine wpAnyH_ready (rs := [12]) (by kernel_rfl) (by simp) (AllReadyH.cons rfl (fun K hK => ?_) AllReadyH.nil)
            rw [if_pos (by rfl)]
            refine wp_store_row RQT (.tmp 6) (.tmp 29) rfl (W3.heap.size) jq rfl rfl RQT _ N10ac.out.at_ (by rw [rq_size, hjz]) (by rw [hjz]; rfl) hj1 ?_
            have hlo := hbz10.out
            have hfl := hbz11.out
            have hne := (show W3.heap.size + 1 ≠ (W3.heap.size) by have := hne0.out; omega)
            have q1 := below_setRow hbz.out hlo jq
            refine hK.out _ _ q1 (fun hHeld => ?_)
            clear hK
            have p10 := PJudge.has_row N10ac.out jq
            have p11 := PJudge.has_row_far N11c.out hne jq
            refine wpAnyH_ready (rs := [13]) (by kernel_rfl) (by simp) (AllReadyH.cons rfl (fun K hK => ?_) AllReadyH.nil)
            rw [if_pos (by rfl)]
            refine wp_store_row FRT (.tmp 7) (.tmp 30) rfl (W3.heap.size + 1) #[.int .i64 jk, .int .i64 jl] rfl rfl FRT _ p11.at_ fr_size rfl (two_one _ _) ?_
            have q2 := below_setRow q1 hfl #[.int .i64 jk, .int .i64 jl]
            refine hK.out _ _ q2 (fun hHeld => ?_)
            clear hK
            refine wpAnyH_ready (rs := [14]) (by kernel_rfl) (by simp) (AllReadyH.cons rfl (fun K hK => ?_) AllReadyH.nil)
            go_simp
            refine hK.out _ _ q2 (fun hHeld => ?_)
            clear hK hHeld
            have HQ : RE W3 ((w7.setRow (W3.heap.size) jq).setRow (W3.heap.size + 1) #[.int .i64 jk, .int .i64 jl]) (W3.heap.size) (W3.heap.size + 1) jq jk jl := ⟨q2, PJudge.has_row_far p10 (fun e => hne e.symm) _, PJudge.has_row p11 _, hlo, hfl, hne⟩
            refine wpAnyH_done (by kernel_rfl) ?_ _
            generalize (w7.setRow (W3.heap.size) jq).setRow (W3.heap.size + 1) #[.int .i64 jk, .int .i64 jl] = W8 at HQ ⊢
            generalize (W3.heap.size + 1) = f8 at HQ ⊢
            generalize (W3.heap.size) = j8 at HQ ⊢
            revert HQ
            revert f8
            revert j8
            revert W8
            exact TAIL.out
      · go_simp
        have N11 : Hid (Has (W3.drew.alloc (.cells #[.int .i64 0, .int .i64 0] FRT)) (W3.heap.size) FRT #[.int .i64 0, .int .i64 0]) := Lib.hid (by
          have q := Has.new W3.drew FRT #[.int .i64 0, .int .i64 0]
          exact q)
        have hbz11 : Hid (W3.heap.size ≤ W3.heap.size) := Lib.hid (by
          have q := hbz.out.size
          exact q)
        replace hbz := Lib.hid (hbz.out.alloc hbz.out.size (.cells #[.int .i64 0, .int .i64 0] FRT))
        refine hK.out _ _ hbz.out (fun hHeld => ?_)
        clear hK
        refine wpAnyH_ready (rs := [5, 10]) (by kernel_rfl) (by simp) (AllReadyH.cons rfl (fun K hK => ?_) (AllReadyH.cons rfl (fun K hK => ?_) AllReadyH.nil))
        · go_simp
          refine (HJ.out _ hbz.out).mono ?_
          rintro e w7 ⟨rfl, hb7⟩
          have N11c := Lib.hid (N11.out.below hb7 N11.out.lt)
          clear N11
          replace hbz := Lib.hid (below_chain hbz.out hb7)
          clear hb7
          refine hK.out _ _ hbz.out (fun hHeld => ?_)
          clear hK
          refine wpAnyH_take (i := 6) (v := .tuple #[.agg jq, .agg #[.int .i64 jk, .int .i64 jl], .int .i64 js]) rfl (by kernel_rfl) (by kernel_rfl) (by kernel_rfl) (fun _ _ _ h => h) (Or.inl ⟨by rfl, (fun w _ => by go_simp)⟩) hHeld ?_
          refine wpAnyH_take (i := 7) (v := .agg jq) rfl (by kernel_rfl) (by kernel_rfl) (by kernel_rfl) (fun _ _ _ h => h) (Or.inl ⟨by rfl, (fun w _ => by go_simp)⟩) hHeld ?_
          refine wpAnyH_take (i := 8) (v := .agg #[.int .i64 jk, .int .i64 jl]) rfl (by kernel_rfl) (by kernel_rfl) (by kernel_rfl) (fun _ _ _ h => h) (Or.inl ⟨by rfl, (fun w _ => by go_simp)⟩) hHeld ?_
          refine wpAnyH_take (i := 9) (v := .int .i64 js) rfl (by kernel_rfl) (by kernel_rfl) (by kernel_rfl) (fun _ _ _ h => h) (Or.inl ⟨by rfl, (fun w _ => by go_simp)⟩) hHeld ?_
          refine wpAnyH_ready (rs := [10]) (by kernel_rfl) (by simp) (AllReadyH.cons rfl (fun K hK => ?_) AllReadyH.nil)
          · go_simp
            have N10 : Hid (Has (w7.alloc (.cells #[.string ⟨#[]⟩, .string ⟨#[]⟩, .int .i64 0, .string ⟨#[]⟩, .int .i64 0, .slice none 0 0, .int .i64 0, .string ⟨#[]⟩, .int .i64 0, .string ⟨#[]⟩, .string ⟨#[]⟩, .bool false, .string ⟨#[]⟩, .int .i64 0, .string ⟨#[]⟩, .bool false, .bool false, .string ⟨#[]⟩] RQT)) (w7.heap.size) RQT #[.string ⟨#[]⟩, .string ⟨#[]⟩, .int .i64 0, .string ⟨#[]⟩, .int .i64 0, .slice none 0 0, .int .i64 0, .string ⟨#[]⟩, .int .i64 0, .string ⟨#[]⟩, .string ⟨#[]⟩, .bool false, .string ⟨#[]⟩, .int .i64 0, .string ⟨#[]⟩, .bool false, .bool false, .string ⟨#[]⟩]) := Lib.hid (by
              have q := Has.new w7 RQT #[.string ⟨#[]⟩, .string ⟨#[]⟩, .int .i64 0, .string ⟨#[]⟩, .int .i64 0, .slice none 0 0, .int .i64 0, .string ⟨#[]⟩, .int .i64 0, .string ⟨#[]⟩, .string ⟨#[]⟩, .bool false, .string ⟨#[]⟩, .int .i64 0, .string ⟨#[]⟩, .bool false, .bool false, .string ⟨#[]⟩]
              exact q)
            have hbz10 : Hid (W3.heap.size ≤ w7.heap.size) := Lib.hid (by
              have q := hbz.out.size
              exact q)
            have hne0 : Hid ((W3.heap.size) < w7.heap.size) := Lib.hid (by
              have q := N11c.out.lt
              exact q)
            have N11ca := Lib.hid (N11c.out.alloc (.cells #[.string ⟨#[]⟩, .string ⟨#[]⟩, .int .i64 0, .string ⟨#[]⟩, .int .i64 0, .slice none 0 0, .int .i64 0, .string ⟨#[]⟩, .int .i64 0, .string ⟨#[]⟩, .string ⟨#[]⟩, .bool false, .string ⟨#[]⟩, .int .i64 0, .string ⟨#[]⟩, .bool false, .bool false, .string ⟨#[]⟩] RQT))
            clear N11c
            replace hbz := Lib.hid (hbz.out.alloc hbz.out.size (.cells #[.string ⟨#[]⟩, .string ⟨#[]⟩, .int .i64 0, .string ⟨#[]⟩, .int .i64 0, .slice none 0 0, .int .i64 0, .string ⟨#[]⟩, .int .i64 0, .string ⟨#[]⟩, .string ⟨#[]⟩, .bool false, .string ⟨#[]⟩, .int .i64 0, .string ⟨#[]⟩, .bool false, .bool false, .string ⟨#[]⟩] RQT))
            refine hK.out _ _ hbz.out (fun hHeld => ?_)
            clear hK
            refine wpAnyH_ready (rs := [12]) (by kernel_rfl) (by simp) (AllReadyH.cons rfl (fun K hK => ?_) AllReadyH.nil)
            rw [if_pos (by rfl)]
            refine wp_store_row RQT (.tmp 6) (.tmp 29) rfl (w7.heap.size) jq rfl rfl RQT _ N10.out.at_ (by rw [rq_size, hjz]) (by rw [hjz]; rfl) hj1 ?_
            have hlo := hbz10.out
            have hfl := hbz11.out
            have hne := (show (W3.heap.size) ≠ w7.heap.size by have := hne0.out; omega)
            have q1 := below_setRow hbz.out hlo jq
            refine hK.out _ _ q1 (fun hHeld => ?_)
            clear hK
            have p10 := PJudge.has_row N10.out jq
            have p11 := PJudge.has_row_far N11ca.out hne jq
            refine wpAnyH_ready (rs := [13]) (by kernel_rfl) (by simp) (AllReadyH.cons rfl (fun K hK => ?_) AllReadyH.nil)
            rw [if_pos (by rfl)]
            refine wp_store_row FRT (.tmp 7) (.tmp 30) rfl (W3.heap.size) #[.int .i64 jk, .int .i64 jl] rfl rfl FRT _ p11.at_ fr_size rfl (two_one _ _) ?_
            have q2 := below_setRow q1 hfl #[.int .i64 jk, .int .i64 jl]
            refine hK.out _ _ q2 (fun hHeld => ?_)
            clear hK
            refine wpAnyH_ready (rs := [14]) (by kernel_rfl) (by simp) (AllReadyH.cons rfl (fun K hK => ?_) AllReadyH.nil)
            go_simp
            refine hK.out _ _ q2 (fun hHeld => ?_)
            clear hK hHeld
            have HQ : RE W3 (((w7.alloc (.cells #[.string ⟨#[]⟩, .string ⟨#[]⟩, .int .i64 0, .string ⟨#[]⟩, .int .i64 0, .slice none 0 0, .int .i64 0, .string ⟨#[]⟩, .int .i64 0, .string ⟨#[]⟩, .string ⟨#[]⟩, .bool false, .string ⟨#[]⟩, .int .i64 0, .string ⟨#[]⟩, .bool false, .bool false, .string ⟨#[]⟩] RQT)).setRow (w7.heap.size) jq).setRow (W3.heap.size) #[.int .i64 jk, .int .i64 jl]) (w7.heap.size) (W3.heap.size) jq jk jl := ⟨q2, PJudge.has_row_far p10 (fun e => hne e.symm) _, PJudge.has_row p11 _, hlo, hfl, hne⟩
            refine wpAnyH_done (by kernel_rfl) ?_ _
            generalize ((w7.alloc (.cells #[.string ⟨#[]⟩, .string ⟨#[]⟩, .int .i64 0, .string ⟨#[]⟩, .int .i64 0, .slice none 0 0, .int .i64 0, .string ⟨#[]⟩, .int .i64 0, .string ⟨#[]⟩, .string ⟨#[]⟩, .bool false, .string ⟨#[]⟩, .int .i64 0, .string ⟨#[]⟩, .bool false, .bool false, .string ⟨#[]⟩] RQT)).setRow (w7.heap.size) jq).setRow (W3.heap.size) #[.int .i64 jk, .int .i64 jl] = W8 at HQ ⊢
            generalize (W3.heap.size) = f8 at HQ ⊢
            generalize (w7.heap.size) = j8 at HQ ⊢
            revert HQ
            revert f8
            revert j8
            revert W8
            exact TAIL.out
        · go_simp
          have N10 : Hid (Has ((W3.drew.alloc (.cells #[.int .i64 0, .int .i64 0] FRT)).alloc (.cells #[.string ⟨#[]⟩, .string ⟨#[]⟩, .int .i64 0, .string ⟨#[]⟩, .int .i64 0, .slice none 0 0, .int .i64 0, .string ⟨#[]⟩, .int .i64 0, .string ⟨#[]⟩, .string ⟨#[]⟩, .bool false, .string ⟨#[]⟩, .int .i64 0, .string ⟨#[]⟩, .bool false, .bool false, .string ⟨#[]⟩] RQT)) (W3.heap.size + 1) RQT #[.string ⟨#[]⟩, .string ⟨#[]⟩, .int .i64 0, .string ⟨#[]⟩, .int .i64 0, .slice none 0 0, .int .i64 0, .string ⟨#[]⟩, .int .i64 0, .string ⟨#[]⟩, .string ⟨#[]⟩, .bool false, .string ⟨#[]⟩, .int .i64 0, .string ⟨#[]⟩, .bool false, .bool false, .string ⟨#[]⟩]) := Lib.hid (by
            have q := Has.new (W3.drew.alloc (.cells #[.int .i64 0, .int .i64 0] FRT)) RQT #[.string ⟨#[]⟩, .string ⟨#[]⟩, .int .i64 0, .string ⟨#[]⟩, .int .i64 0, .slice none 0 0, .int .i64 0, .string ⟨#[]⟩, .int .i64 0, .string ⟨#[]⟩, .string ⟨#[]⟩, .bool false, .string ⟨#[]⟩, .int .i64 0, .string ⟨#[]⟩, .bool false, .bool false, .string ⟨#[]⟩]
            rwa [World.size_alloc] at q)
          have hbz10 : Hid (W3.heap.size ≤ W3.heap.size + 1) := Lib.hid (by
            have q := hbz.out.size
            rwa [World.size_alloc] at q)
          have hne0 : Hid ((W3.heap.size) < W3.heap.size + 1) := Lib.hid (by
            have q := N11.out.lt
            rwa [World.size_alloc] at q)
          have N11a := Lib.hid (N11.out.alloc (.cells #[.string ⟨#[]⟩, .string ⟨#[]⟩, .int .i64 0, .string ⟨#[]⟩, .int .i64 0, .slice none 0 0, .int .i64 0, .string ⟨#[]⟩, .int .i64 0, .string ⟨#[]⟩, .string ⟨#[]⟩, .bool false, .string ⟨#[]⟩, .int .i64 0, .string ⟨#[]⟩, .bool false, .bool false, .string ⟨#[]⟩] RQT))
          clear N11
          replace hbz := Lib.hid (hbz.out.alloc hbz.out.size (.cells #[.string ⟨#[]⟩, .string ⟨#[]⟩, .int .i64 0, .string ⟨#[]⟩, .int .i64 0, .slice none 0 0, .int .i64 0, .string ⟨#[]⟩, .int .i64 0, .string ⟨#[]⟩, .string ⟨#[]⟩, .bool false, .string ⟨#[]⟩, .int .i64 0, .string ⟨#[]⟩, .bool false, .bool false, .string ⟨#[]⟩] RQT))
          refine hK.out _ _ hbz.out (fun hHeld => ?_)
          clear hK
          refine wpAnyH_ready (rs := [5]) (by kernel_rfl) (by simp) (AllReadyH.cons rfl (fun K hK => ?_) AllReadyH.nil)
          · go_simp
            refine (HJ.out _ hbz.out).mono ?_
            rintro e w7 ⟨rfl, hb7⟩
            have N10c := Lib.hid (N10.out.below hb7 N10.out.lt)
            clear N10
            have N11ac := Lib.hid (N11a.out.below hb7 N11a.out.lt)
            clear N11a
            replace hbz := Lib.hid (below_chain hbz.out hb7)
            clear hb7
            refine hK.out _ _ hbz.out (fun hHeld => ?_)
            clear hK
            refine wpAnyH_take (i := 6) (v := .tuple #[.agg jq, .agg #[.int .i64 jk, .int .i64 jl], .int .i64 js]) rfl (by kernel_rfl) (by kernel_rfl) (by kernel_rfl) (fun _ _ _ h => h) (Or.inl ⟨by rfl, (fun w _ => by go_simp)⟩) hHeld ?_
            refine wpAnyH_take (i := 8) (v := .agg #[.int .i64 jk, .int .i64 jl]) rfl (by kernel_rfl) (by kernel_rfl) (by kernel_rfl) (fun _ _ _ h => h) (Or.inl ⟨by rfl, (fun w _ => by go_simp)⟩) hHeld ?_
            refine wpAnyH_take (i := 9) (v := .int .i64 js) rfl (by kernel_rfl) (by kernel_rfl) (by kernel_rfl) (fun _ _ _ h => h) (Or.inl ⟨by rfl, (fun w _ => by go_simp)⟩) hHeld ?_
            refine wpAnyH_ready (rs := [7]) (by kernel_rfl) (by simp) (AllReadyH.cons rfl (fun K hK => ?_) AllReadyH.nil)
            go_simp
            refine hK.out _ _ hbz.out (fun hHeld => ?_)
            clear hK
            refine wpAnyH_ready (rs := [12]) (by kernel_rfl) (by simp) (AllReadyH.cons rfl (fun K hK => ?_) AllReadyH.nil)
            rw [if_pos (by rfl)]
            refine wp_store_row RQT (.tmp 6) (.tmp 29) rfl (W3.heap.size + 1) jq rfl rfl RQT _ N10c.out.at_ (by rw [rq_size, hjz]) (by rw [hjz]; rfl) hj1 ?_
            have hlo := hbz10.out
            have hfl := hbz11.out
            have hne := (show (W3.heap.size) ≠ W3.heap.size + 1 by have := hne0.out; omega)
            have q1 := below_setRow hbz.out hlo jq
            refine hK.out _ _ q1 (fun hHeld => ?_)
            clear hK
            have p10 := PJudge.has_row N10c.out jq
            have p11 := PJudge.has_row_far N11ac.out hne jq
            refine wpAnyH_ready (rs := [13]) (by kernel_rfl) (by simp) (AllReadyH.cons rfl (fun K hK => ?_) AllReadyH.nil)
            rw [if_pos (by rfl)]
            refine wp_store_row FRT (.tmp 7) (.tmp 30) rfl (W3.heap.size) #[.int .i64 jk, .int .i64 jl] rfl rfl FRT _ p11.at_ fr_size rfl (two_one _ _) ?_
            have q2 := below_setRow q1 hfl #[.int .i64 jk, .int .i64 jl]
            refine hK.out _ _ q2 (fun hHeld => ?_)
            clear hK
            refine wpAnyH_ready (rs := [14]) (by kernel_rfl) (by simp) (AllReadyH.cons rfl (fun K hK => ?_) AllReadyH.nil)
            go_simp
            refine hK.out _ _ q2 (fun hHeld => ?_)
            clear hK hHeld
            have HQ : RE W3 ((w7.setRow (W3.heap.size + 1) jq).setRow (W3.heap.size) #[.int .i64 jk, .int .i64 jl]) (W3.heap.size + 1) (W3.heap.size) jq jk jl := ⟨q2, PJudge.has_row_far p10 (fun e => hne e.symm) _, PJudge.has_row p11 _, hlo, hfl, hne⟩
            refine wpAnyH_done (by kernel_rfl) ?_ _
            generalize (w7.setRow (W3.heap.size + 1) jq).setRow (W3.heap.size) #[.int .i64 jk, .int .i64 jl] = W8 at HQ ⊢
            generalize (W3.heap.size + 1) = j8 at HQ ⊢
            generalize (W3.heap.size) = f8 at HQ ⊢
            revert HQ
            revert f8
            revert j8
            revert W8
            exact TAIL.out
    case tail =>
      intro W8 j8 f8 HQ
      rcases hJc.out with ⟨hjs, hJb⟩ | ⟨hjs, q, hJo, hjq⟩
      · have hjsb : (js != 0) = true := bne_iff_ne.2 hjs
        have HF : Hid (OpenR w W8 (.returned (.int .i64 js)) R g most T U) := Lib.hid (hOR.out _ _ ⟨js, E2, rfl, hA1.out, hS3.out.trans (Step.of_below HQ.below R), .inl ⟨hD3.below HQ.below, .inr ⟨hjs, by rw [hRJ, hJb]; rfl⟩⟩⟩)
        clear HQ hJb hjs hJc hRJ hOR hD3 hB3 hS3 hrow3 hL3 hM3 HJ HC0 HC1 hjo hj1 hjz
        go_wp2_with fail
        go_ret
        exact HF.out
      subst hjs
      obtain ⟨hqh, hqb, hqk, hql⟩ := hjo q jk jl hJo
      clear hqb hql
      replace hqh := Lib.hid hqh
      replace hqk := Lib.hid hqk
      unfold qcl at hjq
      subst hjq
      have D8 := hD3.below HQ.below
      have c4 := D8.cells.2.2.1
      have hE2l : E2 ≤ D.length := hA1.out.le
      have b1 : (0 : Int) ≤ (E2 : Int) + (n : Int) := by omega
      have b2 : (E2 : Int) + (n : Int) ≤ 4294967296 := by omega
      have kw : IntKind.i64.wrap ((E2 : Int) + (n : Int)) = (E2 : Int) + (n : Int) := IntWalk.i64_in _ (by omega)
      have hOE : Hid (OE W3 (((W8.alloc (.cells #[.string (ofL q.head.method), .string (ofL q.head.target), .int .i64 q.head.status, .string (ofL q.head.reason), .int .i64 q.head.minor, .slice vp hd.fields.length vc, .int .i64 q.target.form, .string (ofL q.target.host), .int .i64 q.target.port, .string (ofL q.target.path), .string (ofL q.target.query), .bool q.target.has, .string (ofL q.host), .int .i64 q.port, .string (ofL q.body), .bool q.sized, .bool q.keep, .string (ofL q.upgrade), .int .i64 jk, .int .i64 jl, .int .i64 ((E2 : Int) + (n : Int)), .pointer none, .pointer none, .slice none 0 0] OT)).setCell ⟨g, 5, none⟩ (.pointer (some ⟨W8.heap.size, 0, none⟩))).drew) R g most T U E2 W8.heap.size f8 #[.string (ofL q.head.method), .string (ofL q.head.target), .int .i64 q.head.status, .string (ofL q.head.reason), .int .i64 q.head.minor, .slice vp hd.fields.length vc, .int .i64 q.target.form, .string (ofL q.target.host), .int .i64 q.target.port, .string (ofL q.target.path), .string (ofL q.target.query), .bool q.target.has, .string (ofL q.host), .int .i64 q.port, .string (ofL q.body), .bool q.sized, .bool q.keep, .string (ofL q.upgrade), .int .i64 jk, .int .i64 jl, .int .i64 ((E2 : Int) + (n : Int)), .pointer none, .pointer none, .slice none 0 0] jk jl) := Lib.hid (OE.make hD3 HQ)
      have D9 := D8.below (((Below.refl W8.heap.size W8).drew).alloc (Nat.le_refl _) (.cells #[.string (ofL q.head.method), .string (ofL q.head.target), .int .i64 q.head.status, .string (ofL q.head.reason), .int .i64 q.head.minor, .slice vp hd.fields.length vc, .int .i64 q.target.form, .string (ofL q.target.host), .int .i64 q.target.port, .string (ofL q.target.path), .string (ofL q.target.query), .bool q.target.has, .string (ofL q.host), .int .i64 q.port, .string (ofL q.body), .bool q.sized, .bool q.keep, .string (ofL q.upgrade), .int .i64 jk, .int .i64 jl, .int .i64 ((E2 : Int) + (n : Int)), .pointer none, .pointer none, .slice none 0 0] OT))
      have c5 : ((W8.alloc (.cells #[.string (ofL q.head.method), .string (ofL q.head.target), .int .i64 q.head.status, .string (ofL q.head.reason), .int .i64 q.head.minor, .slice vp hd.fields.length vc, .int .i64 q.target.form, .string (ofL q.target.host), .int .i64 q.target.port, .string (ofL q.target.path), .string (ofL q.target.query), .bool q.target.has, .string (ofL q.host), .int .i64 q.port, .string (ofL q.body), .bool q.sized, .bool q.keep, .string (ofL q.upgrade), .int .i64 jk, .int .i64 jl, .int .i64 ((E2 : Int) + (n : Int)), .pointer none, .pointer none, .slice none 0 0] OT)).drew).cell? ⟨g, 5, none⟩ = some (opV none) := D9.cells.2.2.2.1
      have c49 := D9.cells.2.2.1
      have z5 : ((W8.alloc (.cells #[.string (ofL q.head.method), .string (ofL q.head.target), .int .i64 q.head.status, .string (ofL q.head.reason), .int .i64 q.head.minor, .slice vp hd.fields.length vc, .int .i64 q.target.form, .string (ofL q.target.host), .int .i64 q.target.port, .string (ofL q.target.path), .string (ofL q.target.query), .bool q.target.has, .string (ofL q.host), .int .i64 q.port, .string (ofL q.body), .bool q.sized, .bool q.keep, .string (ofL q.upgrade), .int .i64 jk, .int .i64 jl, .int .i64 ((E2 : Int) + (n : Int)), .pointer none, .pointer none, .slice none 0 0] OT)).drew).frozen? ⟨g, 5, none⟩ = false := D9.free 5
      have hj9 := (HQ.row.drew).alloc (.cells #[.string (ofL q.head.method), .string (ofL q.head.target), .int .i64 q.head.status, .string (ofL q.head.reason), .int .i64 q.head.minor, .slice vp hd.fields.length vc, .int .i64 q.target.form, .string (ofL q.target.host), .int .i64 q.target.port, .string (ofL q.target.path), .string (ofL q.target.query), .bool q.target.has, .string (ofL q.host), .int .i64 q.port, .string (ofL q.body), .bool q.sized, .bool q.keep, .string (ofL q.upgrade), .int .i64 jk, .int .i64 jl, .int .i64 ((E2 : Int) + (n : Int)), .pointer none, .pointer none, .slice none 0 0] OT)
      have hf9 := (HQ.frm.drew).alloc (.cells #[.string (ofL q.head.method), .string (ofL q.head.target), .int .i64 q.head.status, .string (ofL q.head.reason), .int .i64 q.head.minor, .slice vp hd.fields.length vc, .int .i64 q.target.form, .string (ofL q.target.host), .int .i64 q.target.port, .string (ofL q.target.path), .string (ofL q.target.query), .bool q.target.has, .string (ofL q.host), .int .i64 q.port, .string (ofL q.body), .bool q.sized, .bool q.keep, .string (ofL q.upgrade), .int .i64 jk, .int .i64 jl, .int .i64 ((E2 : Int) + (n : Int)), .pointer none, .pointer none, .slice none 0 0] OT)
      have hgl := hD3.lt g hD3.mine
      have c410 := hOE.out.dat.cells.2.2.1
      have hj10 : Hid (Has (((W8.alloc (.cells #[.string (ofL q.head.method), .string (ofL q.head.target), .int .i64 q.head.status, .string (ofL q.head.reason), .int .i64 q.head.minor, .slice vp hd.fields.length vc, .int .i64 q.target.form, .string (ofL q.target.host), .int .i64 q.target.port, .string (ofL q.target.path), .string (ofL q.target.query), .bool q.target.has, .string (ofL q.host), .int .i64 q.port, .string (ofL q.body), .bool q.sized, .bool q.keep, .string (ofL q.upgrade), .int .i64 jk, .int .i64 jl, .int .i64 ((E2 : Int) + (n : Int)), .pointer none, .pointer none, .slice none 0 0] OT)).setCell ⟨g, 5, none⟩ (.pointer (some ⟨W8.heap.size, 0, none⟩))).drew) j8 RQT #[.string (ofL q.head.method), .string (ofL q.head.target), .int .i64 q.head.status, .string (ofL q.head.reason), .int .i64 q.head.minor, .slice vp hd.fields.length vc, .int .i64 q.target.form, .string (ofL q.target.host), .int .i64 q.target.port, .string (ofL q.target.path), .string (ofL q.target.query), .bool q.target.has, .string (ofL q.host), .int .i64 q.port, .string (ofL q.body), .bool q.sized, .bool q.keep, .string (ofL q.upgrade)]) := Lib.hid (hj9.far (by show j8 ≠ g; have := HQ.jlo; omega) _)
      have hj8 := Lib.hid HQ.row.drew
      have hf8 := Lib.hid HQ.frm.drew
      unfold opV at c5
      replace hj9 := Lib.hid hj9
      replace hf9 := Lib.hid hf9
      replace c410 := Lib.hid c410
      replace c49 := Lib.hid c49
      have c48 : Hid (W8.drew.cell? ⟨g, 4, none⟩ = some (.int .i64 (E2 : Int))) := Lib.hid c4
      clear hE2 sk HC0 HC1 HJ hjo hj1 hjz hL3 hM3 hB3 D8 D9 hJc c4 hE2l
      go_wp2_with fail
      refine wp_region_held_drew (S := fun w' => Has w' j8 RQT #[.string (ofL q.head.method), .string (ofL q.head.target), .int .i64 q.head.status, .string (ofL q.head.reason), .int .i64 q.head.minor, .slice vp hd.fields.length vc, .int .i64 q.target.form, .string (ofL q.target.host), .int .i64 q.target.port, .string (ofL q.target.path), .string (ofL q.target.query), .bool q.target.has, .string (ofL q.host), .int .i64 q.port, .string (ofL q.body), .bool q.sized, .bool q.keep, .string (ofL q.upgrade)] ∧ Has w' f8 FRT #[.int .i64 jk, .int .i64 jl] ∧ w'.cell? ⟨g, 4, none⟩ = some (.int .i64 (E2 : Int))) (by kernel_rfl) ⟨hj8.out, hf8.out, c48.out⟩ (fun hHeld => ?_)
      refine wpAnyH_take (i := 0) (v := .pointer (some ⟨g, 0, none⟩)) rfl (by kernel_rfl) (by kernel_rfl) (by kernel_rfl) (fun _ _ _ h => h) (Or.inl ⟨by rfl, (fun w _ => by go_simp)⟩) hHeld ?_
      refine wpAnyH_take (i := 1) (v := .agg #[.string (ofL q.head.method), .string (ofL q.head.target), .int .i64 q.head.status, .string (ofL q.head.reason), .int .i64 q.head.minor, .slice vp hd.fields.length vc, .int .i64 q.target.form, .string (ofL q.target.host), .int .i64 q.target.port, .string (ofL q.target.path), .string (ofL q.target.query), .bool q.target.has, .string (ofL q.host), .int .i64 q.port, .string (ofL q.body), .bool q.sized, .bool q.keep, .string (ofL q.upgrade)]) rfl (by kernel_rfl) (by kernel_rfl) (by kernel_rfl) (fun _ _ _ h => h) (yields_row (by rfl) (.tmp 6) rfl j8 rfl _ rfl (fun w h => h.1)) hHeld ?_
      refine wpAnyH_take (i := 2) (v := .agg #[.int .i64 jk, .int .i64 jl]) rfl (by kernel_rfl) (by kernel_rfl) (by kernel_rfl) (fun _ _ _ h => h) (yields_frm (by rfl) (.tmp 7) rfl f8 rfl _ _ (fun w h => h.2.1)) hHeld ?_
      refine wpAnyH_take (i := 3) (v := .pointer (some ⟨g, 0, none⟩)) rfl (by kernel_rfl) (by kernel_rfl) (by kernel_rfl) (fun _ _ _ h => h) (Or.inl ⟨by rfl, (fun w _ => by go_simp)⟩) hHeld ?_
      refine wpAnyH_take (i := 4) (v := .pointer (some ⟨g, 0, none⟩)) rfl (by kernel_rfl) (by kernel_rfl) (by kernel_rfl) (fun _ _ _ h => h) (Or.inl ⟨by rfl, (fun w _ => by go_simp)⟩) hHeld ?_
      refine wpAnyH_take (i := 5) (v := .pointer (some ⟨g, 4, none⟩)) rfl (by kernel_rfl) (by kernel_rfl) (by kernel_rfl) (fun _ _ _ h => h) (Or.inl ⟨by rfl, (fun w _ => by go_simp)⟩) hHeld ?_
      refine wpAnyH_take (i := 6) (v := .int .i64 (E2 : Int)) rfl (by kernel_rfl) (by kernel_rfl) (by kernel_rfl) (fun _ _ _ h => h) (Or.inl ⟨by rfl, (fun w hSw => by have c4 := hSw.2.2; go_simp)⟩) hHeld ?_
      refine wpAnyH_take (i := 7) (v := .int .i64 (n : Int)) rfl (by kernel_rfl) (by kernel_rfl) (by kernel_rfl) (fun _ _ _ h => h) (Or.inl ⟨by rfl, (fun w _ => by go_simp)⟩) hHeld ?_
      refine wpAnyH_take (i := 8) (v := .int .i64 ((E2 : Int) + (n : Int))) rfl (by kernel_rfl) (by kernel_rfl) (by kernel_rfl) (fun _ _ _ h => h) (Or.inl ⟨by rfl, (fun w _ => by go_simp)⟩) hHeld ?_
      refine wpAnyH_take (i := 9) (v := .agg #[.string (ofL q.head.method), .string (ofL q.head.target), .int .i64 q.head.status, .string (ofL q.head.reason), .int .i64 q.head.minor, .slice vp hd.fields.length vc, .int .i64 q.target.form, .string (ofL q.target.host), .int .i64 q.target.port, .string (ofL q.target.path), .string (ofL q.target.query), .bool q.target.has, .string (ofL q.host), .int .i64 q.port, .string (ofL q.body), .bool q.sized, .bool q.keep, .string (ofL q.upgrade), .int .i64 jk, .int .i64 jl, .int .i64 ((E2 : Int) + (n : Int)), .pointer none, .pointer none, .slice none 0 0]) rfl (by kernel_rfl) (by kernel_rfl) (by kernel_rfl) (fun _ _ _ h => h) (Or.inl ⟨by rfl, (fun w _ => by go_simp)⟩) hHeld ?_
      refine wpAnyH_ready (rs := [10]) (by kernel_rfl) (by simp) (AllReadyH.cons rfl (fun K hK => ?_) AllReadyH.nil)
      go_simp
      refine hK.out _ _ ⟨hj9.out, hf9.out, c49.out⟩ (fun hHeld => ?_)
      clear hK
      refine wpAnyH_take (i := 11) (v := .pointer (some ⟨g, 0, none⟩)) rfl (by kernel_rfl) (by kernel_rfl) (by kernel_rfl) (fun _ _ _ h => h) (Or.inl ⟨by rfl, (fun w _ => by go_simp)⟩) hHeld ?_
      refine wpAnyH_take (i := 12) (v := .pointer (some ⟨g, 5, none⟩)) rfl (by kernel_rfl) (by kernel_rfl) (by kernel_rfl) (fun _ _ _ h => h) (Or.inl ⟨by rfl, (fun w _ => by go_simp)⟩) hHeld ?_
      refine wpAnyH_ready (rs := [13]) (by kernel_rfl) (by simp) (AllReadyH.cons rfl (fun K hK => ?_) AllReadyH.nil)
      go_simp
      refine hK.out _ _ ⟨hj10.out, hOE.out.frm, c410.out⟩ (fun hHeld => ?_)
      clear hK hHeld c5 z5 hj9 hf9 hj10 c49 c48 c410 hj8 hf8
      refine wpAnyH_done (by kernel_rfl) ?_ _
      generalize ((W8.alloc (.cells #[.string (ofL q.head.method), .string (ofL q.head.target), .int .i64 q.head.status, .string (ofL q.head.reason), .int .i64 q.head.minor, .slice vp hd.fields.length vc, .int .i64 q.target.form, .string (ofL q.target.host), .int .i64 q.target.port, .string (ofL q.target.path), .string (ofL q.target.query), .bool q.target.has, .string (ofL q.host), .int .i64 q.port, .string (ofL q.body), .bool q.sized, .bool q.keep, .string (ofL q.upgrade), .int .i64 jk, .int .i64 jl, .int .i64 ((E2 : Int) + (n : Int)), .pointer none, .pointer none, .slice none 0 0] OT)).setCell ⟨g, 5, none⟩ (.pointer (some ⟨W8.heap.size, 0, none⟩))).drew = W10 at hOE ⊢
      generalize W8.heap.size = hh at hOE ⊢
      have hrd : ((n + E2 : Nat) : Int) = (E2 : Int) + (n : Int) := by omega
      have hwW : w.heap.size ≤ W3.heap.size := hS3.out.size
      have hown : ∀ j, (Value.slice vp hd.fields.length vc).ownBlock = some j → w1.heap.size ≤ j := fun j hj => (hrow3.out.1.lt j hj).1
      have hlt10 : ∀ j, (Value.slice vp hd.fields.length vc).ownBlock = some j → j < W3.heap.size := fun j hj => (hrow3.out.1.lt j hj).2
      have hRown : ∀ j, (Value.slice vp hd.fields.length vc).ownBlock = some j → ¬ R j := fun j hj hr2 => by
        have h1 := hown j hj
        have h2 := hRl.out j hr2
        have h3 := hw1.out
        omega
      have hrow10 : RowF W10 0 (.slice vp hd.fields.length vc) q.head.fields := by
        rw [hqh.out]
        exact row_step ⟨row_mono hrow3.out.1 (Nat.zero_le _), hrow3.out.2⟩ hOE.out.step hRown
      have hJ10 : judge11 hd most = .ok q jk jl := by rw [hJJ, hJo]
      have hhR : ¬ R hh := fun hr2 => by
        have h2 := hRl.out hh hr2
        have h3 := hOE.out.lo
        omega
      have hwn : w.heap.size ≤ hh := Nat.le_trans hwW hOE.out.lo
      have e0 := (hOE.out.frm.cell 0).trans rfl
      by_cases h3 : jk = 3
      · have h3b : (jk == 3) = true := by rw [h3]; rfl
        have c5 : W10.drew.cell? ⟨g, 5, none⟩ = some (.pointer (some ⟨hh, 0, none⟩)) := hOE.out.dat.cells.2.2.2.1
        have c0 : W10.drew.cell? ⟨g, 0, none⟩ = some (.int .i64 most) := hOE.out.dat.cells.1
        have HN := Lib.hid (pnew_any most hr W10.drew rfl)
        have HF : Hid (∀ w11 gd G, Dec w11 G gd (begin_ most) → (∀ k, G k → W10.heap.size ≤ k) → Below W10.heap.size W10.drew w11 →
            OpenR w (w11.setCell ⟨hh, 21, none⟩ (.pointer (some ⟨gd, 0, none⟩))) (.returned (.int .i64 0)) R g most T U ∧ w11.cell? ⟨hh, 21, none⟩ = some (.pointer none) ∧ w11.frozen? ⟨hh, 21, none⟩ = false ∧
            (w11.cell? ⟨g, 5, none⟩ = some (.pointer (some ⟨hh, 0, none⟩)) ∧ w11.cell? ⟨g, 0, none⟩ = some (.int .i64 most)) ∧
            ((w11.setCell ⟨hh, 21, none⟩ (.pointer (some ⟨gd, 0, none⟩))).cell? ⟨g, 5, none⟩ = some (.pointer (some ⟨hh, 0, none⟩)) ∧ (w11.setCell ⟨hh, 21, none⟩ (.pointer (some ⟨gd, 0, none⟩))).cell? ⟨g, 0, none⟩ = some (.int .i64 most))) := Lib.hid (fun w11 gd G hD hG hb0 => by
          have hb : Below W10.heap.size W10 w11 := ((Below.refl _ W10).drew).trans hb0
          have d11 := hOE.out.dat.below hb
          have h11 := hOE.out.has.below hb hOE.out.has.lt
          have hgh : g ≠ hh := fun e => hhR (by rw [← e]; exact hOE.out.dat.mine)
          have s12 : Step w11 (w11.setCell ⟨hh, 21, none⟩ (.pointer (some ⟨gd, 0, none⟩))) (fun k => k = hh) (fun k => k = hh) := Step.set_ (F := fun k => k = hh) w11 rfl 21 _
          have d12 := d11.step s12 (fun k hk e => hhR (by rw [← e]; exact hk))
          have h12 := h11.set_ 21 (.pointer (some ⟨gd, 0, none⟩))
          have r11 : RowF w11 0 (.slice vp hd.fields.length vc) q.head.fields := ⟨row_below hrow10.1 hb, hrow10.2⟩
          have hho : ∀ j, (Value.slice vp hd.fields.length vc).ownBlock = some j → j ≠ hh := fun j hj => by
            have := hlt10 j hj
            have := hOE.out.lo
            omega
          have r12 := row_step r11 s12 hho
          have hGh : ∀ k, G k → k ≠ hh := fun k hk => by
            have h1 := hG k hk
            have h2 := hOE.out.has.lt
            omega
          have D12 := hD.step s12 (fun k hk e => hGh k hk e)
          have hO : Opn (w11.setCell ⟨hh, 21, none⟩ (.pointer (some ⟨gd, 0, none⟩))) _ hh most D := opn_chunk (q := q) (l := .slice vp hd.fields.length vc) (n := n + E2) (jk := jk) (jl := jl) (gd := gd) (by unfold ocl; rw [hrd]; exact h12) r12 hR8 hJ10 h3 D12 (fun k hk => ⟨hGh k hk, fun e => by
            have h1 := hG k hk
            have h2 := hlt10 k e
            have h4 := hOE.out.step.size
            omega⟩)
          have q1 : Step W3 (w11.setCell ⟨hh, 21, none⟩ (.pointer (some ⟨gd, 0, none⟩))) R R := (hOE.out.step.trans (Step.of_below hb R)).beyond s12 (fun j hj => by rw [hj]; exact hOE.out.lo)
          refine ⟨hOR.out _ _ ⟨0, E2, rfl, hA1.out, hS3.out.trans q1, .inr ⟨rfl, hh, _, d12, hO, fun k hk => ?_⟩⟩, (h11.cell 21).trans rfl, h11.free 21, ⟨d11.cells.2.2.2.1, d11.cells.1⟩, ⟨d12.cells.2.2.2.1, d12.cells.1⟩⟩
          rcases hk with hk | hk | hk
          · rw [hk]; exact hwn
          · exact Nat.le_trans hw1.out (hown k hk)
          · have h1 := hG k hk
            have h4 := hOE.out.step.size
            omega)
        clear hOE hOR hrow10 hJ10 hhR hwn hown hlt10 hRown hD3 hrow3 hS3 hrd hwW hR8 hRJ
        go_wp2_with fail
        go_region_held3 (fun w' => w'.cell? ⟨g, 5, none⟩ = some (.pointer (some ⟨hh, 0, none⟩)) ∧ w'.cell? ⟨g, 0, none⟩ = some (.int .i64 most)) (first | exact s2 | exact s1 | exact ⟨c5, c0⟩)
          (first
            | (go_at_call 26; refine HN.out.mono ?_; rintro e w11 ⟨⟨gd, G, rfl, hDec, hG⟩, hb11⟩
               obtain ⟨hFin, c21, z21, s1, s2⟩ := HF.out w11 gd G hDec hG hb11
               replace hFin := Lib.hid hFin
               clear hDec hG hb11 HN HF))
        go_wp2_with fail
        go_ret
        exact hFin.out
      · have h3b : (jk == 3) = false := beq_eq_false_iff_ne.2 h3
        have HF : Hid (OpenR w W10 (.returned (.int .i64 0)) R g most T U) := Lib.hid (by
          have hO : Opn W10 _ hh most D := opn_plain (q := q) (l := .slice vp hd.fields.length vc) (n := n + E2) (jk := jk) (jl := jl) (by unfold ocl; rw [hrd]; exact hOE.out.has) hrow10 hR8 hJ10 h3
          refine hOR.out _ _ ⟨0, E2, rfl, hA1.out, hS3.out.trans hOE.out.step, .inr ⟨rfl, hh, _, hOE.out.dat, hO, fun k hk => ?_⟩⟩
          rcases hk with hk | hk
          · rw [hk]; exact hwn
          · exact Nat.le_trans hw1.out (hown k hk))
        clear hOE hOR hrow10 hJ10 hhR hwn hown hlt10 hRown hD3 hrow3 hS3 hrd hwW hR8 hRJ
        go_wp2_with fail
        go_ret
        exact HF.out
end Go.Proofs.YtmlpdhmafmdkcaaGreatDoor.POpen11

/- Layer 11 of the program: readLength, readChunks, readBody. -/
namespace Go.Proofs.YtmlpdhmafmdkcaaGreatDoor.PBody11
open Go.ChangeShapes Go.WideShapes Go.ChangeAt Go.RowKit LexPure Bytes Ret FieldsPure HeadPure FramePure ChunkPure ChunkObj InflowPure InJudge KeptRow Mem Step InEmb InObj PText11
set_option maxRecDepth 100000
set_option linter.unusedVariables false
set_option linter.unusedSimpArgs false
theorem ret_b {a b : Value} (h : a = b) : Ending.returned a = .returned b := by rw [h]
/-- a request that is whole: block h, its fields' row l, rd bytes of the connection -/
structure Fin (w : World) (O : Nat → Prop) (h : Nat) (q : Rq) (rd : Nat) : Prop where
  is : ∃ l kind len dp p v body, Emb w h 22 OT (ocl q l kind len rd dp p v) p v body ∧ RowF w 0 l q.head.fields ∧ ∀ j, l.ownBlock = some j → O j
  mine : O h
  lt : ∀ k, O k → k < w.heap.size
/-- what reading the body leaves, of the bytes D -/
def BodyR (w w' : World) (e : Ending) (O : Nat → Prop) (h : Nat) (most : Int) (D : List UInt8) : Prop :=
  ∃ whole er O', e = .returned (.tuple #[.bool whole, .int .i64 er]) ∧ Step w w' O O' ∧
    ((er ≠ 0 ∧ read11 most D = .fail (InflowPure.status11 er)) ∨ (er = 0 ∧ whole = false ∧ read11 most D = .wait ∧ Opn w' O' h most D) ∨ (er = 0 ∧ whole = true ∧ ∃ q rd, read11 most D = .whole q rd ∧ rd ≤ D.length ∧ Fin w' O' h q rd))
/-! ### by its length -/
def LenR (w w' : World) (e : Ending) (O : Nat → Prop) (h : Nat) (q : Rq) (n : Nat) (len : Int) (D : List UInt8) : Prop :=
  ∃ whole, e = .returned (.bool whole) ∧ ((whole = false ∧ ((D.drop n).length : Int) < len ∧ w' = w) ∨ (whole = true ∧ ¬ ((D.drop n).length : Int) < len ∧ Fin w' O h { q with body := (D.drop n).take len.toNat } (n + len.toNat) ∧ Step w w' O O))
set_option maxHeartbeats 3200000 in
theorem plength11 {w : World} {O : Nat → Prop} {h : Nat} {q : Rq} {l : Value} {kind len : Int} {n : Nat} {dp p v : Value} {body : List UInt8} {D : List UInt8}
    (hE : Emb w h 22 OT (ocl q l kind len n dp p v) p v body) (hrow : RowF w 0 l q.head.fields) (hl : ∀ j, l.ownBlock = some j → O j ∧ j ≠ h) (hO : O h) (hlt : ∀ k, O k → k < w.heap.size) (hn : n ≤ D.length) (hD : D.length ≤ 4294967296) (h0 : 0 ≤ len) :
    Calls Tryz.prog 27 #[.pointer (some ⟨h, 0, none⟩), .string (ofL D)] w fun e w' => LenR w w' e O h q n len D := by
  have c20 : w.cell? ⟨h, 20, none⟩ = some (.int .i64 (n : Int)) := (hE.has.cell 20).trans rfl
  have c19 : w.cell? ⟨h, 19, none⟩ = some (.int .i64 len) := (hE.has.cell 19).trans rfl
  have c14 : w.cell? ⟨h, 14, none⟩ = some (.string (ofL q.body)) := (hE.has.cell 14).trans rfl
  have z14 := hE.has.free 14
  have z20 := hE.has.free 20
  obtain ⟨S, hS⟩ : ∃ S, S = ofL D := ⟨_, rfl⟩
  have sS : S.size = D.length := by rw [hS, ofL_size]
  obtain ⟨P, hP⟩ : ∃ P, P = S.extract n S.size := ⟨_, rfl⟩
  have hPd : P = ofL (D.drop n) := by rw [hP, hS]; exact ofL_drop D n hn
  have sP : P.size = (D.drop n).length := by rw [hPd, ofL_size]
  have hni : (n : Int) ≤ (S.size : Int) := by omega
  have hsi : (S.size : Int) ≤ 4294967296 := by omega
  have hpi : (P.size : Int) ≤ 4294967296 := by rw [sP, List.length_drop]; omega
  rw [← hS]
  by_cases hlen : ((D.drop n).length : Int) < len
  · have hc : (P.size : Int) < len := by omega
    have HF : Hid (LenR w w (.returned (.bool false)) O h q n len D) := Lib.hid ⟨false, rfl, .inl ⟨rfl, hlen, rfl⟩⟩
    replace hP := hP.symm
    clear hE hrow hl hO hlt hlen hPd sP sS hS
    go_enter Tryz.func27, Tryz.ntmps27
    go_wp2_with fail
    go_ret
    exact HF.out
  · have hc : ¬ (P.size : Int) < len := by omega
    obtain ⟨k, hk⟩ : ∃ k : Nat, len = (k : Int) := ⟨len.toNat, by omega⟩
    subst hk
    have hkP : k ≤ P.size := by omega
    obtain ⟨B, hB⟩ : ∃ B, B = P.extract 0 k := ⟨_, rfl⟩
    have hBd : B = ofL ((D.drop n).take k) := by
      apply toL_inj
      rw [hB, toL_extract, hPd, toL_ofL, toL_ofL, List.drop_zero]
    have b1 : (0 : Int) ≤ (n : Int) + (k : Int) := by omega
    have b2 : (n : Int) + (k : Int) ≤ 18446744073 := by omega
    have HF : Hid (LenR w (((w.setCell ⟨h, 14, none⟩ (.string B)).drew).setCell ⟨h, 20, none⟩ (.int .i64 ((n : Int) + (k : Int)))) (.returned (.bool true)) O h q n (k : Int) D) := Lib.hid (by
      have e1 := ((hE.put spotO 14 (.string B) (by decide) (by decide)).step (Step.drew _ (fun _ => False)) id (fun _ _ => id)).put spotO 20 (.int .i64 ((n : Int) + (k : Int))) (by decide) (by decide)
      have s1 : Step w (((w.setCell ⟨h, 14, none⟩ (.string B)).drew).setCell ⟨h, 20, none⟩ (.int .i64 ((n : Int) + (k : Int)))) (fun j => j = h) (fun j => j = h) := ((Step.set_ (F := fun j => j = h) w rfl 14 _).trans (Step.drew _ _)).trans (Step.set_ (F := fun j => j = h) _ rfl 20 _)
      have r1 := row_step hrow s1 (fun j hj e => (hl j hj).2 e)
      refine ⟨true, rfl, .inr ⟨rfl, hlen, ⟨⟨l, kind, (k : Int), dp, p, v, body, ?_, r1, fun j hj => (hl j hj).1⟩, hO, fun j hj => Nat.lt_of_lt_of_le (hlt j hj) s1.size⟩, s1.up (fun j hj => by rw [hj]; exact hO)⟩⟩
      have e2 : ((n : Int) + (k : Int)) = ((n + (k : Int).toNat : Nat) : Int) := by omega
      rw [e2, hBd] at e1
      rw [e2, hBd]
      exact e1)
    have c20b : (w.setCell ⟨h, 14, none⟩ (.string B)).drew.cell? ⟨h, 20, none⟩ = some (.int .i64 (n : Int)) := ((hE.put spotO 14 (.string B) (by decide) (by decide)).has.cell 20).trans rfl
    have c19b : (w.setCell ⟨h, 14, none⟩ (.string B)).drew.cell? ⟨h, 19, none⟩ = some (.int .i64 (k : Int)) := ((hE.put spotO 14 (.string B) (by decide) (by decide)).has.cell 19).trans rfl
    have z20b : (w.setCell ⟨h, 14, none⟩ (.string B)).drew.frozen? ⟨h, 20, none⟩ = false := (hE.put spotO 14 (.string B) (by decide) (by decide)).has.free 20
    have c19c : (w.setCell ⟨h, 14, none⟩ (.string B)).cell? ⟨h, 19, none⟩ = some (.int .i64 (k : Int)) := c19b
    have kw : IntKind.i64.wrap ((n : Int) + (k : Int)) = (n : Int) + (k : Int) := IntWalk.i64_in _ (by omega)
    have hki : (k : Int) ≤ (P.size : Int) := by omega
    have hk0 : (0 : Int) ≤ (k : Int) := by omega
    replace hP := hP.symm
    replace hB := hB.symm
    clear hE hrow hl hO hlt hlen hPd sP sS hS hBd h0 hn hD
    go_enter Tryz.func27, Tryz.ntmps27
    go_wp2_with fail
    go_region
    all_goals
      go_wp2_with fail
      go_ret
      exact HF.out
end Go.Proofs.YtmlpdhmafmdkcaaGreatDoor.PBody11

/- Layer 11 of the program: readChunks. -/
namespace Go.Proofs.YtmlpdhmafmdkcaaGreatDoor.PBody11
open Go.ChangeShapes Go.WideShapes Go.ChangeAt Go.RowKit LexPure Bytes Ret FieldsPure HeadPure FramePure ChunkPure ChunkObj InflowPure InJudge KeptRow Mem Step InEmb InObj PText11
set_option maxRecDepth 100000
set_option linter.unusedVariables false
set_option linter.unusedSimpArgs false
theorem run_more2 {most : Int} {B : List UInt8} {k : Nat} {m : M} {body : List UInt8} (hr : run (begin_ most) (B.take k) = (m, body, k)) : run (begin_ most) B = ((run m (B.drop k)).1, body ++ (run m (B.drop k)).2.1, k + (run m (B.drop k)).2.2) := by
  have := run_append (begin_ most) (B.take k) (B.drop k)
  rw [List.take_append_drop, hr] at this
  exact this
/-- what the bytes that are new say, and what all of them say -/
theorem ans_more {most : Int} {B : List UInt8} {k : Nat} {m : M} {body : List UInt8} (hr : run (begin_ most) (B.take k) = (m, body, k)) :
    ((ans m (B.drop k)).2.2.2 ≠ 0 → (ans (begin_ most) B).2.2.2 = (ans m (B.drop k)).2.2.2) ∧
    ((ans m (B.drop k)).2.2.2 = 0 → ans (begin_ most) B = (body ++ (ans m (B.drop k)).1, k + (ans m (B.drop k)).2.1, (ans m (B.drop k)).2.2.1, 0) ∧ run m (B.drop k) = (next m (B.drop k), (ans m (B.drop k)).1, (ans m (B.drop k)).2.1) ∧ ((ans m (B.drop k)).2.2.1 = false → stop (next m (B.drop k)) = false)) := by
  have h1 := run_more2 hr
  have ht : ChunkPure.Told m := by
    have := (ChunkPure.Told.start most).run (B.take k)
    rw [hr] at this
    exact this
  cases hg : good (run m (B.drop k)).1 with
  | true =>
    have a1 := ans_good hg
    have a2 := ans_good (m := begin_ most) (l := B) (by rw [h1]; exact hg)
    rw [h1] at a2
    rw [a1]
    refine ⟨fun h => absurd rfl h, fun _ => ⟨a2, by unfold next; rfl, fun hw => ?_⟩⟩
    rw [stop_say]
    unfold next
    rw [hg]
    have hw2 : whole (run m (B.drop k)).1 = false := hw
    rw [hw2]
    rfl
  | false =>
    obtain ⟨e, b1, b2⟩ := ans_bad hg
    obtain ⟨e2, c1, c2⟩ := ans_bad (m := begin_ most) (l := B) (by rw [h1]; exact hg)
    rw [h1] at c1
    rw [b1] at c1
    injection c1 with c1
    rw [b2, c2, c1]
    exact ⟨fun _ => rfl, fun h => absurd h (by
      have := (ht.run (B.drop k)) e b1
      show ¬ e2 = 0
      omega)⟩
theorem body_three {q : Rq} {n : Nat} {kind len most : Int} {B : List UInt8} (hk : kind = 3) : body11 q n kind len most B = if (ans (begin_ most) B).2.2.2 ≠ 0 then .fail (status11 (ans (begin_ most) B).2.2.2) else if (ans (begin_ most) B).2.2.1 = true then .whole { q with body := (ans (begin_ most) B).1 } (n + (ans (begin_ most) B).2.1) else .wait := by
  unfold body11
  rw [if_neg (by omega), if_neg (by omega)]
/-- what readChunks leaves: the bytes B behind the head -/
def ChR (w w' : World) (e : Ending) (O : Nat → Prop) (h : Nat) (q : Rq) (l : Value) (n : Nat) (kind len most : Int) (B : List UInt8) : Prop :=
  ∃ whole er O', e = .returned (.tuple #[.bool whole, .int .i64 er]) ∧ Step w w' O O' ∧
    ((er ≠ 0 ∧ (ans (begin_ most) B).2.2.2 = er) ∨
     (er = 0 ∧ whole = (ans (begin_ most) B).2.2.1 ∧ (ans (begin_ most) B).2.2.2 = 0 ∧ O' h ∧ (∀ j, O' j → j < w'.heap.size) ∧ RowF w' 0 l q.head.fields ∧ (∀ j, l.ownBlock = some j → O' j) ∧
      ((whole = true ∧ ∃ dp p v body, Emb w' h 22 OT (ocl { q with body := (ans (begin_ most) B).1 } l kind len (n + (ans (begin_ most) B).2.1) dp p v) p v body) ∨
       (whole = false ∧ ∃ k dp p v body, Emb w' h 22 OT (ocl q l kind len (n + k) dp p v) p v body ∧ (∀ j, v.ownBlock = some j → O' j) ∧ Body w' O' h l most B kind k dp v body))))
/-- behind the write -/
structure C3 (w w3 : World) (O G2 : Nat → Prop) (h gd : Nat) (q : Rq) (l : Value) (kind len : Int) (rd : Nat) (v' : Value) (N : M) (body : List UInt8) : Prop where
  emb : Emb w3 h 22 OT (ocl q l kind len rd (.pointer (some ⟨gd, 0, none⟩)) (selfP h 22) v') (selfP h 22) v' body
  row : RowF w3 0 l q.head.fields
  step : Step w w3 O (fun j => O j ∨ G2 j ∨ v'.ownBlock = some j)
  dis : ∀ j, G2 j → j < w3.heap.size ∧ j ≠ h ∧ l.ownBlock ≠ some j ∧ v'.ownBlock ≠ some j
  dec : Dec w3 G2 gd N
  mine : O h
  lo : ∀ j, l.ownBlock = some j → O j ∧ j ≠ h
  lt : ∀ j, O j → j < w3.heap.size
section
variable {w w3 w5 : World} {O G2 : Nat → Prop} {h gd : Nat} {q : Rq} {l : Value} {kind len most : Int} {rd n k : Nat} {v' : Value} {N : M} {body B : List UInt8}
theorem C3.setRd (c : C3 w w3 O G2 h gd q l kind len rd v' N body) (rd' : Nat) : C3 w (w3.setCell ⟨h, 20, none⟩ (.int .i64 (rd' : Int))) O G2 h gd q l kind len rd' v' N body := by
  have s1 : Step w3 (w3.setCell ⟨h, 20, none⟩ (.int .i64 (rd' : Int))) (fun j => j = h) (fun j => j = h) := Step.set_ (F := fun j => j = h) w3 rfl 20 _
  refine ⟨c.emb.put spotO 20 _ (by decide) (by decide), row_step c.row s1 (fun j hj e => (c.lo j hj).2 e), ?_, fun j hj => ⟨Nat.lt_of_lt_of_le (c.dis j hj).1 s1.size, (c.dis j hj).2⟩, c.dec.step s1 (fun j hj e => (c.dis j hj).2.1 e), c.mine, c.lo, fun j hj => Nat.lt_of_lt_of_le (c.lt j hj) s1.size⟩
  exact c.step.trans (Step.set_ w3 (.inl c.mine) 20 _)
theorem C3.wait (c : C3 w w3 O G2 h gd q l kind len (n + k) v' N body) (hk : kind = 3) (hkB : k ≤ B.length) (hr : run (begin_ most) (B.take k) = (N, body, k)) (hs : stop N = false) (he : (ans (begin_ most) B).2.2.2 = 0) (hw : (ans (begin_ most) B).2.2.1 = false) :
    ChR w w3 (.returned (.tuple #[.bool false, .int .i64 0])) O h q l n kind len most B := by
  refine ⟨false, 0, _, rfl, c.step, .inr ⟨rfl, hw.symm, he, .inl c.mine, fun j hj => ?_, c.row, fun j hj => .inl (c.lo j hj).1, .inr ⟨rfl, k, _, _, v', body, c.emb, fun j hj => .inr (.inr hj), ⟨fun x => absurd hk x, fun _ => ⟨gd, G2, N, rfl, c.dec, fun j hj => ⟨.inr (.inl hj), (c.dis j hj).2⟩, hkB, hr, hs⟩⟩⟩⟩⟩
  rcases hj with hj | hj | hj
  · exact c.lt j hj
  · exact (c.dis j hj).1
  · exact c.emb.row.lt hj
theorem C3.whole (c : C3 w w3 O G2 h gd q l kind len (n + (ans (begin_ most) B).2.1) v' N (ans (begin_ most) B).1) (he : (ans (begin_ most) B).2.2.2 = 0) (hw : (ans (begin_ most) B).2.2.1 = true) (ht : Kept1 w3 w5 h 22 OT (ocl q l kind len (n + (ans (begin_ most) B).2.1) (.pointer (some ⟨gd, 0, none⟩)) (selfP h 22) v') (selfP h 22) v' (ans (begin_ most) B).1) :
    ChR w (w5.setCell ⟨h, 14, none⟩ (.string (ofL (ans (begin_ most) B).1))) (.returned (.tuple #[.bool true, .int .i64 0])) O h q l n kind len most B ∧ w5.cell? ⟨h, 14, none⟩ = some (.string (ofL q.body)) ∧ w5.frozen? ⟨h, 14, none⟩ = false := by
  obtain ⟨e5, s5⟩ := ht
  have s6 : Step w5 (w5.setCell ⟨h, 14, none⟩ (.string (ofL (ans (begin_ most) B).1))) (fun j => j = h) (fun j => j = h) := Step.set_ (F := fun j => j = h) w5 rfl 14 _
  have hvl : ∀ j, l.ownBlock = some j → ¬ v'.ownBlock = some j := fun j hj hj2 => rows_apart c.row c.emb.row j hj hj2
  have r5 := row_step c.row s5 hvl
  have r6 := row_step r5 s6 (fun j hj e => (c.lo j hj).2 e)
  have hst : Step w (w5.setCell ⟨h, 14, none⟩ (.string (ofL (ans (begin_ most) B).1))) O (fun j => O j ∨ G2 j ∨ v'.ownBlock = some j) := by
    have t5 : Step w w5 O (fun j => O j ∨ G2 j ∨ v'.ownBlock = some j) := c.step.trans (s5.up (fun j hj => .inr (.inr hj)))
    exact t5.trans (Step.set_ w5 (.inl c.mine) 14 _)
  refine ⟨⟨true, 0, _, rfl, hst, .inr ⟨rfl, hw.symm, he, .inl c.mine, fun j hj => ?_, r6, fun j hj => .inl (c.lo j hj).1, .inl ⟨rfl, _, _, v', _, e5.put spotO 14 _ (by decide) (by decide)⟩⟩⟩, (e5.has.cell 14).trans rfl, e5.has.free 14⟩
  refine Nat.lt_of_lt_of_le ?_ (Nat.le_trans s5.size s6.size)
  rcases hj with hj | hj | hj
  · exact c.lt j hj
  · exact (c.dis j hj).1
  · exact c.emb.row.lt hj
end
set_option maxHeartbeats 6400000 in
theorem pchunks11 {w : World} {O : Nat → Prop} {h gd : Nat} {G : Nat → Prop} {m : M} {q : Rq} {l : Value} {kind len most : Int} {n k : Nat} {p v : Value} {body : List UInt8} {D : List UInt8}
    (hE : Emb w h 22 OT (ocl q l kind len (n + k) (.pointer (some ⟨gd, 0, none⟩)) p v) p v body) (hrow : RowF w 0 l q.head.fields) (hl : ∀ j, l.ownBlock = some j → O j ∧ j ≠ h) (hv : ∀ j, v.ownBlock = some j → O j) (hO : O h) (hlt : ∀ j, O j → j < w.heap.size) (hn : n ≤ D.length) (hD : D.length ≤ 4294967296) (hk : kind = 3)
    (hd : Dec w G gd m) (hG : ∀ j, G j → O j ∧ j ≠ h ∧ l.ownBlock ≠ some j ∧ v.ownBlock ≠ some j) (hkB : k ≤ (D.drop n).length) (hr : run (begin_ most) ((D.drop n).take k) = (m, body, k)) (hs : stop m = false) :
    Calls Tryz.prog 28 #[.pointer (some ⟨h, 0, none⟩), .string (ofL D)] w fun e w' => ChR w w' e O h q l n kind len most (D.drop n) := by
  obtain ⟨a1, a2⟩ := ans_more hr
  obtain ⟨B, hB⟩ : ∃ B, B = D.drop n := ⟨_, rfl⟩
  rw [← hB] at a1 a2 hkB hr ⊢
  have hBl : B.length ≤ 4294967296 := by rw [hB, List.length_drop]; omega
  have hkl : n + k ≤ D.length := by rw [hB, List.length_drop] at hkB; omega
  obtain ⟨S, hS⟩ : ∃ S, S = ofL D := ⟨_, rfl⟩
  obtain ⟨P, hP⟩ : ∃ P, P = S.extract (n + k) S.size := ⟨_, rfl⟩
  have hPd : P = ofL (B.drop k) := by rw [hP, hS, ofL_drop D (n + k) hkl, hB, List.drop_drop]
  have tP : toL P = B.drop k := by rw [hPd, toL_ofL]
  have sP : P.size ≤ 4294967296 := by rw [hPd, ofL_size, List.length_drop]; omega
  have hok : Ok m := by
    have := (Ok.start most).run (B.take k)
    rw [hr] at this
    exact this
  have hbody : body.length ≤ 4294967296 := by
    have := (run_used (begin_ most) (B.take k)).2.1
    rw [hr] at this
    dsimp only at this
    omega
  have HFd := Lib.hid (pfeed_any G gd m P (by omega) (.inl (by omega)) hok w.drew (hd.step (Step.drew w (fun _ => False)) (fun _ _ => id)))
  rw [tP] at HFd
  have hu := ans_used m (B.drop k)
  rw [List.length_drop] at hu
  generalize hA : ans m (B.drop k) = A at *
  obtain ⟨piece, used, whole, er⟩ := A
  dsimp only at a1 a2 hu
  unfold ansV at HFd
  dsimp only at HFd
  have c21 : w.drew.cell? ⟨h, 21, none⟩ = some (.pointer (some ⟨gd, 0, none⟩)) := (hE.has.cell 21).trans rfl
  have c20 : w.drew.cell? ⟨h, 20, none⟩ = some (.int .i64 ((n : Int) + (k : Int))) := by
    have := (hE.has.drew.cell 20).trans rfl
    rw [show ((n : Int) + (k : Int)) = ((n + k : Nat) : Int) by omega]
    exact this
  have hni : (n : Int) + (k : Int) ≤ (S.size : Int) := by rw [hS, ofL_size]; omega
  have hn0 : (0 : Int) ≤ (n : Int) + (k : Int) := by omega
  have hsi : (S.size : Int) ≤ 4294967296 := by rw [hS, ofL_size]; omega
  have htn : ((n : Int) + (k : Int)).toNat = n + k := by omega
  replace hP := hP.symm
  rw [← hS]
  have hlt2 := hE.has.lt
  have hvh := hE.own spotO
  have HF1 : Hid (∀ (w2 : World) (G2 : Nat → Prop), Dec w2 G2 gd (next m (B.drop k)) → Step w.drew w2 G G2 →
      (w2.cell? ⟨h, 21, none⟩ = some (.pointer (some ⟨gd, 0, none⟩)) ∧ w2.cell? ⟨h, 20, none⟩ = some (.int .i64 ((n : Int) + (k : Int)))) ∧
      Emb w2 h 22 OT (ocl q l kind len (n + k) (.pointer (some ⟨gd, 0, none⟩)) p v) p v body ∧ RowF w2 0 l q.head.fields ∧ Step w w2 O (fun j => O j ∨ G2 j) ∧ (∀ j, G2 j → j < w2.heap.size ∧ j ≠ h ∧ l.ownBlock ≠ some j ∧ v.ownBlock ≠ some j)) := Lib.hid (fun w2 G2 hD2 hS2 => by
    have q1 : Step w w2 G G2 := (Step.drew w G).trans hS2
    have e2 := hE.step q1 (fun hg => (hG h hg).2.1 rfl) (fun j hj hg => (hG j hg).2.2.2 hj)
    have r2 := row_step hrow q1 (fun j hj hg => (hG j hg).2.2.1 hj)
    refine ⟨⟨(e2.has.cell 21).trans rfl, ?_⟩, e2, r2, ?_, fun j hj => ⟨hD2.lt j hj, ?_⟩⟩
    · rw [show ((n : Int) + (k : Int)) = ((n + k : Nat) : Int) by omega]
      exact (e2.has.cell 20).trans rfl
    · exact (q1.up2 (fun j hj => (hG j hj).1)).regrow (fun j hj => by
        rcases hj with hj | hj
        · exact .inl hj
        · exact (q1.grow j hj).imp (fun x => (hG j x).1) id)
    · rcases q1.grow j hj with x | ⟨x, _⟩
      · exact (hG j x).2
      · refine ⟨fun e => by omega, fun e => ?_, fun e => ?_⟩
        · have := hlt j (hl j e).1
          omega
        · have := hlt j (hv j e)
          omega)
  have zm : Hid (∀ w2, Step w w2 O O → True) := Lib.hid (fun _ _ => trivial)
  by_cases her : er ≠ 0
  · have herb : (er != 0) = true := bne_iff_ne.2 her
    have HQ : Hid (∀ (w2 : World) (G2 : Nat → Prop), Step w w2 O (fun j => O j ∨ G2 j) → ChR w w2 (.returned (.tuple #[.bool false, .int .i64 er])) O h q l n kind len most B) := Lib.hid (fun w2 G2 hs2 =>
      ⟨false, er, O, rfl, hs2.less (fun j hj => .inl hj), .inl ⟨her, a1 her⟩⟩)
    clear a1 a2 hE hrow hl hv hO hlt hd hG hkB hr hs hok hbody hu hA hPd tP hkl hB hS zm her hlt2 hvh hk
    go_enter Tryz.func28, Tryz.ntmps28
    go_wp2_with fail
    go_region_held3 (fun w' => w'.cell? ⟨h, 21, none⟩ = some (.pointer (some ⟨gd, 0, none⟩)) ∧ w'.cell? ⟨h, 20, none⟩ = some (.int .i64 ((n : Int) + (k : Int)))) (first | exact s1 | exact ⟨c21, c20⟩)
      (first
        | (go_at_call 41; refine HFd.out.mono ?_; rintro e w2 ⟨rfl, G2, hD2, hS2⟩
           obtain ⟨s1, _, _, hS3, _⟩ := HF1.out w2 G2 hD2 hS2
           have hFin := Lib.hid (HQ.out w2 G2 hS3)
           clear hD2 hS2 hS3 HFd HF1 HQ))
    go_wp2_with fail
    go_ret2
    exact hFin.out
  · have her0 : er = 0 := Classical.not_not.1 her
    subst her0
    obtain ⟨a3, a4, a5⟩ := a2 rfl
    have hpl : (ofL piece).size ≤ 4294967296 := by rw [ofL_size]; omega
    have HW : Hid (∀ w2, Emb w2 h 22 OT (ocl q l kind len (n + k) (.pointer (some ⟨gd, 0, none⟩)) p v) p v body → Calls Tryz.prog 16 #[.pointer (some ⟨h, 22, none⟩), .string (ofL piece)] w2 fun e w3 => e = .returned (.tuple #[.int .i64 (ofL piece).size, .nilIface]) ∧ ∃ v', Emb w3 h 22 OT (ocl q l kind len (n + k) (.pointer (some ⟨gd, 0, none⟩)) (selfP h 22) v') (selfP h 22) v' (body ++ piece) ∧ Step w2 w3 (fun j => j = h ∨ v.ownBlock = some j) (fun j => j = h ∨ v'.ownBlock = some j)) := Lib.hid (fun w2 e2 => (emb_write spotO rfl e2 (ofL piece) (by omega)).mono (fun e w3 ⟨x1, v', x2, x3⟩ => ⟨x1, v', by rw [toL_ofL] at x2; exact x2, x3⟩))
    have HC3 : Hid (∀ (w2 : World) (G2 : Nat → Prop) (w3 : World) (v' : Value), Dec w2 G2 gd (next m (B.drop k)) → Step w.drew w2 G G2 → Emb w3 h 22 OT (ocl q l kind len (n + k) (.pointer (some ⟨gd, 0, none⟩)) (selfP h 22) v') (selfP h 22) v' (body ++ piece) → Step w2 w3 (fun j => j = h ∨ v.ownBlock = some j) (fun j => j = h ∨ v'.ownBlock = some j) →
        C3 w w3 O G2 h gd q l kind len (n + k) v' (next m (B.drop k)) (body ++ piece)) := Lib.hid (fun w2 G2 w3 v' hD2 hS2 e3 s3 => by
      obtain ⟨_, e2, r2, t2, d2⟩ := HF1.out w2 G2 hD2 hS2
      have hv'h := e3.own spotO
      have hlv : ∀ j, l.ownBlock = some j → ¬ (j = h ∨ v.ownBlock = some j) := fun j hj x => by
        rcases x with x | x
        · exact (hl j hj).2 x
        · exact rows_apart hrow hE.row j hj x
      have d3 : ∀ j, G2 j → ¬ (j = h ∨ v.ownBlock = some j) := fun j hj x => by
        rcases x with x | x
        · exact (d2 j hj).2.1 x
        · exact (d2 j hj).2.2.2 x
      refine ⟨e3, row_step r2 s3 hlv, ?_, fun j hj => ⟨Nat.lt_of_lt_of_le (d2 j hj).1 s3.size, (d2 j hj).2.1, (d2 j hj).2.2.1, fun x => ?_⟩, hD2.step s3 d3, hO, hl, fun j hj => Nat.lt_of_lt_of_le (hlt j hj) (Nat.le_trans t2.size s3.size)⟩
      · refine (t2.trans (s3.more (G := fun j => O j ∨ G2 j) (fun j hj => ?_) (fun j hj => ?_)) : Step w w3 O (fun j => j = h ∨ v'.ownBlock = some j)).regrow (fun j hj => ?_)
        · rcases hj with x | x
          · rw [x]; exact .inl hO
          · exact .inl (hv j x)
        · rcases s3.grow j hj with x | x
          · rcases x with x | x
            · rw [x]; exact .inl (.inl hO)
            · exact .inl (.inl (hv j x))
          · exact .inr x
        · rcases hj with hj | hj | hj
          · exact .inl hj
          · rcases t2.grow j (.inr hj) with x | x
            · exact .inl x
            · exact .inr ⟨x.1, Nat.lt_of_lt_of_le x.2 s3.size⟩
          · rcases s3.grow j (.inr hj) with x | x
            · rcases x with x | x
              · exact .inl (by rw [x]; exact hO)
              · exact .inl (hv j x)
            · exact .inr ⟨Nat.le_trans t2.size x.1, x.2⟩
      · rcases s3.grow j (.inr x) with y | y
        · exact d3 j hj y
        · have := (d2 j hj).1
          omega)
    have e0 : (ans (begin_ most) B).2.2.2 = 0 := by rw [a3]
    have ew : (ans (begin_ most) B).2.2.1 = whole := by rw [a3]
    have eb : (ans (begin_ most) B).1 = body ++ piece := by rw [a3]
    have eu : (ans (begin_ most) B).2.1 = k + used := by rw [a3]
    have hnB : n + B.length = D.length := by rw [hB, List.length_drop]; omega
    have b1 : (0 : Int) ≤ (n : Int) + (k : Int) + (used : Int) := by omega
    have b2 : (n : Int) + (k : Int) + (used : Int) ≤ 4294967296 := by omega
    have kw : IntKind.i64.wrap ((n : Int) + (k : Int) + (used : Int)) = (n : Int) + (k : Int) + (used : Int) := IntWalk.i64_in _ (by omega)
    have hRd : Hid (∀ (G2 : Nat → Prop) (w3 : World) (v' : Value), C3 w w3 O G2 h gd q l kind len (n + k) v' (next m (B.drop k)) (body ++ piece) → C3 w (w3.setCell ⟨h, 20, none⟩ (.int .i64 ((n : Int) + (k : Int) + (used : Int)))) O G2 h gd q l kind len (n + (k + used)) v' (next m (B.drop k)) (body ++ piece) ∧ w3.cell? ⟨h, 20, none⟩ = some (.int .i64 ((n : Int) + (k : Int))) ∧ w3.frozen? ⟨h, 20, none⟩ = false) := Lib.hid (fun G2 w3 v' c => by
      have := c.setRd (n + (k + used))
      rw [show ((n + (k + used) : Nat) : Int) = (n : Int) + (k : Int) + (used : Int) by omega] at this
      refine ⟨this, ?_, c.emb.has.free 20⟩
      rw [show ((n : Int) + (k : Int)) = ((n + k : Nat) : Int) by omega]
      exact (c.emb.has.cell 20).trans rfl)
    cases whole with
    | false =>
      have hs2 := a5 rfl
      have hul : used = B.length - k := by
        have := (run_used m (B.drop k)).2.2
        rw [a4] at this
        have := this hs2
        rw [List.length_drop] at this
        exact this
      have hru : run (begin_ most) (B.take (k + used)) = (next m (B.drop k), body ++ piece, k + used) := by
        rw [List.take_of_length_le (by omega), run_more2 hr, a4]
      have HQ : Hid (∀ (G2 : Nat → Prop) (w4 : World) (v' : Value), C3 w w4 O G2 h gd q l kind len (n + (k + used)) v' (next m (B.drop k)) (body ++ piece) → ChR w w4 (.returned (.tuple #[.bool false, .int .i64 0])) O h q l n kind len most B) := Lib.hid (fun G2 w4 v' c => c.wait hk (by omega) hru hs2 e0 ew)
      clear a1 a2 a3 a4 a5 hE hrow hl hv hO hlt hd hG hkB hr hs hok hbody hu hA hPd tP hkl hB hS zm her hlt2 hvh hk hs2 e0 ew eb eu hru hul hnB
      go_enter Tryz.func28, Tryz.ntmps28
      go_wp2_with fail
      go_region_held3 (fun w' => w'.cell? ⟨h, 21, none⟩ = some (.pointer (some ⟨gd, 0, none⟩)) ∧ w'.cell? ⟨h, 20, none⟩ = some (.int .i64 ((n : Int) + (k : Int)))) (first | exact s1 | exact ⟨c21, c20⟩)
        (first
          | (go_at_call 41; refine HFd.out.mono ?_; rintro e w2 ⟨rfl, G2, hD2, hS2⟩
             obtain ⟨s1, he2, _, _, _⟩ := HF1.out w2 G2 hD2 hS2
             have HC4 := Lib.hid (fun w3 v' => HC3.out w2 G2 w3 v' hD2 hS2)
             have HW2 := Lib.hid (HW.out w2 he2)
             clear hD2 hS2 HFd HF1 he2 HC3 HW))
      go_wp2_with fail
      refine HW2.out.mono ?_
      rintro e w3 ⟨rfl, v', x2, x3⟩
      obtain ⟨c4, c20b, z20⟩ := hRd.out G2 w3 v' (HC4.out w3 v' x2 x3)
      have hFin := Lib.hid (HQ.out G2 _ v' c4)
      clear HW2 HC4 hRd HQ x2 x3 c4 s1 c21 c20
      go_wp2_with fail
      go_ret2
      exact hFin.out
    | true =>
      have HQ : Hid (∀ (G2 : Nat → Prop) (w4 : World) (v' : Value), C3 w w4 O G2 h gd q l kind len (n + (k + used)) v' (next m (B.drop k)) (body ++ piece) →
          Calls Tryz.prog 29 #[.pointer (some ⟨h, 22, none⟩)] w4 fun e w5 => e = .returned (.string (ofL (body ++ piece))) ∧ ChR w (w5.setCell ⟨h, 14, none⟩ (.string (ofL (body ++ piece)))) (.returned (.tuple #[.bool true, .int .i64 0])) O h q l n kind len most B ∧ w5.cell? ⟨h, 14, none⟩ = some (.string (ofL q.body)) ∧ w5.frozen? ⟨h, 14, none⟩ = false) := Lib.hid (fun G2 w4 v' c => (emb_text spotO c.emb).mono (fun e w5 ⟨y1, y2⟩ => ⟨y1, by
        rw [← eb, ← eu] at c y2
        rw [← eb]
        exact c.whole e0 ew y2⟩))
      clear a1 a2 a3 a4 a5 hE hrow hl hv hO hlt hd hG hkB hr hs hok hbody hu hA hPd tP hkl hB hS zm her hlt2 hvh hk e0 ew eb eu hnB
      go_enter Tryz.func28, Tryz.ntmps28
      go_wp2_with fail
      go_region_held3 (fun w' => w'.cell? ⟨h, 21, none⟩ = some (.pointer (some ⟨gd, 0, none⟩)) ∧ w'.cell? ⟨h, 20, none⟩ = some (.int .i64 ((n : Int) + (k : Int)))) (first | exact s1 | exact ⟨c21, c20⟩)
        (first
          | (go_at_call 41; refine HFd.out.mono ?_; rintro e w2 ⟨rfl, G2, hD2, hS2⟩
             obtain ⟨s1, he2, _, _, _⟩ := HF1.out w2 G2 hD2 hS2
             have HC4 := Lib.hid (fun w3 v' => HC3.out w2 G2 w3 v' hD2 hS2)
             have HW2 := Lib.hid (HW.out w2 he2)
             clear hD2 hS2 HFd HF1 he2 HC3 HW))
      go_wp2_with fail
      refine HW2.out.mono ?_
      rintro e w3 ⟨rfl, v', x2, x3⟩
      obtain ⟨c4, c20b, z20⟩ := hRd.out G2 w3 v' (HC4.out w3 v' x2 x3)
      have HT := Lib.hid (HQ.out G2 _ v' c4)
      clear HW2 HC4 hRd HQ x2 x3 c4 s1 c21 c20
      go_wp2_with fail
      refine HT.out.mono ?_
      rintro e w5 ⟨rfl, hFin, c14, z14⟩
      replace hFin := Lib.hid hFin
      clear HT
      go_wp2_with fail
      go_ret2
      exact hFin.out
end Go.Proofs.YtmlpdhmafmdkcaaGreatDoor.PBody11
