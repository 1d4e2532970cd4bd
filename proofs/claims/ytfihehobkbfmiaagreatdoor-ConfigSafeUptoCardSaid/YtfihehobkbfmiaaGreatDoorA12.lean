/- Texts of this seat, one behind another: R14Print. -/

import Derived.Test.YtfihehobkbfmiaaGreatDoorA8
import Derived.Test.YtfihehobkbfmiaaGreatDoorA11
import Derived.Test.YtfihehobkbfmiaaGreatDoorA1
/- Layer 14, the document's own Print, of a right config. -/
namespace Go.Proofs.YtfihehobkbfmiaaGreatDoor.R14Print
open Go.ChangeShapes Go.WideShapes Go.ChangeAt Go.RowKit Bytes LexPure EmitPure ConfPure ConfBack ConfLines ConfMem Ret Mem Texts R14Name R14Num R14Bnd R14Vhost R14Check R14Clus R14Line
set_option maxRecDepth 100000
set_option linter.unusedVariables false
set_option linter.unusedSimpArgs false
/-! ### sizes -/
theorem text_len (M : Nat) : ∀ Ls : List L, (∀ l ∈ Ls, l.length ≤ M) → (textL Ls).length ≤ Ls.length * (M + 1)
  | [], _ => by simp [textL]
  | l :: Ls, h => by
    rw [textL_cons, List.length_append, List.length_cons, List.length_cons, Nat.succ_mul]
    have h1 := h l List.mem_cons_self
    have h2 := text_len M Ls (fun x hx => h x (List.mem_cons_of_mem _ hx))
    omega
theorem lineW_len (M : Nat) (h : L) (ws : List L) (hw : ∀ w ∈ ws, w.length ≤ M) : (lineW h ws).length ≤ h.length + ws.length * (M + 1) := by
  unfold lineW
  rw [List.length_append]
  have : ∀ ws : List L, (∀ w ∈ ws, w.length ≤ M) → (ws.flatMap (fun w => 32 :: w)).length ≤ ws.length * (M + 1) := fun ws => by
    induction ws with
    | nil => intro _; simp
    | cons w ws ih =>
      intro hw
      rw [List.flatMap_cons, List.length_append, List.length_cons, List.length_cons, Nat.succ_mul]
      have h1 := hw w List.mem_cons_self
      have h2 := ih (fun x hx => hw x (List.mem_cons_of_mem _ hx))
      omega
  have := this ws hw
  omega
theorem wlen {s : L} (h : s.length ≤ 1048576) : (word s).length ≤ 3200000 := by have := word_len s; omega
theorem dlen {n : Int} (h : -9223372036854775808 ≤ n ∧ n ≤ 9223372036854775807) : (decZ n).length ≤ 3200000 := by have := decZ_len h.1 h.2; omega
theorem flen (b : Bool) : (flagL b).length ≤ 3200000 := by cases b <;> decide
theorem lines_len {c : Conf} (hx : FitConf c) (hr : ConfBack.Right c) : (linesC c).length ≤ 1121 ∧ ∀ l ∈ linesC c, l.length ≤ 80000000 := by
  obtain ⟨h1, h2, h3, h4⟩ := ConfSafe.short14 hr
  have hv : ∀ vs : List Vhos, (∀ v ∈ vs, v.routes.length ≤ 32) → (vs.flatMap vhosLs).length ≤ vs.length * 33 := fun vs => by
    induction vs with
    | nil => intro _; simp
    | cons v vs ih =>
      intro h
      rw [List.flatMap_cons, List.length_append, List.length_cons, Nat.succ_mul]
      have a := h v List.mem_cons_self
      have b := ih (fun x hx => h x (List.mem_cons_of_mem _ hx))
      have e : (vhosLs v).length = v.routes.length + 1 := by simp [vhosLs]
      omega
  have hv2 := hv c.vhosts (fun v hv => (h4 v hv).2)
  refine ⟨?_, fun l hl => ?_⟩
  · unfold linesC
    simp only [List.length_cons, List.length_append, List.length_map]
    omega
  · unfold linesC at hl
    rcases List.mem_cons.1 hl with rfl | q
    · have := lineW_len 3200000 LISTEN (listenW c) (fun w hw => by
        unfold listenW at hw
        simp only [List.mem_cons, List.not_mem_nil, or_false] at hw
        rcases hw with rfl | rfl | rfl | rfl | rfl | rfl
        · exact dlen hx.conns
        · exact dlen hx.body
        · exact dlen hx.idle
        · exact dlen hx.grace
        · exact dlen hx.budget
        · exact dlen hx.seed)
      have e : (listenW c).length = 6 := rfl
      have e2 : LISTEN.length = 6 := rfl
      rw [e, e2] at this
      omega
    rcases List.mem_append.1 q with q | q
    · obtain ⟨f, hf, rfl⟩ := List.mem_map.1 q
      have hff := hx.filters.2 f hf
      have := lineW_len 3200000 FILTER (filtW f) (fun w hw => by
        unfold filtW at hw
        simp only [List.mem_cons, List.not_mem_nil, or_false] at hw
        rcases hw with rfl | rfl | rfl | rfl | rfl | rfl
        · exact dlen hff.kind
        · exact wlen hff.name
        · exact wlen hff.value
        · exact dlen hff.n
        · exact dlen hff.m
        · exact dlen hff.k)
      have e : (filtW f).length = 6 := rfl
      have e2 : FILTER.length = 6 := rfl
      rw [e, e2] at this
      omega
    rcases List.mem_append.1 q with q | q
    · obtain ⟨x, hxm, rfl⟩ := List.mem_map.1 q
      have hff := hx.clusters.2 x hxm
      have h16 := (ConfSafe.clus_safe (hr.clusters x hxm).1).2.2.1
      have := lineW_len 3200000 CLUSTER (clusW x) (fun w hw => by
        unfold clusW at hw
        rcases List.mem_append.1 hw with hw | hw
        · simp only [List.mem_cons, List.not_mem_nil, or_false] at hw
          rcases hw with rfl | rfl | rfl | rfl | rfl | rfl | rfl | rfl
          · exact wlen hff.name
          · exact dlen hff.policy
          · exact dlen hff.conns
          · exact dlen hff.pending
          · exact dlen hff.try_
          · exact dlen hff.fails
          · exact dlen hff.eject
          · exact dlen hff.panic
        · have := hff.hosts.2 w hw
          omega)
      have e : (clusW x).length = 8 + x.hosts.length := by simp [clusW]; omega
      have e2 : CLUSTER.length = 7 := rfl
      rw [e, e2] at this
      have : (8 + x.hosts.length) * (3200000 + 1) ≤ 24 * 3200001 := Nat.mul_le_mul_right _ (by omega)
      omega
    · obtain ⟨v, hvm, q⟩ := List.mem_flatMap.1 q
      have hff := hx.vhosts.2 v hvm
      unfold vhosLs at q
      rcases List.mem_cons.1 q with rfl | q
      · have := lineW_len 3200000 VHOST [word v.domain] (fun w hw => by
          obtain rfl := List.mem_singleton.1 hw
          exact wlen hff.domain)
        have e2 : VHOST.length = 5 := rfl
        rw [e2, List.length_singleton] at this
        omega
      · obtain ⟨r, hrm, rfl⟩ := List.mem_map.1 q
        have hfr := hff.routes.2 r hrm
        have := lineW_len 3200000 ROUTE (routW r) (fun w hw => by
          unfold routW at hw
          simp only [List.mem_cons, List.not_mem_nil, or_false] at hw
          rcases hw with rfl | rfl | rfl | rfl | rfl | rfl | rfl | rfl | rfl | rfl | rfl | rfl | rfl
          · exact flen _
          · exact wlen hfr.path
          · exact wlen hfr.method
          · exact wlen hfr.field
          · exact wlen hfr.value
          · exact dlen hfr.action
          · exact wlen hfr.cluster
          · exact dlen hfr.status
          · exact wlen hfr.text
          · exact wlen hfr.rewrite
          · exact dlen hfr.retries
          · exact dlen hfr.timeout
          · exact flen _)
        have e : (routW r).length = 13 := rfl
        have e2 : ROUTE.length = 5 := rfl
        rw [e, e2] at this
        omega
/-- any beginning of the lines -/
theorem part_len {c : Conf} (hx : FitConf c) (hr : ConfBack.Right c) {A B : List L} (h : linesC c = A ++ B) : (textL A).length ≤ 90000000000 := by
  obtain ⟨h1, h2⟩ := lines_len hx hr
  rw [h, List.length_append] at h1
  have := text_len 80000000 A (fun l hl => h2 l (by rw [h]; exact List.mem_append_left _ hl))
  have : A.length * (80000000 + 1) ≤ 1121 * 80000001 := Nat.mul_le_mul_right _ (by omega)
  omega
theorem print_len {c : Conf} (hx : FitConf c) (hr : ConfBack.Right c) : (print14 c).length ≤ 90000000000 := by
  rw [print_text]
  exact part_len (B := []) hx hr (by simp)
/-- the config's box, and an item's -/
structure Pb (w : World) (g : Nat) (c : Conf) (vf vc vv : Value) (gi : Nat) (t : TypeId) (cs : Array Value) (W : World) : Prop where
  kb : Kb w g c vf vc vv W
  it : Has W gi t cs
theorem Pb.call {w W W' : World} {g gi : Nat} {c : Conf} {vf vc vv : Value} {t : TypeId} {cs : Array Value} (x : Pb w g c vf vc vv gi t cs W) (hb : Below W.heap.size W W') : Pb w g c vf vc vv gi t cs W' := ⟨x.kb.call hb, x.it.below hb x.it.lt⟩
theorem Pb.drew {w W : World} {g gi : Nat} {c : Conf} {vf vc vv : Value} {t : TypeId} {cs : Array Value} (x : Pb w g c vf vc vv gi t cs W) : Pb w g c vf vc vv gi t cs W.drew := ⟨x.kb.drew, x.it.drew⟩
theorem Pb.start {w W : World} {g : Nat} {c : Conf} {vf vc vv : Value} (x : Kb w g c vf vc vv W) (t : TypeId) (cs : Array Value) : Pb w g c vf vc vv W.heap.size t cs (W.alloc (.cells cs t)) :=
  ⟨x.call ((Below.refl _ _).alloc (Nat.le_refl _) _), Has.new _ _ _⟩
set_option maxHeartbeats 12800000 in
theorem rprint_any (c : Conf) (vf vc vv : Value) (hx : FitConf c) (hk : check14 c = 0) (w : World) (hC : CF w vf vc vv c) :
    Calls Tryz.prog 15 #[.agg (confV c vf vc vv)] w fun e w' => e = .returned (.string (ofL (print14 c))) ∧ Below w.heap.size w w' := by
  have hr := right_of hk
  have HX := Lib.hid hx
  have HR := Lib.hid hr
  have HB := Lib.hid (Kb.start hC)
  obtain ⟨⟨pf, cf, rfl⟩, ⟨pc, cc, rfl⟩, ⟨pv, cv, rfl⟩⟩ := R14Bnd.CF.vals hC
  have hfl := hx.filters.1
  have hcl := hx.clusters.1
  have hvl := hx.vhosts.1
  have H0 := Lib.hid (fun w => rnumber_any c.conns hx.conns.1 hx.conns.2 w)
  have z0 : (ofL (32 :: decZ c.conns)).size ≤ 4000000 := by rw [ofL_size, List.length_cons]; have := decZ_len hx.conns.1 hx.conns.2; omega
  have H1 := Lib.hid (fun w => rnumber_any c.body hx.body.1 hx.body.2 w)
  have z1 : (ofL (32 :: decZ c.body)).size ≤ 4000000 := by rw [ofL_size, List.length_cons]; have := decZ_len hx.body.1 hx.body.2; omega
  have H2 := Lib.hid (fun w => rnumber_any c.idle hx.idle.1 hx.idle.2 w)
  have z2 : (ofL (32 :: decZ c.idle)).size ≤ 4000000 := by rw [ofL_size, List.length_cons]; have := decZ_len hx.idle.1 hx.idle.2; omega
  have H3 := Lib.hid (fun w => rnumber_any c.grace hx.grace.1 hx.grace.2 w)
  have z3 : (ofL (32 :: decZ c.grace)).size ≤ 4000000 := by rw [ofL_size, List.length_cons]; have := decZ_len hx.grace.1 hx.grace.2; omega
  have H4 := Lib.hid (fun w => rnumber_any c.budget hx.budget.1 hx.budget.2 w)
  have z4 : (ofL (32 :: decZ c.budget)).size ≤ 4000000 := by rw [ofL_size, List.length_cons]; have := decZ_len hx.budget.1 hx.budget.2; omega
  have H5 := Lib.hid (fun w => rnumber_any c.seed hx.seed.1 hx.seed.2 w)
  have z5 : (ofL (32 :: decZ c.seed)).size ≤ 4000000 := by rw [ofL_size, List.length_cons]; have := decZ_len hx.seed.1 hx.seed.2; omega
  have HV : Hid (ofL (textL [lineW LISTEN (listenW c)]) = (⟨#[108, 105, 115, 116, 101, 110]⟩ : ByteArray) ++ ofL (32 :: decZ c.conns) ++ ofL (32 :: decZ c.body) ++ ofL (32 :: decZ c.idle) ++ ofL (32 :: decZ c.grace) ++ ofL (32 :: decZ c.budget) ++ ofL (32 :: decZ c.seed) ++ (⟨#[10]⟩ : ByteArray)) := Lib.hid (by
    rw [show (⟨#[108, 105, 115, 116, 101, 110]⟩ : ByteArray) = ofL [108, 105, 115, 116, 101, 110] from rfl, show (⟨#[10]⟩ : ByteArray) = ofL [10] from rfl]
    simp only [str_app]
    congr 1
    simp [textL, lineW, listenW, LISTEN])
  obtain ⟨A0, hA0⟩ : ∃ A0, A0 = ofL (32 :: decZ c.conns) := ⟨_, rfl⟩
  rw [← hA0] at H0 z0 HV
  obtain ⟨A1, hA1⟩ : ∃ A1, A1 = ofL (32 :: decZ c.body) := ⟨_, rfl⟩
  rw [← hA1] at H1 z1 HV
  obtain ⟨A2, hA2⟩ : ∃ A2, A2 = ofL (32 :: decZ c.idle) := ⟨_, rfl⟩
  rw [← hA2] at H2 z2 HV
  obtain ⟨A3, hA3⟩ : ∃ A3, A3 = ofL (32 :: decZ c.grace) := ⟨_, rfl⟩
  rw [← hA3] at H3 z3 HV
  obtain ⟨A4, hA4⟩ : ∃ A4, A4 = ofL (32 :: decZ c.budget) := ⟨_, rfl⟩
  rw [← hA4] at H4 z4 HV
  obtain ⟨A5, hA5⟩ : ∃ A5, A5 = ofL (32 :: decZ c.seed) := ⟨_, rfl⟩
  rw [← hA5] at H5 z5 HV
  have s0 : ¬ (9223372036854775807 < 6 + A0.size) := by omega
  have s1 : ¬ (9223372036854775807 < 6 + A0.size + A1.size) := by omega
  have s2 : ¬ (9223372036854775807 < 6 + A0.size + A1.size + A2.size) := by omega
  have s3 : ¬ (9223372036854775807 < 6 + A0.size + A1.size + A2.size + A3.size) := by omega
  have s4 : ¬ (9223372036854775807 < 6 + A0.size + A1.size + A2.size + A3.size + A4.size) := by omega
  have s5 : ¬ (9223372036854775807 < 6 + A0.size + A1.size + A2.size + A3.size + A4.size + A5.size) := by omega
  have s6 : ¬ (9223372036854775807 < 6 + A0.size + A1.size + A2.size + A3.size + A4.size + A5.size + 1) := by omega
  clear hA0 z0 hA1 z1 hA2 z2 hA3 z3 hA4 z4 hA5 z5 hx hr hk hC
  obtain ⟨g, hg⟩ : ∃ g, g = w.heap.size := ⟨_, rfl⟩
  rw [← hg] at HB
  have HG := Lib.hid hg
  clear hg
  unfold confV
  go_enter Tryz.func15, Tryz.ntmps15
  go_wp2_with fail
  rw [← HG.out]
  have K1 : Kb w g c (.slice pf c.filters.length cf) (.slice pc c.clusters.length cc) (.slice pv c.vhosts.length cv) (w.alloc (.cells #[.int .i64 c.conns, .int .i64 c.body, .int .i64 c.idle, .int .i64 c.grace, .int .i64 c.budget, .int .i64 c.seed, .slice pf c.filters.length cf, .slice pc c.clusters.length cc, .slice pv c.vhosts.length cv] CT)) := HB.out
  clear HB
  unfold CT at K1
  generalize w.alloc (.cells #[.int .i64 c.conns, .int .i64 c.body, .int .i64 c.idle, .int .i64 c.grace, .int .i64 c.budget, .int .i64 c.seed, .slice pf c.filters.length cf, .slice pc c.clusters.length cc, .slice pv c.vhosts.length cv] 26) = W1 at K1 ⊢
  have P0 := K1.drew
  have q0 : W1.drew.cell? ⟨g, 0, none⟩ = some (.int .i64 c.conns) ∧ W1.drew.cell? ⟨g, 1, none⟩ = some (.int .i64 c.body) ∧ W1.drew.cell? ⟨g, 2, none⟩ = some (.int .i64 c.idle) ∧ W1.drew.cell? ⟨g, 3, none⟩ = some (.int .i64 c.grace) ∧ W1.drew.cell? ⟨g, 4, none⟩ = some (.int .i64 c.budget) ∧ W1.drew.cell? ⟨g, 5, none⟩ = some (.int .i64 c.seed) := ⟨P0.box.cell 0, P0.box.cell 1, P0.box.cell 2, P0.box.cell 3, P0.box.cell 4, P0.box.cell 5⟩
  go_region_held3 (fun w' => w'.cell? ⟨g, 0, none⟩ = some (.int .i64 c.conns) ∧ w'.cell? ⟨g, 1, none⟩ = some (.int .i64 c.body) ∧ w'.cell? ⟨g, 2, none⟩ = some (.int .i64 c.idle) ∧ w'.cell? ⟨g, 3, none⟩ = some (.int .i64 c.grace) ∧ w'.cell? ⟨g, 4, none⟩ = some (.int .i64 c.budget) ∧ w'.cell? ⟨g, 5, none⟩ = some (.int .i64 c.seed)) (first | exact q5b | exact q4b | exact q3b | exact q2b | exact q1b | exact q0b | exact q0)
    (first
      | (go_at_call 37; refine (H0.out _).mono ?_; rintro e v0 ⟨rfl, hb0⟩
         have P0b := P0.call hb0
         have q0b : v0.cell? ⟨g, 0, none⟩ = some (.int .i64 c.conns) ∧ v0.cell? ⟨g, 1, none⟩ = some (.int .i64 c.body) ∧ v0.cell? ⟨g, 2, none⟩ = some (.int .i64 c.idle) ∧ v0.cell? ⟨g, 3, none⟩ = some (.int .i64 c.grace) ∧ v0.cell? ⟨g, 4, none⟩ = some (.int .i64 c.budget) ∧ v0.cell? ⟨g, 5, none⟩ = some (.int .i64 c.seed) := ⟨P0b.box.cell 0, P0b.box.cell 1, P0b.box.cell 2, P0b.box.cell 3, P0b.box.cell 4, P0b.box.cell 5⟩
         clear H0)
      | (go_at_call 37; refine (H1.out _).mono ?_; rintro e v1 ⟨rfl, hb1⟩
         have P1b := P0b.call hb1
         have q1b : v1.cell? ⟨g, 0, none⟩ = some (.int .i64 c.conns) ∧ v1.cell? ⟨g, 1, none⟩ = some (.int .i64 c.body) ∧ v1.cell? ⟨g, 2, none⟩ = some (.int .i64 c.idle) ∧ v1.cell? ⟨g, 3, none⟩ = some (.int .i64 c.grace) ∧ v1.cell? ⟨g, 4, none⟩ = some (.int .i64 c.budget) ∧ v1.cell? ⟨g, 5, none⟩ = some (.int .i64 c.seed) := ⟨P1b.box.cell 0, P1b.box.cell 1, P1b.box.cell 2, P1b.box.cell 3, P1b.box.cell 4, P1b.box.cell 5⟩
         clear H1)
      | (go_at_call 37; refine (H2.out _).mono ?_; rintro e v2 ⟨rfl, hb2⟩
         have P2b := P1b.call hb2
         have q2b : v2.cell? ⟨g, 0, none⟩ = some (.int .i64 c.conns) ∧ v2.cell? ⟨g, 1, none⟩ = some (.int .i64 c.body) ∧ v2.cell? ⟨g, 2, none⟩ = some (.int .i64 c.idle) ∧ v2.cell? ⟨g, 3, none⟩ = some (.int .i64 c.grace) ∧ v2.cell? ⟨g, 4, none⟩ = some (.int .i64 c.budget) ∧ v2.cell? ⟨g, 5, none⟩ = some (.int .i64 c.seed) := ⟨P2b.box.cell 0, P2b.box.cell 1, P2b.box.cell 2, P2b.box.cell 3, P2b.box.cell 4, P2b.box.cell 5⟩
         clear H2)
      | (go_at_call 37; refine (H3.out _).mono ?_; rintro e v3 ⟨rfl, hb3⟩
         have P3b := P2b.call hb3
         have q3b : v3.cell? ⟨g, 0, none⟩ = some (.int .i64 c.conns) ∧ v3.cell? ⟨g, 1, none⟩ = some (.int .i64 c.body) ∧ v3.cell? ⟨g, 2, none⟩ = some (.int .i64 c.idle) ∧ v3.cell? ⟨g, 3, none⟩ = some (.int .i64 c.grace) ∧ v3.cell? ⟨g, 4, none⟩ = some (.int .i64 c.budget) ∧ v3.cell? ⟨g, 5, none⟩ = some (.int .i64 c.seed) := ⟨P3b.box.cell 0, P3b.box.cell 1, P3b.box.cell 2, P3b.box.cell 3, P3b.box.cell 4, P3b.box.cell 5⟩
         clear H3)
      | (go_at_call 37; refine (H4.out _).mono ?_; rintro e v4 ⟨rfl, hb4⟩
         have P4b := P3b.call hb4
         have q4b : v4.cell? ⟨g, 0, none⟩ = some (.int .i64 c.conns) ∧ v4.cell? ⟨g, 1, none⟩ = some (.int .i64 c.body) ∧ v4.cell? ⟨g, 2, none⟩ = some (.int .i64 c.idle) ∧ v4.cell? ⟨g, 3, none⟩ = some (.int .i64 c.grace) ∧ v4.cell? ⟨g, 4, none⟩ = some (.int .i64 c.budget) ∧ v4.cell? ⟨g, 5, none⟩ = some (.int .i64 c.seed) := ⟨P4b.box.cell 0, P4b.box.cell 1, P4b.box.cell 2, P4b.box.cell 3, P4b.box.cell 4, P4b.box.cell 5⟩
         clear H4)
      | (go_at_call 37; refine (H5.out _).mono ?_; rintro e v5 ⟨rfl, hb5⟩
         have P5b := P4b.call hb5
         have q5b : v5.cell? ⟨g, 0, none⟩ = some (.int .i64 c.conns) ∧ v5.cell? ⟨g, 1, none⟩ = some (.int .i64 c.body) ∧ v5.cell? ⟨g, 2, none⟩ = some (.int .i64 c.idle) ∧ v5.cell? ⟨g, 3, none⟩ = some (.int .i64 c.grace) ∧ v5.cell? ⟨g, 4, none⟩ = some (.int .i64 c.budget) ∧ v5.cell? ⟨g, 5, none⟩ = some (.int .i64 c.seed) := ⟨P5b.box.cell 0, P5b.box.cell 1, P5b.box.cell 2, P5b.box.cell 3, P5b.box.cell 4, P5b.box.cell 5⟩
         clear H5))
  have K2 := Lib.hid P5b
  clear K1 P0 q0 P0b q0b hb0 P1b q1b hb1 P2b q2b hb2 P3b q3b hb3 P4b q4b hb4 P5b q5b hb5 s0 s1 s2 s3 s4 s5 s6
  rw [← HV.out]
  clear HV
  go_wp2_with fail
  go_loopw [3, 4] (fun o i2 wr => ∃ k : Nat, k ≤ c.filters.length ∧ i2 = .int .i64 k ∧ o = .string (ofL (textL (lineW LISTEN (listenW c) :: (c.filters.take k).map (fun f => lineW FILTER (filtW f))))) ∧ Hid (Kb w g c (.slice pf c.filters.length cf) (.slice pc c.clusters.length cc) (.slice pv c.vhosts.length cv) wr)) (fun _ i2 _ => c.filters.length - (intOf i2).toNat)
  case atStart => exact ⟨0, Nat.zero_le _, rfl, rfl, K2⟩
  case round =>
    obtain ⟨k, hk, rfl, rfl, HJ⟩ := hrel
    clear K2
    have b6 : wr.cell? ⟨g, 6, none⟩ = some (.slice pf c.filters.length cf) := HJ.out.box.cell 6
    by_cases hlt : k < c.filters.length
    · have hki : (k : Int) < (c.filters.length : Int) := by omega
      have hk0 : (0 : Int) ≤ (k : Int) := by omega
      obtain ⟨gf, of, rfl, hxc⟩ := R14Check.filts_at HJ.out.cf.filters k hlt
      obtain ⟨x, hxx⟩ : ∃ x, x = c.filters[k] := ⟨_, rfl⟩
      obtain ⟨m0, m1, m2, m3, m4, m5⟩ := hxc x hxx
      have hfx : FitFilt x := by rw [hxx]; exact HX.out.filters.2 _ (List.getElem_mem hlt)
      have HS : Hid (textL (lineW LISTEN (listenW c) :: (c.filters.take (k + 1)).map (fun f => lineW FILTER (filtW f))) = textL (lineW LISTEN (listenW c) :: (c.filters.take k).map (fun f => lineW FILTER (filtW f))) ++ (lineW FILTER (filtW x) ++ [10])) := Lib.hid (by
        rw [List.take_succ_eq_append_getElem hlt, List.map_append, hxx, ← List.cons_append, textL_append]
        simp [textL])
      have hY : (ofL (textL (lineW LISTEN (listenW c) :: (c.filters.take k).map (fun f => lineW FILTER (filtW f))))).size ≤ 90000000000 := by
        rw [ofL_size]
        refine part_len (B := (c.filters.drop k).map (fun f => lineW FILTER (filtW f)) ++ (c.clusters.map (fun x => lineW CLUSTER (clusW x)) ++ c.vhosts.flatMap vhosLs)) HX.out HR.out ?_
        have e : c.filters.map (fun f => lineW FILTER (filtW f)) = (c.filters.take k).map (fun f => lineW FILTER (filtW f)) ++ (c.filters.drop k).map (fun f => lineW FILTER (filtW f)) := by rw [← List.map_append, List.take_append_drop]
        unfold linesC
        rw [e]
        simp only [List.cons_append, List.append_assoc]
      have H0 := Lib.hid (fun w => rnumber_any x.kind hfx.kind.1 hfx.kind.2 w)
      have z0 : (ofL (32 :: decZ x.kind)).size ≤ 4000000 := by rw [ofL_size, List.length_cons]; have := decZ_len hfx.kind.1 hfx.kind.2; omega
      have H1 := Lib.hid (fun w => rwordB_any (ofL x.name) (by rw [ofL_size]; exact hfx.name) w)
      rw [toL_ofL] at H1
      have z1 : (ofL (32 :: word x.name)).size ≤ 4000000 := by rw [ofL_size, List.length_cons]; have := word_len x.name; have := hfx.name; omega
      have H2 := Lib.hid (fun w => rwordB_any (ofL x.value) (by rw [ofL_size]; exact hfx.value) w)
      rw [toL_ofL] at H2
      have z2 : (ofL (32 :: word x.value)).size ≤ 4000000 := by rw [ofL_size, List.length_cons]; have := word_len x.value; have := hfx.value; omega
      have H3 := Lib.hid (fun w => rnumber_any x.n hfx.n.1 hfx.n.2 w)
      have z3 : (ofL (32 :: decZ x.n)).size ≤ 4000000 := by rw [ofL_size, List.length_cons]; have := decZ_len hfx.n.1 hfx.n.2; omega
      have H4 := Lib.hid (fun w => rnumber_any x.m hfx.m.1 hfx.m.2 w)
      have z4 : (ofL (32 :: decZ x.m)).size ≤ 4000000 := by rw [ofL_size, List.length_cons]; have := decZ_len hfx.m.1 hfx.m.2; omega
      have H5 := Lib.hid (fun w => rnumber_any x.k hfx.k.1 hfx.k.2 w)
      have z5 : (ofL (32 :: decZ x.k)).size ≤ 4000000 := by rw [ofL_size, List.length_cons]; have := decZ_len hfx.k.1 hfx.k.2; omega
      have HV : Hid (ofL (textL (lineW LISTEN (listenW c) :: (c.filters.take (k + 1)).map (fun f => lineW FILTER (filtW f)))) = ofL (textL (lineW LISTEN (listenW c) :: (c.filters.take k).map (fun f => lineW FILTER (filtW f)))) ++ (⟨#[102, 105, 108, 116, 101, 114]⟩ : ByteArray) ++ ofL (32 :: decZ x.kind) ++ ofL (32 :: word x.name) ++ ofL (32 :: word x.value) ++ ofL (32 :: decZ x.n) ++ ofL (32 :: decZ x.m) ++ ofL (32 :: decZ x.k) ++ (⟨#[10]⟩ : ByteArray)) := Lib.hid (by
        rw [HS.out, show (⟨#[102, 105, 108, 116, 101, 114]⟩ : ByteArray) = ofL [102, 105, 108, 116, 101, 114] from rfl, show (⟨#[10]⟩ : ByteArray) = ofL [10] from rfl]
        simp only [str_app]
        congr 1
        simp [lineW, filtW, FILTER])
      generalize textL (lineW LISTEN (listenW c) :: (c.filters.take k).map (fun f => lineW FILTER (filtW f))) = XX at *
      obtain ⟨Y, hYe⟩ : ∃ Y, Y = ofL XX := ⟨_, rfl⟩
      rw [← hYe] at hY HV ⊢
      obtain ⟨A0, hA0⟩ : ∃ A0, A0 = ofL (32 :: decZ x.kind) := ⟨_, rfl⟩
      rw [← hA0] at H0 z0 HV
      obtain ⟨A1, hA1⟩ : ∃ A1, A1 = ofL (32 :: word x.name) := ⟨_, rfl⟩
      rw [← hA1] at H1 z1 HV
      obtain ⟨A2, hA2⟩ : ∃ A2, A2 = ofL (32 :: word x.value) := ⟨_, rfl⟩
      rw [← hA2] at H2 z2 HV
      obtain ⟨A3, hA3⟩ : ∃ A3, A3 = ofL (32 :: decZ x.n) := ⟨_, rfl⟩
      rw [← hA3] at H3 z3 HV
      obtain ⟨A4, hA4⟩ : ∃ A4, A4 = ofL (32 :: decZ x.m) := ⟨_, rfl⟩
      rw [← hA4] at H4 z4 HV
      obtain ⟨A5, hA5⟩ : ∃ A5, A5 = ofL (32 :: decZ x.k) := ⟨_, rfl⟩
      rw [← hA5] at H5 z5 HV
      have t0 : ¬ (9223372036854775807 < Y.size + 6) := by omega
      have t0_ : ¬ (9223372036854775807 < Y.size + 6 + A0.size) := by omega
      have t1_ : ¬ (9223372036854775807 < Y.size + 6 + A0.size + A1.size) := by omega
      have t2_ : ¬ (9223372036854775807 < Y.size + 6 + A0.size + A1.size + A2.size) := by omega
      have t3_ : ¬ (9223372036854775807 < Y.size + 6 + A0.size + A1.size + A2.size + A3.size) := by omega
      have t4_ : ¬ (9223372036854775807 < Y.size + 6 + A0.size + A1.size + A2.size + A3.size + A4.size) := by omega
      have t5_ : ¬ (9223372036854775807 < Y.size + 6 + A0.size + A1.size + A2.size + A3.size + A4.size + A5.size) := by omega
      have te : ¬ (9223372036854775807 < Y.size + 6 + A0.size + A1.size + A2.size + A3.size + A4.size + A5.size + 1) := by omega
      have P00 := Lib.hid (Pb.start HJ.out R14Eq.FT #[.int .i64 x.kind, .string (ofL x.name), .string (ofL x.value), .int .i64 x.n, .int .i64 x.m, .int .i64 x.k])
      obtain ⟨gi, hgi⟩ : ∃ gi, gi = wr.heap.size := ⟨_, rfl⟩
      rw [← hgi] at P00
      have HGi := Lib.hid hgi
      unfold R14Eq.FT at P00
      clear hxc hxx hfx hYe hgi hY HJ hA0 z0 hA1 z1 hA2 z2 hA3 z3 hA4 z4 hA5 z5
      go_wp2_with fail
      rw [← HGi.out]
      generalize wr.alloc (.cells #[.int .i64 x.kind, .string (ofL x.name), .string (ofL x.value), .int .i64 x.n, .int .i64 x.m, .int .i64 x.k] 49) = W2 at P00 ⊢
      clear b6 m0 m1 m2 m3 m4 m5
      have P0 := P00.out.drew
      have q0 : W2.drew.cell? ⟨gi, 0, none⟩ = some (.int .i64 x.kind) ∧ W2.drew.cell? ⟨gi, 1, none⟩ = some (.string (ofL x.name)) ∧ W2.drew.cell? ⟨gi, 2, none⟩ = some (.string (ofL x.value)) ∧ W2.drew.cell? ⟨gi, 3, none⟩ = some (.int .i64 x.n) ∧ W2.drew.cell? ⟨gi, 4, none⟩ = some (.int .i64 x.m) ∧ W2.drew.cell? ⟨gi, 5, none⟩ = some (.int .i64 x.k) := ⟨P0.it.cell 0, P0.it.cell 1, P0.it.cell 2, P0.it.cell 3, P0.it.cell 4, P0.it.cell 5⟩
      go_region_held3 (fun w' => w'.cell? ⟨gi, 0, none⟩ = some (.int .i64 x.kind) ∧ w'.cell? ⟨gi, 1, none⟩ = some (.string (ofL x.name)) ∧ w'.cell? ⟨gi, 2, none⟩ = some (.string (ofL x.value)) ∧ w'.cell? ⟨gi, 3, none⟩ = some (.int .i64 x.n) ∧ w'.cell? ⟨gi, 4, none⟩ = some (.int .i64 x.m) ∧ w'.cell? ⟨gi, 5, none⟩ = some (.int .i64 x.k)) (first | exact q5b | exact q4b | exact q3b | exact q2b | exact q1b | exact q0b | exact q0)
        (first
          | (go_at_call 37; refine (H0.out _).mono ?_; rintro e v0 ⟨rfl, hb0⟩
             have P0b := P0.call hb0
             have q0b : v0.cell? ⟨gi, 0, none⟩ = some (.int .i64 x.kind) ∧ v0.cell? ⟨gi, 1, none⟩ = some (.string (ofL x.name)) ∧ v0.cell? ⟨gi, 2, none⟩ = some (.string (ofL x.value)) ∧ v0.cell? ⟨gi, 3, none⟩ = some (.int .i64 x.n) ∧ v0.cell? ⟨gi, 4, none⟩ = some (.int .i64 x.m) ∧ v0.cell? ⟨gi, 5, none⟩ = some (.int .i64 x.k) := ⟨P0b.it.cell 0, P0b.it.cell 1, P0b.it.cell 2, P0b.it.cell 3, P0b.it.cell 4, P0b.it.cell 5⟩
             clear H0)
          | (go_at_call 38; refine (H1.out _).mono ?_; rintro e v1 ⟨rfl, hb1⟩
             have P1b := P0b.call hb1
             have q1b : v1.cell? ⟨gi, 0, none⟩ = some (.int .i64 x.kind) ∧ v1.cell? ⟨gi, 1, none⟩ = some (.string (ofL x.name)) ∧ v1.cell? ⟨gi, 2, none⟩ = some (.string (ofL x.value)) ∧ v1.cell? ⟨gi, 3, none⟩ = some (.int .i64 x.n) ∧ v1.cell? ⟨gi, 4, none⟩ = some (.int .i64 x.m) ∧ v1.cell? ⟨gi, 5, none⟩ = some (.int .i64 x.k) := ⟨P1b.it.cell 0, P1b.it.cell 1, P1b.it.cell 2, P1b.it.cell 3, P1b.it.cell 4, P1b.it.cell 5⟩
             clear H1)
          | (go_at_call 38; refine (H2.out _).mono ?_; rintro e v2 ⟨rfl, hb2⟩
             have P2b := P1b.call hb2
             have q2b : v2.cell? ⟨gi, 0, none⟩ = some (.int .i64 x.kind) ∧ v2.cell? ⟨gi, 1, none⟩ = some (.string (ofL x.name)) ∧ v2.cell? ⟨gi, 2, none⟩ = some (.string (ofL x.value)) ∧ v2.cell? ⟨gi, 3, none⟩ = some (.int .i64 x.n) ∧ v2.cell? ⟨gi, 4, none⟩ = some (.int .i64 x.m) ∧ v2.cell? ⟨gi, 5, none⟩ = some (.int .i64 x.k) := ⟨P2b.it.cell 0, P2b.it.cell 1, P2b.it.cell 2, P2b.it.cell 3, P2b.it.cell 4, P2b.it.cell 5⟩
             clear H2)
          | (go_at_call 37; refine (H3.out _).mono ?_; rintro e v3 ⟨rfl, hb3⟩
             have P3b := P2b.call hb3
             have q3b : v3.cell? ⟨gi, 0, none⟩ = some (.int .i64 x.kind) ∧ v3.cell? ⟨gi, 1, none⟩ = some (.string (ofL x.name)) ∧ v3.cell? ⟨gi, 2, none⟩ = some (.string (ofL x.value)) ∧ v3.cell? ⟨gi, 3, none⟩ = some (.int .i64 x.n) ∧ v3.cell? ⟨gi, 4, none⟩ = some (.int .i64 x.m) ∧ v3.cell? ⟨gi, 5, none⟩ = some (.int .i64 x.k) := ⟨P3b.it.cell 0, P3b.it.cell 1, P3b.it.cell 2, P3b.it.cell 3, P3b.it.cell 4, P3b.it.cell 5⟩
             clear H3)
          | (go_at_call 37; refine (H4.out _).mono ?_; rintro e v4 ⟨rfl, hb4⟩
             have P4b := P3b.call hb4
             have q4b : v4.cell? ⟨gi, 0, none⟩ = some (.int .i64 x.kind) ∧ v4.cell? ⟨gi, 1, none⟩ = some (.string (ofL x.name)) ∧ v4.cell? ⟨gi, 2, none⟩ = some (.string (ofL x.value)) ∧ v4.cell? ⟨gi, 3, none⟩ = some (.int .i64 x.n) ∧ v4.cell? ⟨gi, 4, none⟩ = some (.int .i64 x.m) ∧ v4.cell? ⟨gi, 5, none⟩ = some (.int .i64 x.k) := ⟨P4b.it.cell 0, P4b.it.cell 1, P4b.it.cell 2, P4b.it.cell 3, P4b.it.cell 4, P4b.it.cell 5⟩
             clear H4)
          | (go_at_call 37; refine (H5.out _).mono ?_; rintro e v5 ⟨rfl, hb5⟩
             have P5b := P4b.call hb5
             have q5b : v5.cell? ⟨gi, 0, none⟩ = some (.int .i64 x.kind) ∧ v5.cell? ⟨gi, 1, none⟩ = some (.string (ofL x.name)) ∧ v5.cell? ⟨gi, 2, none⟩ = some (.string (ofL x.value)) ∧ v5.cell? ⟨gi, 3, none⟩ = some (.int .i64 x.n) ∧ v5.cell? ⟨gi, 4, none⟩ = some (.int .i64 x.m) ∧ v5.cell? ⟨gi, 5, none⟩ = some (.int .i64 x.k) := ⟨P5b.it.cell 0, P5b.it.cell 1, P5b.it.cell 2, P5b.it.cell 3, P5b.it.cell 4, P5b.it.cell 5⟩
             clear H5))
      have K3 := Lib.hid P5b.kb
      clear P00 P0 q0 P0b q0b hb0 P1b q1b hb1 P2b q2b hb2 P3b q3b hb3 P4b q4b hb4 P5b q5b hb5 t0 te t0_ t1_ t2_ t3_ t4_ t5_
      rw [← HV.out]
      go_wp2_with fail
      go_roundw
      case rel => exact ⟨k + 1, by omega, by go_num, rfl, K3⟩
      case measure => simp [intOf]; omega
    · have hki : ¬ (k : Int) < (c.filters.length : Int) := by omega
      obtain rfl : k = c.filters.length := by omega
      have HT : Hid (textL (lineW LISTEN (listenW c) :: (c.filters.take c.filters.length).map (fun f => lineW FILTER (filtW f))) = textL (lineW LISTEN (listenW c) :: c.filters.map (fun f => lineW FILTER (filtW f)))) := Lib.hid (by rw [List.take_length])
      rw [HT.out]
      have K3 := Lib.hid HJ.out
      clear HJ hlt HT
      go_wp2_with fail
      clear b6 hk hki
      rw [show textL (lineW LISTEN (listenW c) :: c.filters.map (fun f => lineW FILTER (filtW f))) = textL (lineW LISTEN (listenW c) :: (c.filters.map (fun f => lineW FILTER (filtW f)) ++ (c.clusters.take 0).map (fun x => lineW CLUSTER (clusW x)))) by simp]
      go_loopw [3, 6] (fun o i2 wr => ∃ k : Nat, k ≤ c.clusters.length ∧ i2 = .int .i64 k ∧ o = .string (ofL (textL (lineW LISTEN (listenW c) :: (c.filters.map (fun f => lineW FILTER (filtW f)) ++ (c.clusters.take k).map (fun x => lineW CLUSTER (clusW x)))))) ∧ Hid (Kb w g c (.slice pf c.filters.length cf) (.slice pc c.clusters.length cc) (.slice pv c.vhosts.length cv) wr)) (fun _ i2 _ => c.clusters.length - (intOf i2).toNat)
      case atStart => exact ⟨0, Nat.zero_le _, rfl, by simp, K3⟩
      case round =>
        obtain ⟨k, hk, rfl, rfl, HJ⟩ := hrel
        clear K3
        have b7 : wr.cell? ⟨g, 7, none⟩ = some (.slice pc c.clusters.length cc) := HJ.out.box.cell 7
        by_cases hlt : k < c.clusters.length
        · have hki : (k : Int) < (c.clusters.length : Int) := by omega
          have hk0 : (0 : Int) ≤ (k : Int) := by omega
          obtain ⟨gc, oc, rfl, hxc⟩ := R14Check.cluss_at HJ.out.cf.clusters k hlt
          obtain ⟨x, hxx⟩ : ∃ x, x = c.clusters[k] := ⟨_, rfl⟩
          obtain ⟨h, htx, m0, m1, m2, m3, m4, m5, m6, m7, m8⟩ := hxc x hxx
          obtain ⟨ph, ch, rfl, _, _⟩ := id htx
          have hfx : FitClus x := by rw [hxx]; exact HX.out.clusters.2 _ (List.getElem_mem hlt)
          have HFx := Lib.hid hfx
          have HS : Hid (textL (lineW LISTEN (listenW c) :: (c.filters.map (fun f => lineW FILTER (filtW f)) ++ (c.clusters.take (k + 1)).map (fun x => lineW CLUSTER (clusW x)))) = textL (lineW LISTEN (listenW c) :: (c.filters.map (fun f => lineW FILTER (filtW f)) ++ (c.clusters.take k).map (fun x => lineW CLUSTER (clusW x)))) ++ (lineW CLUSTER (clusW x) ++ [10])) := Lib.hid (by
            rw [List.take_succ_eq_append_getElem hlt, List.map_append, hxx, ← List.append_assoc, ← List.cons_append, textL_append]
            simp [textL])
          have hY1 : (textL (lineW LISTEN (listenW c) :: (c.filters.map (fun f => lineW FILTER (filtW f)) ++ (c.clusters.take (k + 1)).map (fun x => lineW CLUSTER (clusW x))))).length ≤ 90000000000 := by
            refine part_len (B := (c.clusters.drop (k + 1)).map (fun x => lineW CLUSTER (clusW x)) ++ c.vhosts.flatMap vhosLs) HX.out HR.out ?_
            have e : c.clusters.map (fun x => lineW CLUSTER (clusW x)) = (c.clusters.take (k + 1)).map (fun x => lineW CLUSTER (clusW x)) ++ (c.clusters.drop (k + 1)).map (fun x => lineW CLUSTER (clusW x)) := by rw [← List.map_append, List.take_append_drop]
            unfold linesC
            rw [e]
            simp only [List.cons_append, List.append_assoc]
          rw [HS.out] at hY1
          have HLine : Hid (lineW CLUSTER (clusW x) = lineW CLUSTER [word x.name, decZ x.policy, decZ x.conns, decZ x.pending, decZ x.try_, decZ x.fails, decZ x.eject, decZ x.panic] ++ x.hosts.flatMap (fun t => 32 :: t)) := Lib.hid (by simp [lineW, clusW])
          rw [HLine.out] at HS hY1
          have HLen := Lib.hid hY1
          have hY : (ofL (textL (lineW LISTEN (listenW c) :: (c.filters.map (fun f => lineW FILTER (filtW f)) ++ (c.clusters.take k).map (fun x => lineW CLUSTER (clusW x)))))).size ≤ 90000000000 := by
            rw [ofL_size]
            rw [List.length_append] at hY1
            omega
          clear hY1 HLine
          have H0 := Lib.hid (fun w => rwordB_any (ofL x.name) (by rw [ofL_size]; exact hfx.name) w)
          rw [toL_ofL] at H0
          have z0 : (ofL (32 :: word x.name)).size ≤ 4000000 := by rw [ofL_size, List.length_cons]; have := word_len x.name; have := hfx.name; omega
          have H1 := Lib.hid (fun w => rnumber_any x.policy hfx.policy.1 hfx.policy.2 w)
          have z1 : (ofL (32 :: decZ x.policy)).size ≤ 4000000 := by rw [ofL_size, List.length_cons]; have := decZ_len hfx.policy.1 hfx.policy.2; omega
          have H2 := Lib.hid (fun w => rnumber_any x.conns hfx.conns.1 hfx.conns.2 w)
          have z2 : (ofL (32 :: decZ x.conns)).size ≤ 4000000 := by rw [ofL_size, List.length_cons]; have := decZ_len hfx.conns.1 hfx.conns.2; omega
          have H3 := Lib.hid (fun w => rnumber_any x.pending hfx.pending.1 hfx.pending.2 w)
          have z3 : (ofL (32 :: decZ x.pending)).size ≤ 4000000 := by rw [ofL_size, List.length_cons]; have := decZ_len hfx.pending.1 hfx.pending.2; omega
          have H4 := Lib.hid (fun w => rnumber_any x.try_ hfx.try_.1 hfx.try_.2 w)
          have z4 : (ofL (32 :: decZ x.try_)).size ≤ 4000000 := by rw [ofL_size, List.length_cons]; have := decZ_len hfx.try_.1 hfx.try_.2; omega
          have H5 := Lib.hid (fun w => rnumber_any x.fails hfx.fails.1 hfx.fails.2 w)
          have z5 : (ofL (32 :: decZ x.fails)).size ≤ 4000000 := by rw [ofL_size, List.length_cons]; have := decZ_len hfx.fails.1 hfx.fails.2; omega
          have H6 := Lib.hid (fun w => rnumber_any x.eject hfx.eject.1 hfx.eject.2 w)
          have z6 : (ofL (32 :: decZ x.eject)).size ≤ 4000000 := by rw [ofL_size, List.length_cons]; have := decZ_len hfx.eject.1 hfx.eject.2; omega
          have H7 := Lib.hid (fun w => rnumber_any x.panic hfx.panic.1 hfx.panic.2 w)
          have z7 : (ofL (32 :: decZ x.panic)).size ≤ 4000000 := by rw [ofL_size, List.length_cons]; have := decZ_len hfx.panic.1 hfx.panic.2; omega
          have HV : Hid (ofL (textL (lineW LISTEN (listenW c) :: (c.filters.map (fun f => lineW FILTER (filtW f)) ++ (c.clusters.take k).map (fun x => lineW CLUSTER (clusW x)))) ++ lineW CLUSTER [word x.name, decZ x.policy, decZ x.conns, decZ x.pending, decZ x.try_, decZ x.fails, decZ x.eject, decZ x.panic]) = ofL (textL (lineW LISTEN (listenW c) :: (c.filters.map (fun f => lineW FILTER (filtW f)) ++ (c.clusters.take k).map (fun x => lineW CLUSTER (clusW x))))) ++ (⟨#[99, 108, 117, 115, 116, 101, 114]⟩ : ByteArray) ++ ofL (32 :: word x.name) ++ ofL (32 :: decZ x.policy) ++ ofL (32 :: decZ x.conns) ++ ofL (32 :: decZ x.pending) ++ ofL (32 :: decZ x.try_) ++ ofL (32 :: decZ x.fails) ++ ofL (32 :: decZ x.eject) ++ ofL (32 :: decZ x.panic)) := Lib.hid (by
            rw [show (⟨#[99, 108, 117, 115, 116, 101, 114]⟩ : ByteArray) = ofL [99, 108, 117, 115, 116, 101, 114] from rfl]
            simp only [str_app]
            congr 1
            simp [lineW, CLUSTER])
          obtain ⟨NX, hNX⟩ : ∃ NX, NX = textL (lineW LISTEN (listenW c) :: (c.filters.map (fun f => lineW FILTER (filtW f)) ++ (c.clusters.take (k + 1)).map (fun x => lineW CLUSTER (clusW x)))) := ⟨_, rfl⟩
          rw [← hNX] at HS
          have HNX := Lib.hid hNX
          generalize textL (lineW LISTEN (listenW c) :: (c.filters.map (fun f => lineW FILTER (filtW f)) ++ (c.clusters.take k).map (fun x => lineW CLUSTER (clusW x)))) = XX at *
          obtain ⟨Y, hYe⟩ : ∃ Y, Y = ofL XX := ⟨_, rfl⟩
          rw [← hYe] at hY HV ⊢
          obtain ⟨CW, hCW⟩ : ∃ CW, CW = lineW CLUSTER [word x.name, decZ x.policy, decZ x.conns, decZ x.pending, decZ x.try_, decZ x.fails, decZ x.eject, decZ x.panic] := ⟨_, rfl⟩
          rw [← hCW] at HV HS HLen
          obtain ⟨A0, hA0⟩ : ∃ A0, A0 = ofL (32 :: word x.name) := ⟨_, rfl⟩
          rw [← hA0] at H0 z0 HV
          obtain ⟨A1, hA1⟩ : ∃ A1, A1 = ofL (32 :: decZ x.policy) := ⟨_, rfl⟩
          rw [← hA1] at H1 z1 HV
          obtain ⟨A2, hA2⟩ : ∃ A2, A2 = ofL (32 :: decZ x.conns) := ⟨_, rfl⟩
          rw [← hA2] at H2 z2 HV
          obtain ⟨A3, hA3⟩ : ∃ A3, A3 = ofL (32 :: decZ x.pending) := ⟨_, rfl⟩
          rw [← hA3] at H3 z3 HV
          obtain ⟨A4, hA4⟩ : ∃ A4, A4 = ofL (32 :: decZ x.try_) := ⟨_, rfl⟩
          rw [← hA4] at H4 z4 HV
          obtain ⟨A5, hA5⟩ : ∃ A5, A5 = ofL (32 :: decZ x.fails) := ⟨_, rfl⟩
          rw [← hA5] at H5 z5 HV
          obtain ⟨A6, hA6⟩ : ∃ A6, A6 = ofL (32 :: decZ x.eject) := ⟨_, rfl⟩
          rw [← hA6] at H6 z6 HV
          obtain ⟨A7, hA7⟩ : ∃ A7, A7 = ofL (32 :: decZ x.panic) := ⟨_, rfl⟩
          rw [← hA7] at H7 z7 HV
          have t0 : ¬ (9223372036854775807 < Y.size + 7) := by omega
          have t0_ : ¬ (9223372036854775807 < Y.size + 7 + A0.size) := by omega
          have t1_ : ¬ (9223372036854775807 < Y.size + 7 + A0.size + A1.size) := by omega
          have t2_ : ¬ (9223372036854775807 < Y.size + 7 + A0.size + A1.size + A2.size) := by omega
          have t3_ : ¬ (9223372036854775807 < Y.size + 7 + A0.size + A1.size + A2.size + A3.size) := by omega
          have t4_ : ¬ (9223372036854775807 < Y.size + 7 + A0.size + A1.size + A2.size + A3.size + A4.size) := by omega
          have t5_ : ¬ (9223372036854775807 < Y.size + 7 + A0.size + A1.size + A2.size + A3.size + A4.size + A5.size) := by omega
          have t6_ : ¬ (9223372036854775807 < Y.size + 7 + A0.size + A1.size + A2.size + A3.size + A4.size + A5.size + A6.size) := by omega
          have t7_ : ¬ (9223372036854775807 < Y.size + 7 + A0.size + A1.size + A2.size + A3.size + A4.size + A5.size + A6.size + A7.size) := by omega
          have P00 := Lib.hid (Pb.start HJ.out KT #[.string (ofL x.name), .int .i64 x.policy, .slice ph x.hosts.length ch, .int .i64 x.conns, .int .i64 x.pending, .int .i64 x.try_, .int .i64 x.fails, .int .i64 x.eject, .int .i64 x.panic])
          have HTx : Hid (Texts (wr.alloc (.cells #[.string (ofL x.name), .int .i64 x.policy, .slice ph x.hosts.length ch, .int .i64 x.conns, .int .i64 x.pending, .int .i64 x.try_, .int .i64 x.fails, .int .i64 x.eject, .int .i64 x.panic] KT)) (.slice ph x.hosts.length ch) x.hosts) := Lib.hid (Texts.below htx ((Below.refl _ _).alloc (Nat.le_refl _) _))
          obtain ⟨gi, hgi⟩ : ∃ gi, gi = wr.heap.size := ⟨_, rfl⟩
          rw [← hgi] at P00
          have HGi := Lib.hid hgi
          unfold KT at P00 HTx
          clear hxc hxx hfx hYe hgi hY HJ htx hCW hNX hA0 z0 hA1 z1 hA2 z2 hA3 z3 hA4 z4 hA5 z5 hA6 z6 hA7 z7
          go_wp2_with fail
          rw [← HGi.out]
          generalize wr.alloc (.cells #[.string (ofL x.name), .int .i64 x.policy, .slice ph x.hosts.length ch, .int .i64 x.conns, .int .i64 x.pending, .int .i64 x.try_, .int .i64 x.fails, .int .i64 x.eject, .int .i64 x.panic] 38) = W2 at P00 HTx ⊢
          clear b7 m0 m1 m2 m3 m4 m5 m6 m7 m8
          have P0 := P00.out.drew
          have q0 : W2.drew.cell? ⟨gi, 0, none⟩ = some (.string (ofL x.name)) ∧ W2.drew.cell? ⟨gi, 1, none⟩ = some (.int .i64 x.policy) ∧ W2.drew.cell? ⟨gi, 2, none⟩ = some (.slice ph x.hosts.length ch) ∧ W2.drew.cell? ⟨gi, 3, none⟩ = some (.int .i64 x.conns) ∧ W2.drew.cell? ⟨gi, 4, none⟩ = some (.int .i64 x.pending) ∧ W2.drew.cell? ⟨gi, 5, none⟩ = some (.int .i64 x.try_) ∧ W2.drew.cell? ⟨gi, 6, none⟩ = some (.int .i64 x.fails) ∧ W2.drew.cell? ⟨gi, 7, none⟩ = some (.int .i64 x.eject) ∧ W2.drew.cell? ⟨gi, 8, none⟩ = some (.int .i64 x.panic) := ⟨P0.it.cell 0, P0.it.cell 1, P0.it.cell 2, P0.it.cell 3, P0.it.cell 4, P0.it.cell 5, P0.it.cell 6, P0.it.cell 7, P0.it.cell 8⟩
          go_region_held3 (fun w' => w'.cell? ⟨gi, 0, none⟩ = some (.string (ofL x.name)) ∧ w'.cell? ⟨gi, 1, none⟩ = some (.int .i64 x.policy) ∧ w'.cell? ⟨gi, 2, none⟩ = some (.slice ph x.hosts.length ch) ∧ w'.cell? ⟨gi, 3, none⟩ = some (.int .i64 x.conns) ∧ w'.cell? ⟨gi, 4, none⟩ = some (.int .i64 x.pending) ∧ w'.cell? ⟨gi, 5, none⟩ = some (.int .i64 x.try_) ∧ w'.cell? ⟨gi, 6, none⟩ = some (.int .i64 x.fails) ∧ w'.cell? ⟨gi, 7, none⟩ = some (.int .i64 x.eject) ∧ w'.cell? ⟨gi, 8, none⟩ = some (.int .i64 x.panic)) (first | exact q7b | exact q6b | exact q5b | exact q4b | exact q3b | exact q2b | exact q1b | exact q0b | exact q0)
            (first
              | (go_at_call 38; refine (H0.out _).mono ?_; rintro e v0 ⟨rfl, hb0⟩
                 have P0b := P0.call hb0
                 have q0b : v0.cell? ⟨gi, 0, none⟩ = some (.string (ofL x.name)) ∧ v0.cell? ⟨gi, 1, none⟩ = some (.int .i64 x.policy) ∧ v0.cell? ⟨gi, 2, none⟩ = some (.slice ph x.hosts.length ch) ∧ v0.cell? ⟨gi, 3, none⟩ = some (.int .i64 x.conns) ∧ v0.cell? ⟨gi, 4, none⟩ = some (.int .i64 x.pending) ∧ v0.cell? ⟨gi, 5, none⟩ = some (.int .i64 x.try_) ∧ v0.cell? ⟨gi, 6, none⟩ = some (.int .i64 x.fails) ∧ v0.cell? ⟨gi, 7, none⟩ = some (.int .i64 x.eject) ∧ v0.cell? ⟨gi, 8, none⟩ = some (.int .i64 x.panic) := ⟨P0b.it.cell 0, P0b.it.cell 1, P0b.it.cell 2, P0b.it.cell 3, P0b.it.cell 4, P0b.it.cell 5, P0b.it.cell 6, P0b.it.cell 7, P0b.it.cell 8⟩
                 clear H0)
              | (go_at_call 37; refine (H1.out _).mono ?_; rintro e v1 ⟨rfl, hb1⟩
                 have P1b := P0b.call hb1
                 have q1b : v1.cell? ⟨gi, 0, none⟩ = some (.string (ofL x.name)) ∧ v1.cell? ⟨gi, 1, none⟩ = some (.int .i64 x.policy) ∧ v1.cell? ⟨gi, 2, none⟩ = some (.slice ph x.hosts.length ch) ∧ v1.cell? ⟨gi, 3, none⟩ = some (.int .i64 x.conns) ∧ v1.cell? ⟨gi, 4, none⟩ = some (.int .i64 x.pending) ∧ v1.cell? ⟨gi, 5, none⟩ = some (.int .i64 x.try_) ∧ v1.cell? ⟨gi, 6, none⟩ = some (.int .i64 x.fails) ∧ v1.cell? ⟨gi, 7, none⟩ = some (.int .i64 x.eject) ∧ v1.cell? ⟨gi, 8, none⟩ = some (.int .i64 x.panic) := ⟨P1b.it.cell 0, P1b.it.cell 1, P1b.it.cell 2, P1b.it.cell 3, P1b.it.cell 4, P1b.it.cell 5, P1b.it.cell 6, P1b.it.cell 7, P1b.it.cell 8⟩
                 clear H1)
              | (go_at_call 37; refine (H2.out _).mono ?_; rintro e v2 ⟨rfl, hb2⟩
                 have P2b := P1b.call hb2
                 have q2b : v2.cell? ⟨gi, 0, none⟩ = some (.string (ofL x.name)) ∧ v2.cell? ⟨gi, 1, none⟩ = some (.int .i64 x.policy) ∧ v2.cell? ⟨gi, 2, none⟩ = some (.slice ph x.hosts.length ch) ∧ v2.cell? ⟨gi, 3, none⟩ = some (.int .i64 x.conns) ∧ v2.cell? ⟨gi, 4, none⟩ = some (.int .i64 x.pending) ∧ v2.cell? ⟨gi, 5, none⟩ = some (.int .i64 x.try_) ∧ v2.cell? ⟨gi, 6, none⟩ = some (.int .i64 x.fails) ∧ v2.cell? ⟨gi, 7, none⟩ = some (.int .i64 x.eject) ∧ v2.cell? ⟨gi, 8, none⟩ = some (.int .i64 x.panic) := ⟨P2b.it.cell 0, P2b.it.cell 1, P2b.it.cell 2, P2b.it.cell 3, P2b.it.cell 4, P2b.it.cell 5, P2b.it.cell 6, P2b.it.cell 7, P2b.it.cell 8⟩
                 clear H2)
              | (go_at_call 37; refine (H3.out _).mono ?_; rintro e v3 ⟨rfl, hb3⟩
                 have P3b := P2b.call hb3
                 have q3b : v3.cell? ⟨gi, 0, none⟩ = some (.string (ofL x.name)) ∧ v3.cell? ⟨gi, 1, none⟩ = some (.int .i64 x.policy) ∧ v3.cell? ⟨gi, 2, none⟩ = some (.slice ph x.hosts.length ch) ∧ v3.cell? ⟨gi, 3, none⟩ = some (.int .i64 x.conns) ∧ v3.cell? ⟨gi, 4, none⟩ = some (.int .i64 x.pending) ∧ v3.cell? ⟨gi, 5, none⟩ = some (.int .i64 x.try_) ∧ v3.cell? ⟨gi, 6, none⟩ = some (.int .i64 x.fails) ∧ v3.cell? ⟨gi, 7, none⟩ = some (.int .i64 x.eject) ∧ v3.cell? ⟨gi, 8, none⟩ = some (.int .i64 x.panic) := ⟨P3b.it.cell 0, P3b.it.cell 1, P3b.it.cell 2, P3b.it.cell 3, P3b.it.cell 4, P3b.it.cell 5, P3b.it.cell 6, P3b.it.cell 7, P3b.it.cell 8⟩
                 clear H3)
              | (go_at_call 37; refine (H4.out _).mono ?_; rintro e v4 ⟨rfl, hb4⟩
                 have P4b := P3b.call hb4
                 have q4b : v4.cell? ⟨gi, 0, none⟩ = some (.string (ofL x.name)) ∧ v4.cell? ⟨gi, 1, none⟩ = some (.int .i64 x.policy) ∧ v4.cell? ⟨gi, 2, none⟩ = some (.slice ph x.hosts.length ch) ∧ v4.cell? ⟨gi, 3, none⟩ = some (.int .i64 x.conns) ∧ v4.cell? ⟨gi, 4, none⟩ = some (.int .i64 x.pending) ∧ v4.cell? ⟨gi, 5, none⟩ = some (.int .i64 x.try_) ∧ v4.cell? ⟨gi, 6, none⟩ = some (.int .i64 x.fails) ∧ v4.cell? ⟨gi, 7, none⟩ = some (.int .i64 x.eject) ∧ v4.cell? ⟨gi, 8, none⟩ = some (.int .i64 x.panic) := ⟨P4b.it.cell 0, P4b.it.cell 1, P4b.it.cell 2, P4b.it.cell 3, P4b.it.cell 4, P4b.it.cell 5, P4b.it.cell 6, P4b.it.cell 7, P4b.it.cell 8⟩
                 clear H4)
              | (go_at_call 37; refine (H5.out _).mono ?_; rintro e v5 ⟨rfl, hb5⟩
                 have P5b := P4b.call hb5
                 have q5b : v5.cell? ⟨gi, 0, none⟩ = some (.string (ofL x.name)) ∧ v5.cell? ⟨gi, 1, none⟩ = some (.int .i64 x.policy) ∧ v5.cell? ⟨gi, 2, none⟩ = some (.slice ph x.hosts.length ch) ∧ v5.cell? ⟨gi, 3, none⟩ = some (.int .i64 x.conns) ∧ v5.cell? ⟨gi, 4, none⟩ = some (.int .i64 x.pending) ∧ v5.cell? ⟨gi, 5, none⟩ = some (.int .i64 x.try_) ∧ v5.cell? ⟨gi, 6, none⟩ = some (.int .i64 x.fails) ∧ v5.cell? ⟨gi, 7, none⟩ = some (.int .i64 x.eject) ∧ v5.cell? ⟨gi, 8, none⟩ = some (.int .i64 x.panic) := ⟨P5b.it.cell 0, P5b.it.cell 1, P5b.it.cell 2, P5b.it.cell 3, P5b.it.cell 4, P5b.it.cell 5, P5b.it.cell 6, P5b.it.cell 7, P5b.it.cell 8⟩
                 clear H5)
              | (go_at_call 37; refine (H6.out _).mono ?_; rintro e v6 ⟨rfl, hb6⟩
                 have P6b := P5b.call hb6
                 have q6b : v6.cell? ⟨gi, 0, none⟩ = some (.string (ofL x.name)) ∧ v6.cell? ⟨gi, 1, none⟩ = some (.int .i64 x.policy) ∧ v6.cell? ⟨gi, 2, none⟩ = some (.slice ph x.hosts.length ch) ∧ v6.cell? ⟨gi, 3, none⟩ = some (.int .i64 x.conns) ∧ v6.cell? ⟨gi, 4, none⟩ = some (.int .i64 x.pending) ∧ v6.cell? ⟨gi, 5, none⟩ = some (.int .i64 x.try_) ∧ v6.cell? ⟨gi, 6, none⟩ = some (.int .i64 x.fails) ∧ v6.cell? ⟨gi, 7, none⟩ = some (.int .i64 x.eject) ∧ v6.cell? ⟨gi, 8, none⟩ = some (.int .i64 x.panic) := ⟨P6b.it.cell 0, P6b.it.cell 1, P6b.it.cell 2, P6b.it.cell 3, P6b.it.cell 4, P6b.it.cell 5, P6b.it.cell 6, P6b.it.cell 7, P6b.it.cell 8⟩
                 clear H6)
              | (go_at_call 37; refine (H7.out _).mono ?_; rintro e v7 ⟨rfl, hb7⟩
                 have P7b := P6b.call hb7
                 have q7b : v7.cell? ⟨gi, 0, none⟩ = some (.string (ofL x.name)) ∧ v7.cell? ⟨gi, 1, none⟩ = some (.int .i64 x.policy) ∧ v7.cell? ⟨gi, 2, none⟩ = some (.slice ph x.hosts.length ch) ∧ v7.cell? ⟨gi, 3, none⟩ = some (.int .i64 x.conns) ∧ v7.cell? ⟨gi, 4, none⟩ = some (.int .i64 x.pending) ∧ v7.cell? ⟨gi, 5, none⟩ = some (.int .i64 x.try_) ∧ v7.cell? ⟨gi, 6, none⟩ = some (.int .i64 x.fails) ∧ v7.cell? ⟨gi, 7, none⟩ = some (.int .i64 x.eject) ∧ v7.cell? ⟨gi, 8, none⟩ = some (.int .i64 x.panic) := ⟨P7b.it.cell 0, P7b.it.cell 1, P7b.it.cell 2, P7b.it.cell 3, P7b.it.cell 4, P7b.it.cell 5, P7b.it.cell 6, P7b.it.cell 7, P7b.it.cell 8⟩
                 clear H7))
          have K4 := Lib.hid P7b
          have HT4 : Hid (Texts v7 (.slice ph x.hosts.length ch) x.hosts) := Lib.hid (Texts.below (Texts.below (Texts.below (Texts.below (Texts.below (Texts.below (Texts.below (Texts.below (show Texts W2.drew _ _ from HTx.out) hb0) hb1) hb2) hb3) hb4) hb5) hb6) hb7)
          clear P00 P0 q0 HTx P0b q0b hb0 P1b q1b hb1 P2b q2b hb2 P3b q3b hb3 P4b q4b hb4 P5b q5b hb5 P6b q6b hb6 P7b q7b hb7 t0 t0_ t1_ t2_ t3_ t4_ t5_ t6_ t7_
          rw [← HV.out]
          go_wp2_with fail
          rw [show XX ++ CW = XX ++ CW ++ (x.hosts.take 0).flatMap (fun t => 32 :: t) by simp]
          go_loopw [3, 8] (fun o i2 wr => ∃ k2 : Nat, k2 ≤ x.hosts.length ∧ i2 = .int .i64 k2 ∧ o = .string (ofL (XX ++ CW ++ (x.hosts.take k2).flatMap (fun t => 32 :: t))) ∧ Hid (Pb w g c (.slice pf c.filters.length cf) (.slice (some ⟨gc, oc, none⟩) c.clusters.length cc) (.slice pv c.vhosts.length cv) gi 38 #[.string (ofL x.name), .int .i64 x.policy, .slice ph x.hosts.length ch, .int .i64 x.conns, .int .i64 x.pending, .int .i64 x.try_, .int .i64 x.fails, .int .i64 x.eject, .int .i64 x.panic] wr ∧ Texts wr (.slice ph x.hosts.length ch) x.hosts)) (fun _ i2 _ => x.hosts.length - (intOf i2).toNat)
          case atStart => exact ⟨0, Nat.zero_le _, rfl, rfl, Lib.hid ⟨K4.out, HT4.out⟩⟩
          case round =>
            obtain ⟨k2, hk2, rfl, rfl, HI⟩ := hrel
            clear K4 HT4
            have b2 : wr.cell? ⟨gi, 2, none⟩ = some (.slice ph x.hosts.length ch) := HI.out.1.it.cell 2
            have hh : x.hosts.length ≤ 1048576 := HFx.out.hosts.1
            by_cases hlt2 : k2 < x.hosts.length
            · have hki2 : (k2 : Int) < (x.hosts.length : Int) := by omega
              have hk20 : (0 : Int) ≤ (k2 : Int) := by omega
              have htx2 := HI.out.2
              obtain ⟨_, _, heq, -, hcell⟩ := id htx2
              injection heq with e1 e2 e3
              subst e1 e3
              obtain ⟨gh, oh, rfl, _, hcell⟩ := hcell (by omega)
              have c1 := hcell k2 hlt2
              obtain ⟨t, ht⟩ : ∃ t, t = x.hosts[k2] := ⟨_, rfl⟩
              rw [← ht] at c1
              have HS2 : Hid (XX ++ CW ++ (x.hosts.take (k2 + 1)).flatMap (fun t => 32 :: t) = XX ++ CW ++ (x.hosts.take k2).flatMap (fun t => 32 :: t) ++ 32 :: t) := Lib.hid (by
                rw [List.take_succ_eq_append_getElem hlt2, List.flatMap_append, ht]
                simp)
              have hP : (XX ++ CW ++ (x.hosts.take (k2 + 1)).flatMap (fun t => 32 :: t)).length ≤ 90000000000 := by
                have h1 := HLen.out
                have h2 : x.hosts.flatMap (fun t => 32 :: t) = (x.hosts.take (k2 + 1)).flatMap (fun t => 32 :: t) ++ (x.hosts.drop (k2 + 1)).flatMap (fun t => 32 :: t) := by rw [← List.flatMap_append, List.take_append_drop]
                rw [h2] at h1
                simp only [List.length_append] at h1 ⊢
                omega
              rw [HS2.out] at hP
              obtain ⟨P, hPe⟩ : ∃ P, P = XX ++ CW ++ (x.hosts.take k2).flatMap (fun t => 32 :: t) := ⟨_, rfl⟩
              rw [← hPe] at hP HS2 ⊢
              rw [List.length_append, List.length_cons] at hP
              have u1 : (ofL P).size + (⟨#[32]⟩ : ByteArray).size ≤ 9223372036854775807 := by rw [ofL_size]; exact (by omega : P.length + 1 ≤ 9223372036854775807)
              have u2 : (ofL P ++ ⟨#[32]⟩).size + (ofL t).size ≤ 9223372036854775807 := by rw [ByteArray.size_append, ofL_size, ofL_size]; exact (by omega : P.length + 1 + t.length ≤ 9223372036854775807)
              have HV2 : Hid (ofL P ++ ⟨#[32]⟩ ++ ofL t = ofL (P ++ 32 :: t)) := Lib.hid (by rw [show (⟨#[32]⟩ : ByteArray) = ofL [32] from rfl, str_app, str_app]; congr 1; simp)
              have HK := HI
              clear hPe ht hcell htx2 hP HI
              go_wp2_with fail
              go_roundw
              case rel => exact ⟨k2 + 1, by omega, by go_num, by rw [HS2.out, ← HV2.out], HK⟩
              case measure => simp [intOf]; omega
            · have hki2 : ¬ (k2 : Int) < (x.hosts.length : Int) := by omega
              obtain rfl : k2 = x.hosts.length := by omega
              have K5 := Lib.hid HI.out.1.kb
              have HS3 : Hid (NX = XX ++ CW ++ (x.hosts.take x.hosts.length).flatMap (fun t => 32 :: t) ++ [10]) := Lib.hid (by rw [HS.out, List.take_length]; simp)
              have hP : (XX ++ CW ++ (x.hosts.take x.hosts.length).flatMap (fun t => 32 :: t)).length ≤ 90000000000 := by
                have h1 := HLen.out
                rw [List.take_length]
                simp only [List.length_append] at h1 ⊢
                omega
              obtain ⟨P, hPe⟩ : ∃ P, P = XX ++ CW ++ (x.hosts.take x.hosts.length).flatMap (fun t => 32 :: t) := ⟨_, rfl⟩
              rw [← hPe] at hP HS3 ⊢
              have u1 : (ofL P).size + (⟨#[10]⟩ : ByteArray).size ≤ 9223372036854775807 := by rw [ofL_size]; exact (by omega : P.length + 1 ≤ 9223372036854775807)
              have HV2 : Hid (ofL P ++ ⟨#[10]⟩ = ofL (P ++ [10])) := Lib.hid (by rw [show (⟨#[10]⟩ : ByteArray) = ofL [10] from rfl, str_app])
              clear HI hlt2 hPe hP
              go_wp2_with fail
              go_roundw
              case rel => exact ⟨k + 1, by omega, by go_num, by rw [← HNX.out, HS3.out, ← HV2.out], K5⟩
              case measure => simp [intOf]; omega
        · have hki : ¬ (k : Int) < (c.clusters.length : Int) := by omega
          obtain rfl : k = c.clusters.length := by omega
          have HT : Hid (textL (lineW LISTEN (listenW c) :: (c.filters.map (fun f => lineW FILTER (filtW f)) ++ (c.clusters.take c.clusters.length).map (fun x => lineW CLUSTER (clusW x)))) = textL (lineW LISTEN (listenW c) :: (c.filters.map (fun f => lineW FILTER (filtW f)) ++ (c.clusters.map (fun x => lineW CLUSTER (clusW x)) ++ (c.vhosts.take 0).flatMap vhosLs)))) := Lib.hid (by rw [List.take_length]; simp)
          rw [HT.out]
          have K3 := Lib.hid HJ.out
          clear HJ hlt HT
          go_wp2_with fail
          clear b7 hk hki
          go_loopw [3, 9] (fun o i2 wr => ∃ k : Nat, k ≤ c.vhosts.length ∧ i2 = .int .i64 k ∧ o = .string (ofL (textL (lineW LISTEN (listenW c) :: (c.filters.map (fun f => lineW FILTER (filtW f)) ++ (c.clusters.map (fun x => lineW CLUSTER (clusW x)) ++ (c.vhosts.take k).flatMap vhosLs))))) ∧ Hid (Kb w g c (.slice pf c.filters.length cf) (.slice pc c.clusters.length cc) (.slice pv c.vhosts.length cv) wr)) (fun _ i2 _ => c.vhosts.length - (intOf i2).toNat)
          case atStart => exact ⟨0, Nat.zero_le _, rfl, by simp, K3⟩
          case round =>
            obtain ⟨k, hk, rfl, rfl, HJ⟩ := hrel
            clear K3
            have b8 : wr.cell? ⟨g, 8, none⟩ = some (.slice pv c.vhosts.length cv) := HJ.out.box.cell 8
            by_cases hlt : k < c.vhosts.length
            · have hki : (k : Int) < (c.vhosts.length : Int) := by omega
              have hk0 : (0 : Int) ≤ (k : Int) := by omega
              obtain ⟨gs, os, hvv, rfl, -, d0, -⟩ := vhos_at HJ.out.cf.vhosts k hlt
              obtain ⟨V, hV⟩ : ∃ V, V = c.vhosts[k] := ⟨_, rfl⟩
              rw [← hV] at d0
              have hfx : FitVhos V := by rw [hV]; exact HX.out.vhosts.2 _ (List.getElem_mem hlt)
              have HFx := Lib.hid hfx
              have HHV := Lib.hid hV
              have HS : Hid (textL (lineW LISTEN (listenW c) :: (c.filters.map (fun f => lineW FILTER (filtW f)) ++ (c.clusters.map (fun x => lineW CLUSTER (clusW x)) ++ (c.vhosts.take (k + 1)).flatMap vhosLs))) = textL (lineW LISTEN (listenW c) :: (c.filters.map (fun f => lineW FILTER (filtW f)) ++ (c.clusters.map (fun x => lineW CLUSTER (clusW x)) ++ (c.vhosts.take k).flatMap vhosLs))) ++ textL (vhosLs V)) := Lib.hid (by
                rw [List.take_succ_eq_append_getElem hlt, List.flatMap_append, hV, ← List.append_assoc, ← List.append_assoc, ← List.cons_append, textL_append]
                simp [textL])
              have hY1 : (textL (lineW LISTEN (listenW c) :: (c.filters.map (fun f => lineW FILTER (filtW f)) ++ (c.clusters.map (fun x => lineW CLUSTER (clusW x)) ++ (c.vhosts.take (k + 1)).flatMap vhosLs)))).length ≤ 90000000000 := by
                refine part_len (B := (c.vhosts.drop (k + 1)).flatMap vhosLs) HX.out HR.out ?_
                have e : c.vhosts.flatMap vhosLs = (c.vhosts.take (k + 1)).flatMap vhosLs ++ (c.vhosts.drop (k + 1)).flatMap vhosLs := by rw [← List.flatMap_append, List.take_append_drop]
                unfold linesC
                rw [e]
                simp only [List.cons_append, List.append_assoc]
              rw [HS.out] at hY1
              have HLen := Lib.hid hY1
              have HWd := Lib.hid (fun w => rwordB_any (ofL V.domain) (by rw [ofL_size]; exact hfx.domain) w)
              rw [toL_ofL] at HWd
              have hwl : (word V.domain).length ≤ 4000000 := by have := word_len V.domain; have := hfx.domain; omega
              obtain ⟨NX, hNX⟩ : ∃ NX, NX = textL (lineW LISTEN (listenW c) :: (c.filters.map (fun f => lineW FILTER (filtW f)) ++ (c.clusters.map (fun x => lineW CLUSTER (clusW x)) ++ (c.vhosts.take (k + 1)).flatMap vhosLs))) := ⟨_, rfl⟩
              rw [← hNX] at HS
              have HNX := Lib.hid hNX
              generalize textL (lineW LISTEN (listenW c) :: (c.filters.map (fun f => lineW FILTER (filtW f)) ++ (c.clusters.map (fun x => lineW CLUSTER (clusW x)) ++ (c.vhosts.take k).flatMap vhosLs))) = XX at *
              have HV : Hid (ofL XX ++ (⟨#[118, 104, 111, 115, 116]⟩ : ByteArray) ++ ofL (32 :: word V.domain) ++ (⟨#[10]⟩ : ByteArray) = ofL (XX ++ textL [lineW VHOST [word V.domain]])) := Lib.hid (by
                rw [show (⟨#[118, 104, 111, 115, 116]⟩ : ByteArray) = ofL [118, 104, 111, 115, 116] from rfl, show (⟨#[10]⟩ : ByteArray) = ofL [10] from rfl]
                simp only [str_app]
                congr 1
                simp [textL, lineW, VHOST])
              rw [List.length_append] at hY1
              have u1 : (ofL XX).size + (⟨#[118, 104, 111, 115, 116]⟩ : ByteArray).size ≤ 9223372036854775807 := by rw [ofL_size]; exact (by omega : XX.length + 5 ≤ 9223372036854775807)
              have u2 : (ofL XX ++ (⟨#[118, 104, 111, 115, 116]⟩ : ByteArray)).size + (ofL (32 :: word V.domain)).size ≤ 9223372036854775807 := by rw [ByteArray.size_append, ofL_size, ofL_size, List.length_cons]; exact (by omega : XX.length + 5 + ((word V.domain).length + 1) ≤ 9223372036854775807)
              have u3 : (ofL XX ++ (⟨#[118, 104, 111, 115, 116]⟩ : ByteArray) ++ ofL (32 :: word V.domain)).size + (⟨#[10]⟩ : ByteArray).size ≤ 9223372036854775807 := by rw [ByteArray.size_append, ByteArray.size_append, ofL_size, ofL_size, List.length_cons]; exact (by omega : XX.length + 5 + ((word V.domain).length + 1) + 1 ≤ 9223372036854775807)
              generalize ofL (32 :: word V.domain) = A at *
              clear hY1 hwl hNX hV
              go_wp2_with fail
              refine (HWd.out _).mono ?_
              rintro e v1 ⟨rfl, hb1⟩
              have K5 := Lib.hid (HJ.out.call hb1)
              clear HWd HJ hb1 b8 d0 hfx
              go_wp2_with fail
              clear u1 u2 u3
              rw [HV.out]
              go_loopw [3, 10] (fun o i2 wr => ∃ k2 : Nat, k2 ≤ V.routes.length ∧ i2 = .int .i64 k2 ∧ o = .string (ofL (XX ++ textL (lineW VHOST [word V.domain] :: (V.routes.take k2).map (fun r => lineW ROUTE (routW r))))) ∧ Hid (Kb w g c (.slice pf c.filters.length cf) (.slice pc c.clusters.length cc) (.slice (some ⟨gs, os, none⟩) c.vhosts.length cv) wr)) (fun _ i2 _ => V.routes.length - (intOf i2).toNat)
              case atStart => exact ⟨0, Nat.zero_le _, rfl, by simp, K5⟩
              case round =>
                obtain ⟨k2, hk2, rfl, rfl, HI⟩ := hrel
                clear K5
                have b8 : wr.cell? ⟨g, 8, none⟩ = some (.slice (some ⟨gs, os, none⟩) c.vhosts.length cv) := HI.out.box.cell 8
                have hrl : V.routes.length ≤ 1048576 := HFx.out.routes.1
                obtain ⟨gs2, os2, hv2, hps, hrt2, -, d1⟩ := vhos_at HI.out.cf.vhosts k hlt
                injection hps with hps
                injection hps with a1 a2
                subst a1 a2
                rw [← HHV.out] at hrt2
                obtain ⟨pr, cr, rfl, _, hrc⟩ := hrt2.parts
                by_cases hlt2 : k2 < V.routes.length
                · have hki2 : (k2 : Int) < (V.routes.length : Int) := by omega
                  have hk20 : (0 : Int) ≤ (k2 : Int) := by omega
                  obtain ⟨gr, orr, rfl, _, hcell⟩ := hrc (by omega)
                  obtain ⟨r, hr⟩ : ∃ r, r = V.routes[k2] := ⟨_, rfl⟩
                  obtain ⟨n0, n1, n2, n3, n4, n5, n6, n7, n8, n9, n10, n11, n12⟩ := hcell k2 hlt2
                  rw [← hr] at n0 n1 n2 n3 n4 n5 n6 n7 n8 n9 n10 n11 n12
                  have hfr : FitRout r := by rw [hr]; exact HFx.out.routes.2 _ (List.getElem_mem hlt2)
                  have HL := Lib.hid (fun w => rline_any r hfr w)
                  have HS2 : Hid (XX ++ textL (lineW VHOST [word V.domain] :: (V.routes.take (k2 + 1)).map (fun r => lineW ROUTE (routW r))) = XX ++ textL (lineW VHOST [word V.domain] :: (V.routes.take k2).map (fun r => lineW ROUTE (routW r))) ++ (lineW ROUTE (routW r) ++ [10])) := Lib.hid (by
                    rw [List.take_succ_eq_append_getElem hlt2, List.map_append, hr, ← List.cons_append, textL_append]
                    simp [textL])
                  have hP : (XX ++ textL (lineW VHOST [word V.domain] :: (V.routes.take (k2 + 1)).map (fun r => lineW ROUTE (routW r)))).length ≤ 90000000000 := by
                    have h1 := HLen.out
                    have h2 : vhosLs V = (lineW VHOST [word V.domain] :: (V.routes.take (k2 + 1)).map (fun r => lineW ROUTE (routW r))) ++ (V.routes.drop (k2 + 1)).map (fun r => lineW ROUTE (routW r)) := by rw [List.cons_append, ← List.map_append, List.take_append_drop]; rfl
                    rw [h2, textL_append] at h1
                    simp only [List.length_append] at h1 ⊢
                    omega
                  rw [HS2.out] at hP
                  obtain ⟨P, hPe⟩ : ∃ P, P = XX ++ textL (lineW VHOST [word V.domain] :: (V.routes.take k2).map (fun r => lineW ROUTE (routW r))) := ⟨_, rfl⟩
                  rw [← hPe] at hP HS2 ⊢
                  obtain ⟨LN, hLN⟩ : ∃ LN, LN = lineW ROUTE (routW r) ++ [10] := ⟨_, rfl⟩
                  rw [← hLN] at hP HS2 HL
                  rw [List.length_append] at hP
                  have u1 : (ofL P).size + (ofL LN).size ≤ 9223372036854775807 := by rw [ofL_size, ofL_size]; omega
                  have HV2 : Hid (ofL P ++ ofL LN = ofL (P ++ LN)) := Lib.hid (str_app _ _)
                  clear hPe hr hcell hfr hP hLN hrc hrt2
                  go_wp2_with fail
                  refine (HL.out _).mono ?_
                  rintro e v2 ⟨rfl, hb2⟩
                  have HK := Lib.hid (HI.out.call hb2)
                  clear HL HI hb2 b8 d1 n0 n1 n2 n3 n4 n5 n6 n7 n8 n9 n10 n11 n12
                  go_wp2_with fail
                  go_roundw
                  case rel => exact ⟨k2 + 1, by omega, by go_num, by rw [HS2.out, ← HV2.out], HK⟩
                  case measure => simp [intOf]; omega
                · have hki2 : ¬ (k2 : Int) < (V.routes.length : Int) := by omega
                  obtain rfl : k2 = V.routes.length := by omega
                  have HN : Hid (XX ++ textL (lineW VHOST [word V.domain] :: (V.routes.take V.routes.length).map (fun r => lineW ROUTE (routW r))) = NX) := Lib.hid (by rw [HS.out, List.take_length]; rfl)
                  have HK := HI
                  clear HI hrc hrt2 hlt2
                  rw [HN.out]
                  go_wp2_with fail
                  go_roundw
                  case rel => exact ⟨k + 1, by omega, by go_num, by rw [← HNX.out], HK⟩
                  case measure => simp [intOf]; omega
            · have hki : ¬ (k : Int) < (c.vhosts.length : Int) := by omega
              obtain rfl : k = c.vhosts.length := by omega
              have HT : Hid (textL (lineW LISTEN (listenW c) :: (c.filters.map (fun f => lineW FILTER (filtW f)) ++ (c.clusters.map (fun x => lineW CLUSTER (clusW x)) ++ (c.vhosts.take c.vhosts.length).flatMap vhosLs))) = print14 c) := Lib.hid (by rw [List.take_length, print_text]; rfl)
              rw [HT.out]
              have K6 := Lib.hid HJ.out
              clear HJ hlt HT
              go_wp2_with fail
              go_ret
              exact ⟨rfl, HG.out ▸ K6.out.below⟩
end Go.Proofs.YtfihehobkbfmiaaGreatDoor.R14Print
