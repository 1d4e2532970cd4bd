/- Texts of this seat, one behind another: PCfgR, PCfgV. -/

import Derived.Test.YtfihehobkbfmiaaGreatDoorA6
/- Layer 14 of the program: routes. -/
namespace Go.Proofs.YtfihehobkbfmiaaGreatDoor.PCfgR
open Go.ChangeShapes Go.WideShapes Go.ChangeAt Go.RowKit Bytes LexPure ConfPure ConfMem ConfAt Ret Mem Texts PCfgLib PCfgBox PCfgT PCfgS PCfgC R14Name
set_option maxRecDepth 100000
set_option linter.unusedVariables false
set_option linter.unusedSimpArgs false
abbrev RT : TypeId := 45
/-- a route's box, the clusters beside it, the tables -/
structure Rx (w : World) (g : Nat) (cs : Array Value) (v : Value) (G : List Clus) (W : World) : Prop where
  box : Has W g RT cs
  cl : Cluss W v G
  mi : MaxInt W
  pw : PCfgLib.Pow W
  below : Below g w W
theorem Rx.call {w W W' : World} {g : Nat} {cs : Array Value} {v : Value} {G : List Clus} (x : Rx w g cs v G W) (hb : Below W.heap.size W W') : Rx w g cs v G W' :=
  ⟨x.box.below hb x.box.lt, x.cl.below hb, PUnder.MaxInt.below x.mi hb, x.pw.below hb, ⟨hb.os.trans x.below.os, hb.tape.trans x.below.tape, hb.output.trans x.below.output, Nat.le_trans x.below.size hb.size, fun i hi => (hb.block i (Nat.lt_trans hi x.box.lt)).trans (x.below.block i hi)⟩⟩
theorem Rx.start {w : World} {cs : Array Value} {v : Value} {G : List Clus} (hT : Cluss w v G) (hm : MaxInt w) (hp : PCfgLib.Pow w) : Rx w w.heap.size cs v G (w.alloc (.cells cs RT)) :=
  have ha := (Below.refl w.heap.size w).alloc (Nat.le_refl _) (.cells cs RT)
  ⟨Has.new w _ _, hT.below ha, PUnder.MaxInt.below hm ha, hp.below ha, ha⟩
def nowB (x : Rout) : Bool := x.cluster == [] && x.rewrite == [] && x.retries == 0 && x.timeout == 0 && !x.upgrade
def matchB (x : Rout) : Bool := ((x.path == [] && x.method == CONNECT) || normalB x.path) && (x.method == [] || tokenB x.method 16) && cond (x.field == []) (x.value == []) (tokenB x.field 32 && textB x.value)
def fwdB (x : Rout) (G : List Clus) : Bool := !(x.method == CONNECT && (!(x.rewrite == []) || !(x.retries == 0) || x.upgrade)) && (G.any (fun c => c.name == x.cluster) && x.status == 0 && x.text == [] && (x.rewrite == [] || normalB x.rewrite) && inB x.retries 0 5 && inB x.timeout 1 1048576)
def dirB (n : Int) (m : L) : Bool := n != 204 && n != 304 && (if m = CONNECT then inB n 300 599 else inB n 200 599)
def actB (x : Rout) (G : List Clus) : Bool := cond (x.action == 1) (fwdB x G) (cond (x.action == 2) (nowB x && (x.status == 301 || x.status == 302 || x.status == 307 || x.status == 308) && (x.text != [] && textB x.text)) (cond (x.action == 3) (nowB x && dirB x.status x.method && textB x.text) false))
theorem forwB_prog (x : Rout) (G : List Clus) : forwB x G = fwdB x G := by
  unfold forwB fwdB
  rw [ite_list, show TICK = 1048576 from rfl]
  generalize G.any (fun c => c.name == x.cluster) = a0
  generalize (x.status == 0) = a1
  generalize (x.text == []) = a2
  generalize inB x.retries 0 5 = a3
  generalize inB x.timeout 1 1048576 = a4
  generalize (x.method == CONNECT) = a5
  generalize (x.rewrite == []) = a6
  generalize (x.retries == 0) = a7
  generalize normalB x.rewrite = a8
  generalize x.upgrade = a9
  cases a5 <;> cases a6 <;> cases a7 <;> cases a9 <;> simp <;> ac_rfl
theorem dirB_prog (n : Int) (m : L) : dirB n m = (!(m == CONNECT && decide (n < 300)) && inB n 200 599 && n != 204 && n != 304) := by
  unfold dirB
  rw [ite_list]
  generalize (n != 204) = a
  generalize (n != 304) = b
  unfold inB
  by_cases hm : (m == CONNECT) = true
  · rw [hm]
    by_cases h : n < 300
    · have h1 : ¬ (300 ≤ n) := by omega
      simp [h, h1]
    · have h1 : 300 ≤ n := by omega
      have h2 : 200 ≤ n := by omega
      simp only [h, h1, h2, decide_true, decide_false, Bool.and_true, Bool.true_and, Bool.and_false, Bool.not_false, cond]
      ac_rfl
  · rw [Bool.not_eq_true] at hm
    rw [hm]
    simp only [Bool.false_and, Bool.not_false, Bool.true_and, cond]
    ac_rfl
theorem match_bool : ∀ a0 a1 a2 a3 a4 a5 b c d : Bool, (c = true → a5 = true) → ((a0 || (a1 && a2)) && (a3 || a4) && a5 && (!b || c) && (b || d)) = (((a1 && a2) || a0) && (a3 || a4) && cond b c (d && a5)) := by decide +kernel
theorem act_bool : ∀ A1 A2 A3 F N T E R X i n1 n2 : Bool, cond A1 F (N && T && cond A2 (E && R) (X && A3 && i && n1 && n2)) = cond A1 F (cond A2 (N && R && (E && T)) (cond A3 (N && (X && i && n1 && n2) && T) false)) := by decide +kernel
theorem routB_prog (x : Rout) (G : List Clus) : routB x G = (matchB x && actB x G) := by
  have hv : (x.value == []) = true → textB x.value = true := fun h => by rw [eq_of_beq h]; decide
  unfold routB matchB actB
  rw [ite_int, ite_int, forwB_prog, dirB_prog, ← match_bool _ _ _ _ _ _ _ _ _ hv, ← act_bool]
  rfl
set_option maxHeartbeats 3200000 in
theorem pnow_any (x : Rout) (w : World) :
    Calls Tryz.prog 95 #[.agg #[.bool x.pre, .string (ofL x.path), .string (ofL x.method), .string (ofL x.field), .string (ofL x.value), .int .i64 x.action, .string (ofL x.cluster), .int .i64 x.status, .string (ofL x.text), .string (ofL x.rewrite), .int .i64 x.retries, .int .i64 x.timeout, .bool x.upgrade]] w fun e w' => e = .returned (.bool (nowB x)) ∧ Below w.heap.size w w' := by
  obtain ⟨r0, hr0⟩ : ∃ r0, r0 = (x.cluster == []) := ⟨_, rfl⟩
  have yr0a : ((ofL x.cluster).toList == []) = r0 := by rw [hr0, ByteArray.toList_eq]; show (toL (ofL x.cluster) == []) = _; rw [toL_ofL]
  have yr0b : ((ofL x.cluster).toList != []) = !r0 := by rw [← yr0a]; rfl
  have yr0c : (ofL x.cluster).toList.isEmpty = r0 := by rw [← yr0a]; cases (ofL x.cluster).toList <;> rfl
  obtain ⟨r1, hr1⟩ : ∃ r1, r1 = (x.rewrite == []) := ⟨_, rfl⟩
  have yr1a : ((ofL x.rewrite).toList == []) = r1 := by rw [hr1, ByteArray.toList_eq]; show (toL (ofL x.rewrite) == []) = _; rw [toL_ofL]
  have yr1b : ((ofL x.rewrite).toList != []) = !r1 := by rw [← yr1a]; rfl
  have yr1c : (ofL x.rewrite).toList.isEmpty = r1 := by rw [← yr1a]; cases (ofL x.rewrite).toList <;> rfl
  obtain ⟨r2, hr2⟩ : ∃ r2, r2 = (x.retries == 0) := ⟨_, rfl⟩
  have yr2b : (x.retries != 0) = !r2 := by rw [hr2]; rfl
  have yr2a : (x.retries == 0) = r2 := hr2.symm
  obtain ⟨r3, hr3⟩ : ∃ r3, r3 = (x.timeout == 0) := ⟨_, rfl⟩
  have yr3b : (x.timeout != 0) = !r3 := by rw [hr3]; rfl
  have yr3a : (x.timeout == 0) = r3 := hr3.symm
  have HV : Hid (nowB x = (r0 && r1 && r2 && r3 && !x.upgrade)) := Lib.hid (by unfold nowB; rw [hr0, hr1, hr2, hr3])
  obtain ⟨up, hup⟩ : ∃ up, up = x.upgrade := ⟨_, rfl⟩
  rw [← hup] at HV ⊢
  have K0 := Lib.hid (Ob.start w RT #[.bool x.pre, .string (ofL x.path), .string (ofL x.method), .string (ofL x.field), .string (ofL x.value), .int .i64 x.action, .string (ofL x.cluster), .int .i64 x.status, .string (ofL x.text), .string (ofL x.rewrite), .int .i64 x.retries, .int .i64 x.timeout, .bool up])
  clear hr0 hr1 hr2 hr3 hup
  go_enter Tryz.func95, Tryz.ntmps95
  cases r0 with
  | false =>
    go_wp2_with fail
    go_ret
    exact ⟨ret_bool (by rw [HV.out]; simp), K0.out.below⟩
  | true =>
    cases r1 with
    | false =>
      go_wp2_with fail
      go_ret
      exact ⟨ret_bool (by rw [HV.out]; simp), K0.out.below⟩
    | true =>
      cases r2 with
      | false =>
        go_wp2_with fail
        go_ret
        exact ⟨ret_bool (by rw [HV.out]; simp), K0.out.below⟩
      | true =>
        cases r3 with
        | false =>
          go_wp2_with fail
          go_ret
          exact ⟨ret_bool (by rw [HV.out]; simp), K0.out.below⟩
        | true =>
          cases up with
          | false =>
            go_wp2_with fail
            go_ret
            exact ⟨ret_bool (by rw [HV.out]; simp), K0.out.below⟩
          | true =>
            go_wp2_with fail
            go_ret
            exact ⟨ret_bool (by rw [HV.out]; simp), K0.out.below⟩
set_option maxHeartbeats 6400000 in
theorem pmatch_any (x : Rout) (hx : FitRout x) (w : World) (hm : MaxInt w) (hp : PCfgLib.Pow w) :
    Calls Tryz.prog 59 #[.agg #[.bool x.pre, .string (ofL x.path), .string (ofL x.method), .string (ofL x.field), .string (ofL x.value), .int .i64 x.action, .string (ofL x.cluster), .int .i64 x.status, .string (ofL x.text), .string (ofL x.rewrite), .int .i64 x.retries, .int .i64 x.timeout, .bool x.upgrade]] w fun e w' => e = .returned (.bool (matchB x)) ∧ Below w.heap.size w w' := by
  obtain ⟨r0, hr0⟩ : ∃ r0, r0 = (x.path == []) := ⟨_, rfl⟩
  have yr0a : ((ofL x.path).toList == []) = r0 := by rw [hr0, ByteArray.toList_eq]; show (toL (ofL x.path) == []) = _; rw [toL_ofL]
  have yr0b : ((ofL x.path).toList != []) = !r0 := by rw [← yr0a]; rfl
  have yr0c : (ofL x.path).toList.isEmpty = r0 := by rw [← yr0a]; cases (ofL x.path).toList <;> rfl
  obtain ⟨r1, hr1⟩ : ∃ r1, r1 = (x.method == CONNECT) := ⟨_, rfl⟩
  have yr1a : ((ofL x.method).toList == [67, 79, 78, 78, 69, 67, 84]) = r1 := by rw [hr1, ByteArray.toList_eq]; show (toL (ofL x.method) == [67, 79, 78, 78, 69, 67, 84]) = _; rw [toL_ofL]; rfl
  have yr1b : ((ofL x.method).toList != [67, 79, 78, 78, 69, 67, 84]) = !r1 := by rw [← yr1a]; rfl
  obtain ⟨r2, hr2⟩ : ∃ r2, r2 = normalB x.path := ⟨_, rfl⟩
  obtain ⟨r3, hr3⟩ : ∃ r3, r3 = (x.method == []) := ⟨_, rfl⟩
  have yr3a : ((ofL x.method).toList == []) = r3 := by rw [hr3, ByteArray.toList_eq]; show (toL (ofL x.method) == []) = _; rw [toL_ofL]
  have yr3b : ((ofL x.method).toList != []) = !r3 := by rw [← yr3a]; rfl
  have yr3c : (ofL x.method).toList.isEmpty = r3 := by rw [← yr3a]; cases (ofL x.method).toList <;> rfl
  obtain ⟨r4, hr4⟩ : ∃ r4, r4 = tokenB x.method 16 := ⟨_, rfl⟩
  obtain ⟨r5, hr5⟩ : ∃ r5, r5 = (x.field == []) := ⟨_, rfl⟩
  have yr5a : ((ofL x.field).toList == []) = r5 := by rw [hr5, ByteArray.toList_eq]; show (toL (ofL x.field) == []) = _; rw [toL_ofL]
  have yr5b : ((ofL x.field).toList != []) = !r5 := by rw [← yr5a]; rfl
  have yr5c : (ofL x.field).toList.isEmpty = r5 := by rw [← yr5a]; cases (ofL x.field).toList <;> rfl
  obtain ⟨r6, hr6⟩ : ∃ r6, r6 = (x.value == []) := ⟨_, rfl⟩
  have yr6a : ((ofL x.value).toList == []) = r6 := by rw [hr6, ByteArray.toList_eq]; show (toL (ofL x.value) == []) = _; rw [toL_ofL]
  have yr6b : ((ofL x.value).toList != []) = !r6 := by rw [← yr6a]; rfl
  have yr6c : (ofL x.value).toList.isEmpty = r6 := by rw [← yr6a]; cases (ofL x.value).toList <;> rfl
  obtain ⟨r7, hr7⟩ : ∃ r7, r7 = tokenB x.field 32 := ⟨_, rfl⟩
  obtain ⟨r8, hr8⟩ : ∃ r8, r8 = textB x.value := ⟨_, rfl⟩
  have HV : Hid (matchB x = (((r0 && r1) || r2) && (r3 || r4) && cond r5 r6 (r7 && r8))) := Lib.hid (by unfold matchB; rw [hr0, hr1, hr2, hr3, hr4, hr5, hr6, hr7, hr8])
  have H2 := Lib.hid (fun w h => pnorm_any (ofL x.path) (by rw [ofL_size]; exact hx.path) w h)
  rw [toL_ofL, ← hr2] at H2
  have H4 := Lib.hid (fun w => ptok_any (ofL x.method) (by rw [ofL_size]; exact hx.method) 16 (by decide) w)
  rw [toL_ofL, ← hr4] at H4
  have H7 := Lib.hid (fun w => ptok_any (ofL x.field) (by rw [ofL_size]; exact hx.field) 32 (by decide) w)
  rw [toL_ofL, ← hr7] at H7
  have H8 := Lib.hid (fun w => ptext_any (ofL x.value) (by rw [ofL_size]; exact hx.value) w)
  rw [toL_ofL, ← hr8] at H8
  have K0 := Lib.hid (Rx.start (cs := #[.bool x.pre, .string (ofL x.path), .string (ofL x.method), .string (ofL x.field), .string (ofL x.value), .int .i64 x.action, .string (ofL x.cluster), .int .i64 x.status, .string (ofL x.text), .string (ofL x.rewrite), .int .i64 x.retries, .int .i64 x.timeout, .bool x.upgrade]) (v := .slice none 0 0) (G := []) ⟨fun _ => undef, ⟨none, 0, rfl, by decide, fun h => absurd h (by decide)⟩, fun i hi => absurd hi (by simp)⟩ hm hp)
  clear hr0 hr1 hr2 hr3 hr4 hr5 hr6 hr7 hr8 hm hp hx
  go_enter Tryz.func59, Tryz.ntmps59
  cases r0 with
  | false =>
    go_wp2_with fail
    refine (H2.out _ K0.out.mi).mono ?_
    rintro e v1 ⟨rfl, hb⟩
    have K1 := Lib.hid (K0.out.call hb)
    clear hb H2 K0
    have m1_1 : v1.cell? ⟨w.heap.size, 1, none⟩ = some (.string (ofL x.path)) := K1.out.box.cell 1
    have m1_2 : v1.cell? ⟨w.heap.size, 2, none⟩ = some (.string (ofL x.method)) := K1.out.box.cell 2
    have m1_3 : v1.cell? ⟨w.heap.size, 3, none⟩ = some (.string (ofL x.field)) := K1.out.box.cell 3
    have m1_4 : v1.cell? ⟨w.heap.size, 4, none⟩ = some (.string (ofL x.value)) := K1.out.box.cell 4
    cases r2 with
    | false =>
      go_wp2_with fail
      go_ret
      exact ⟨ret_bool (by rw [HV.out]; simp), K1.out.below⟩
    | true =>
      cases r3 with
      | false =>
        go_wp2_with fail
        refine (H4.out _).mono ?_
        rintro e v2 ⟨rfl, rfl⟩
        clear H4
        cases r4 with
        | false =>
          go_wp2_with fail
          go_ret
          exact ⟨ret_bool (by rw [HV.out]; simp), K1.out.below⟩
        | true =>
          cases r5 with
          | false =>
            go_wp2_with fail
            refine (H7.out _).mono ?_
            rintro e v3 ⟨rfl, rfl⟩
            clear H7
            cases r7 with
            | false =>
              go_wp2_with fail
              go_ret
              exact ⟨ret_bool (by rw [HV.out]; simp), K1.out.below⟩
            | true =>
              go_wp2_with fail
              refine (H8.out _).mono ?_
              rintro e v4 ⟨rfl, hb⟩
              have K4 := Lib.hid (K1.out.call hb)
              clear m1_1 m1_2 m1_3 m1_4
              clear hb H8 K1
              have m4_1 : v4.cell? ⟨w.heap.size, 1, none⟩ = some (.string (ofL x.path)) := K4.out.box.cell 1
              have m4_2 : v4.cell? ⟨w.heap.size, 2, none⟩ = some (.string (ofL x.method)) := K4.out.box.cell 2
              have m4_3 : v4.cell? ⟨w.heap.size, 3, none⟩ = some (.string (ofL x.field)) := K4.out.box.cell 3
              have m4_4 : v4.cell? ⟨w.heap.size, 4, none⟩ = some (.string (ofL x.value)) := K4.out.box.cell 4
              cases r8 with
              | false =>
                go_wp2_with fail
                go_ret
                exact ⟨ret_bool (by rw [HV.out]; simp), K4.out.below⟩
              | true =>
                go_wp2_with fail
                go_ret
                exact ⟨ret_bool (by rw [HV.out]; simp), K4.out.below⟩
          | true =>
            cases r6 with
            | false =>
              go_wp2_with fail
              go_ret
              exact ⟨ret_bool (by rw [HV.out]; simp), K1.out.below⟩
            | true =>
              go_wp2_with fail
              go_ret
              exact ⟨ret_bool (by rw [HV.out]; simp), K1.out.below⟩
      | true =>
        cases r5 with
        | false =>
          go_wp2_with fail
          refine (H7.out _).mono ?_
          rintro e v5 ⟨rfl, rfl⟩
          clear H7
          cases r7 with
          | false =>
            go_wp2_with fail
            go_ret
            exact ⟨ret_bool (by rw [HV.out]; simp), K1.out.below⟩
          | true =>
            go_wp2_with fail
            refine (H8.out _).mono ?_
            rintro e v6 ⟨rfl, hb⟩
            have K6 := Lib.hid (K1.out.call hb)
            clear m1_1 m1_2 m1_3 m1_4
            clear hb H8 K1
            have m6_1 : v6.cell? ⟨w.heap.size, 1, none⟩ = some (.string (ofL x.path)) := K6.out.box.cell 1
            have m6_2 : v6.cell? ⟨w.heap.size, 2, none⟩ = some (.string (ofL x.method)) := K6.out.box.cell 2
            have m6_3 : v6.cell? ⟨w.heap.size, 3, none⟩ = some (.string (ofL x.field)) := K6.out.box.cell 3
            have m6_4 : v6.cell? ⟨w.heap.size, 4, none⟩ = some (.string (ofL x.value)) := K6.out.box.cell 4
            cases r8 with
            | false =>
              go_wp2_with fail
              go_ret
              exact ⟨ret_bool (by rw [HV.out]; simp), K6.out.below⟩
            | true =>
              go_wp2_with fail
              go_ret
              exact ⟨ret_bool (by rw [HV.out]; simp), K6.out.below⟩
        | true =>
          cases r6 with
          | false =>
            go_wp2_with fail
            go_ret
            exact ⟨ret_bool (by rw [HV.out]; simp), K1.out.below⟩
          | true =>
            go_wp2_with fail
            go_ret
            exact ⟨ret_bool (by rw [HV.out]; simp), K1.out.below⟩
  | true =>
    cases r1 with
    | false =>
      go_wp2_with fail
      refine (H2.out _ K0.out.mi).mono ?_
      rintro e v7 ⟨rfl, hb⟩
      have K7 := Lib.hid (K0.out.call hb)
      clear hb H2 K0
      have m7_1 : v7.cell? ⟨w.heap.size, 1, none⟩ = some (.string (ofL x.path)) := K7.out.box.cell 1
      have m7_2 : v7.cell? ⟨w.heap.size, 2, none⟩ = some (.string (ofL x.method)) := K7.out.box.cell 2
      have m7_3 : v7.cell? ⟨w.heap.size, 3, none⟩ = some (.string (ofL x.field)) := K7.out.box.cell 3
      have m7_4 : v7.cell? ⟨w.heap.size, 4, none⟩ = some (.string (ofL x.value)) := K7.out.box.cell 4
      cases r2 with
      | false =>
        go_wp2_with fail
        go_ret
        exact ⟨ret_bool (by rw [HV.out]; simp), K7.out.below⟩
      | true =>
        cases r3 with
        | false =>
          go_wp2_with fail
          refine (H4.out _).mono ?_
          rintro e v8 ⟨rfl, rfl⟩
          clear H4
          cases r4 with
          | false =>
            go_wp2_with fail
            go_ret
            exact ⟨ret_bool (by rw [HV.out]; simp), K7.out.below⟩
          | true =>
            cases r5 with
            | false =>
              go_wp2_with fail
              refine (H7.out _).mono ?_
              rintro e v9 ⟨rfl, rfl⟩
              clear H7
              cases r7 with
              | false =>
                go_wp2_with fail
                go_ret
                exact ⟨ret_bool (by rw [HV.out]; simp), K7.out.below⟩
              | true =>
                go_wp2_with fail
                refine (H8.out _).mono ?_
                rintro e v10 ⟨rfl, hb⟩
                have K10 := Lib.hid (K7.out.call hb)
                clear m7_1 m7_2 m7_3 m7_4
                clear hb H8 K7
                have m10_1 : v10.cell? ⟨w.heap.size, 1, none⟩ = some (.string (ofL x.path)) := K10.out.box.cell 1
                have m10_2 : v10.cell? ⟨w.heap.size, 2, none⟩ = some (.string (ofL x.method)) := K10.out.box.cell 2
                have m10_3 : v10.cell? ⟨w.heap.size, 3, none⟩ = some (.string (ofL x.field)) := K10.out.box.cell 3
                have m10_4 : v10.cell? ⟨w.heap.size, 4, none⟩ = some (.string (ofL x.value)) := K10.out.box.cell 4
                cases r8 with
                | false =>
                  go_wp2_with fail
                  go_ret
                  exact ⟨ret_bool (by rw [HV.out]; simp), K10.out.below⟩
                | true =>
                  go_wp2_with fail
                  go_ret
                  exact ⟨ret_bool (by rw [HV.out]; simp), K10.out.below⟩
            | true =>
              cases r6 with
              | false =>
                go_wp2_with fail
                go_ret
                exact ⟨ret_bool (by rw [HV.out]; simp), K7.out.below⟩
              | true =>
                go_wp2_with fail
                go_ret
                exact ⟨ret_bool (by rw [HV.out]; simp), K7.out.below⟩
        | true =>
          cases r5 with
          | false =>
            go_wp2_with fail
            refine (H7.out _).mono ?_
            rintro e v11 ⟨rfl, rfl⟩
            clear H7
            cases r7 with
            | false =>
              go_wp2_with fail
              go_ret
              exact ⟨ret_bool (by rw [HV.out]; simp), K7.out.below⟩
            | true =>
              go_wp2_with fail
              refine (H8.out _).mono ?_
              rintro e v12 ⟨rfl, hb⟩
              have K12 := Lib.hid (K7.out.call hb)
              clear m7_1 m7_2 m7_3 m7_4
              clear hb H8 K7
              have m12_1 : v12.cell? ⟨w.heap.size, 1, none⟩ = some (.string (ofL x.path)) := K12.out.box.cell 1
              have m12_2 : v12.cell? ⟨w.heap.size, 2, none⟩ = some (.string (ofL x.method)) := K12.out.box.cell 2
              have m12_3 : v12.cell? ⟨w.heap.size, 3, none⟩ = some (.string (ofL x.field)) := K12.out.box.cell 3
              have m12_4 : v12.cell? ⟨w.heap.size, 4, none⟩ = some (.string (ofL x.value)) := K12.out.box.cell 4
              cases r8 with
              | false =>
                go_wp2_with fail
                go_ret
                exact ⟨ret_bool (by rw [HV.out]; simp), K12.out.below⟩
              | true =>
                go_wp2_with fail
                go_ret
                exact ⟨ret_bool (by rw [HV.out]; simp), K12.out.below⟩
          | true =>
            cases r6 with
            | false =>
              go_wp2_with fail
              go_ret
              exact ⟨ret_bool (by rw [HV.out]; simp), K7.out.below⟩
            | true =>
              go_wp2_with fail
              go_ret
              exact ⟨ret_bool (by rw [HV.out]; simp), K7.out.below⟩
    | true =>
      cases r3 with
      | false =>
        go_wp2_with fail
        refine (H4.out _).mono ?_
        rintro e v13 ⟨rfl, rfl⟩
        clear H4
        cases r4 with
        | false =>
          go_wp2_with fail
          go_ret
          exact ⟨ret_bool (by rw [HV.out]; simp), K0.out.below⟩
        | true =>
          cases r5 with
          | false =>
            go_wp2_with fail
            refine (H7.out _).mono ?_
            rintro e v14 ⟨rfl, rfl⟩
            clear H7
            cases r7 with
            | false =>
              go_wp2_with fail
              go_ret
              exact ⟨ret_bool (by rw [HV.out]; simp), K0.out.below⟩
            | true =>
              go_wp2_with fail
              refine (H8.out _).mono ?_
              rintro e v15 ⟨rfl, hb⟩
              have K15 := Lib.hid (K0.out.call hb)
              clear hb H8 K0
              have m15_1 : v15.cell? ⟨w.heap.size, 1, none⟩ = some (.string (ofL x.path)) := K15.out.box.cell 1
              have m15_2 : v15.cell? ⟨w.heap.size, 2, none⟩ = some (.string (ofL x.method)) := K15.out.box.cell 2
              have m15_3 : v15.cell? ⟨w.heap.size, 3, none⟩ = some (.string (ofL x.field)) := K15.out.box.cell 3
              have m15_4 : v15.cell? ⟨w.heap.size, 4, none⟩ = some (.string (ofL x.value)) := K15.out.box.cell 4
              cases r8 with
              | false =>
                go_wp2_with fail
                go_ret
                exact ⟨ret_bool (by rw [HV.out]; simp), K15.out.below⟩
              | true =>
                go_wp2_with fail
                go_ret
                exact ⟨ret_bool (by rw [HV.out]; simp), K15.out.below⟩
          | true =>
            cases r6 with
            | false =>
              go_wp2_with fail
              go_ret
              exact ⟨ret_bool (by rw [HV.out]; simp), K0.out.below⟩
            | true =>
              go_wp2_with fail
              go_ret
              exact ⟨ret_bool (by rw [HV.out]; simp), K0.out.below⟩
      | true =>
        cases r5 with
        | false =>
          go_wp2_with fail
          refine (H7.out _).mono ?_
          rintro e v16 ⟨rfl, rfl⟩
          clear H7
          cases r7 with
          | false =>
            go_wp2_with fail
            go_ret
            exact ⟨ret_bool (by rw [HV.out]; simp), K0.out.below⟩
          | true =>
            go_wp2_with fail
            refine (H8.out _).mono ?_
            rintro e v17 ⟨rfl, hb⟩
            have K17 := Lib.hid (K0.out.call hb)
            clear hb H8 K0
            have m17_1 : v17.cell? ⟨w.heap.size, 1, none⟩ = some (.string (ofL x.path)) := K17.out.box.cell 1
            have m17_2 : v17.cell? ⟨w.heap.size, 2, none⟩ = some (.string (ofL x.method)) := K17.out.box.cell 2
            have m17_3 : v17.cell? ⟨w.heap.size, 3, none⟩ = some (.string (ofL x.field)) := K17.out.box.cell 3
            have m17_4 : v17.cell? ⟨w.heap.size, 4, none⟩ = some (.string (ofL x.value)) := K17.out.box.cell 4
            cases r8 with
            | false =>
              go_wp2_with fail
              go_ret
              exact ⟨ret_bool (by rw [HV.out]; simp), K17.out.below⟩
            | true =>
              go_wp2_with fail
              go_ret
              exact ⟨ret_bool (by rw [HV.out]; simp), K17.out.below⟩
        | true =>
          cases r6 with
          | false =>
            go_wp2_with fail
            go_ret
            exact ⟨ret_bool (by rw [HV.out]; simp), K0.out.below⟩
          | true =>
            go_wp2_with fail
            go_ret
            exact ⟨ret_bool (by rw [HV.out]; simp), K0.out.below⟩
set_option maxHeartbeats 6400000 in
theorem pforward_any (x : Rout) (hx : FitRout x) (G : List Clus) (v : Value) (hG : G.length ≤ 1048576) (w : World) (hm : MaxInt w) (hp : PCfgLib.Pow w) (hC : Cluss w v G) :
    Calls Tryz.prog 94 #[.agg #[.bool x.pre, .string (ofL x.path), .string (ofL x.method), .string (ofL x.field), .string (ofL x.value), .int .i64 x.action, .string (ofL x.cluster), .int .i64 x.status, .string (ofL x.text), .string (ofL x.rewrite), .int .i64 x.retries, .int .i64 x.timeout, .bool x.upgrade], v] w fun e w' => e = .returned (.bool (fwdB x G)) ∧ Below w.heap.size w w' := by
  obtain ⟨r5, hr5⟩ : ∃ r5, r5 = (x.method == CONNECT) := ⟨_, rfl⟩
  have yr5a : ((ofL x.method).toList == [67, 79, 78, 78, 69, 67, 84]) = r5 := by rw [hr5, ByteArray.toList_eq]; show (toL (ofL x.method) == [67, 79, 78, 78, 69, 67, 84]) = _; rw [toL_ofL]; rfl
  have yr5b : ((ofL x.method).toList != [67, 79, 78, 78, 69, 67, 84]) = !r5 := by rw [← yr5a]; rfl
  obtain ⟨r6, hr6⟩ : ∃ r6, r6 = (x.rewrite == []) := ⟨_, rfl⟩
  have yr6a : ((ofL x.rewrite).toList == []) = r6 := by rw [hr6, ByteArray.toList_eq]; show (toL (ofL x.rewrite) == []) = _; rw [toL_ofL]
  have yr6b : ((ofL x.rewrite).toList != []) = !r6 := by rw [← yr6a]; rfl
  have yr6c : (ofL x.rewrite).toList.isEmpty = r6 := by rw [← yr6a]; cases (ofL x.rewrite).toList <;> rfl
  obtain ⟨r7, hr7⟩ : ∃ r7, r7 = (x.retries == 0) := ⟨_, rfl⟩
  have yr7b : (x.retries != 0) = !r7 := by rw [hr7]; rfl
  have yr7a : (x.retries == 0) = r7 := hr7.symm
  obtain ⟨r0, hr0⟩ : ∃ r0, r0 = G.any (fun c => c.name == x.cluster) := ⟨_, rfl⟩
  obtain ⟨r1, hr1⟩ : ∃ r1, r1 = (x.status == 0) := ⟨_, rfl⟩
  have yr1b : (x.status != 0) = !r1 := by rw [hr1]; rfl
  have yr1a : (x.status == 0) = r1 := hr1.symm
  obtain ⟨r2, hr2⟩ : ∃ r2, r2 = (x.text == []) := ⟨_, rfl⟩
  have yr2a : ((ofL x.text).toList == []) = r2 := by rw [hr2, ByteArray.toList_eq]; show (toL (ofL x.text) == []) = _; rw [toL_ofL]
  have yr2b : ((ofL x.text).toList != []) = !r2 := by rw [← yr2a]; rfl
  have yr2c : (ofL x.text).toList.isEmpty = r2 := by rw [← yr2a]; cases (ofL x.text).toList <;> rfl
  obtain ⟨r9, hr9⟩ : ∃ r9, r9 = normalB x.rewrite := ⟨_, rfl⟩
  obtain ⟨r3, hr3⟩ : ∃ r3, r3 = inB x.retries 0 5 := ⟨_, rfl⟩
  obtain ⟨r4, hr4⟩ : ∃ r4, r4 = inB x.timeout 1 1048576 := ⟨_, rfl⟩
  have HV : Hid (fwdB x G = (!(r5 && (!r6 || !r7 || x.upgrade)) && (r0 && r1 && r2 && (r6 || r9) && r3 && r4))) := Lib.hid (by unfold fwdB; rw [hr0, hr1, hr2, hr3, hr4, hr5, hr6, hr7, hr9])
  have H0 := Lib.hid (fun w h => pstandsC_any x.cluster v G (by omega) w h)
  rw [← hr0] at H0
  have H9 := Lib.hid (fun w h => pnorm_any (ofL x.rewrite) (by rw [ofL_size]; exact hx.rewrite) w h)
  rw [toL_ofL, ← hr9] at H9
  have H3 := Lib.hid (fun w => pwithin_any x.retries 0 5 w)
  rw [← hr3] at H3
  have H4 := Lib.hid (fun w => pwithin_any x.timeout 1 1048576 w)
  rw [← hr4] at H4
  obtain ⟨up, hup⟩ : ∃ up, up = x.upgrade := ⟨_, rfl⟩
  rw [← hup] at HV ⊢
  have K0 := Lib.hid (Rx.start (cs := #[.bool x.pre, .string (ofL x.path), .string (ofL x.method), .string (ofL x.field), .string (ofL x.value), .int .i64 x.action, .string (ofL x.cluster), .int .i64 x.status, .string (ofL x.text), .string (ofL x.rewrite), .int .i64 x.retries, .int .i64 x.timeout, .bool up]) hC hm hp)
  clear hr0 hr1 hr2 hr3 hr4 hr5 hr6 hr7 hr9 hm hp hx hC hup hG
  go_enter Tryz.func94, Tryz.ntmps94
  cases r5 with
  | false =>
    go_wp2_with fail
    refine (H0.out _ K0.out.cl).mono ?_
    rintro e v1 ⟨rfl, hb⟩
    have K1 := Lib.hid (K0.out.call hb)
    clear hb H0 K0
    have m1_6 : v1.cell? ⟨w.heap.size, 6, none⟩ = some (.string (ofL x.cluster)) := K1.out.box.cell 6
    have m1_7 : v1.cell? ⟨w.heap.size, 7, none⟩ = some (.int .i64 x.status) := K1.out.box.cell 7
    have m1_8 : v1.cell? ⟨w.heap.size, 8, none⟩ = some (.string (ofL x.text)) := K1.out.box.cell 8
    have m1_9 : v1.cell? ⟨w.heap.size, 9, none⟩ = some (.string (ofL x.rewrite)) := K1.out.box.cell 9
    have m1_10 : v1.cell? ⟨w.heap.size, 10, none⟩ = some (.int .i64 x.retries) := K1.out.box.cell 10
    have m1_11 : v1.cell? ⟨w.heap.size, 11, none⟩ = some (.int .i64 x.timeout) := K1.out.box.cell 11
    cases r0 with
    | false =>
      go_wp2_with fail
      go_ret
      exact ⟨ret_bool (by rw [HV.out]; simp), K1.out.below⟩
    | true =>
      cases r1 with
      | false =>
        go_wp2_with fail
        go_ret
        exact ⟨ret_bool (by rw [HV.out]; simp), K1.out.below⟩
      | true =>
        cases r2 with
        | false =>
          go_wp2_with fail
          go_ret
          exact ⟨ret_bool (by rw [HV.out]; simp), K1.out.below⟩
        | true =>
          cases r6 with
          | false =>
            go_wp2_with fail
            refine (H9.out _ K1.out.mi).mono ?_
            rintro e v2 ⟨rfl, hb⟩
            have K2 := Lib.hid (K1.out.call hb)
            clear m1_6 m1_7 m1_8 m1_9 m1_10 m1_11
            clear hb H9 K1
            have m2_6 : v2.cell? ⟨w.heap.size, 6, none⟩ = some (.string (ofL x.cluster)) := K2.out.box.cell 6
            have m2_7 : v2.cell? ⟨w.heap.size, 7, none⟩ = some (.int .i64 x.status) := K2.out.box.cell 7
            have m2_8 : v2.cell? ⟨w.heap.size, 8, none⟩ = some (.string (ofL x.text)) := K2.out.box.cell 8
            have m2_9 : v2.cell? ⟨w.heap.size, 9, none⟩ = some (.string (ofL x.rewrite)) := K2.out.box.cell 9
            have m2_10 : v2.cell? ⟨w.heap.size, 10, none⟩ = some (.int .i64 x.retries) := K2.out.box.cell 10
            have m2_11 : v2.cell? ⟨w.heap.size, 11, none⟩ = some (.int .i64 x.timeout) := K2.out.box.cell 11
            cases r9 with
            | false =>
              go_wp2_with fail
              go_ret
              exact ⟨ret_bool (by rw [HV.out]; simp), K2.out.below⟩
            | true =>
              go_wp2_with fail
              refine (H3.out _).mono ?_
              rintro e v3 ⟨rfl, rfl⟩
              clear H3
              cases r3 with
              | false =>
                go_wp2_with fail
                go_ret
                exact ⟨ret_bool (by rw [HV.out]; simp), K2.out.below⟩
              | true =>
                go_wp2_with fail
                refine (H4.out _).mono ?_
                rintro e v4 ⟨rfl, rfl⟩
                clear H4
                cases r4 with
                | false =>
                  go_wp2_with fail
                  go_ret
                  exact ⟨ret_bool (by rw [HV.out]; simp), K2.out.below⟩
                | true =>
                  go_wp2_with fail
                  go_ret
                  exact ⟨ret_bool (by rw [HV.out]; simp), K2.out.below⟩
          | true =>
            go_wp2_with fail
            refine (H3.out _).mono ?_
            rintro e v5 ⟨rfl, rfl⟩
            clear H3
            cases r3 with
            | false =>
              go_wp2_with fail
              go_ret
              exact ⟨ret_bool (by rw [HV.out]; simp), K1.out.below⟩
            | true =>
              go_wp2_with fail
              refine (H4.out _).mono ?_
              rintro e v6 ⟨rfl, rfl⟩
              clear H4
              cases r4 with
              | false =>
                go_wp2_with fail
                go_ret
                exact ⟨ret_bool (by rw [HV.out]; simp), K1.out.below⟩
              | true =>
                go_wp2_with fail
                go_ret
                exact ⟨ret_bool (by rw [HV.out]; simp), K1.out.below⟩
  | true =>
    cases r6 with
    | false =>
      go_wp2_with fail
      go_ret
      exact ⟨ret_bool (by rw [HV.out]; simp), K0.out.below⟩
    | true =>
      cases r7 with
      | false =>
        go_wp2_with fail
        go_ret
        exact ⟨ret_bool (by rw [HV.out]; simp), K0.out.below⟩
      | true =>
        cases up with
        | false =>
          go_wp2_with fail
          refine (H0.out _ K0.out.cl).mono ?_
          rintro e v7 ⟨rfl, hb⟩
          have K7 := Lib.hid (K0.out.call hb)
          clear hb H0 K0
          have m7_6 : v7.cell? ⟨w.heap.size, 6, none⟩ = some (.string (ofL x.cluster)) := K7.out.box.cell 6
          have m7_7 : v7.cell? ⟨w.heap.size, 7, none⟩ = some (.int .i64 x.status) := K7.out.box.cell 7
          have m7_8 : v7.cell? ⟨w.heap.size, 8, none⟩ = some (.string (ofL x.text)) := K7.out.box.cell 8
          have m7_9 : v7.cell? ⟨w.heap.size, 9, none⟩ = some (.string (ofL x.rewrite)) := K7.out.box.cell 9
          have m7_10 : v7.cell? ⟨w.heap.size, 10, none⟩ = some (.int .i64 x.retries) := K7.out.box.cell 10
          have m7_11 : v7.cell? ⟨w.heap.size, 11, none⟩ = some (.int .i64 x.timeout) := K7.out.box.cell 11
          cases r0 with
          | false =>
            go_wp2_with fail
            go_ret
            exact ⟨ret_bool (by rw [HV.out]; simp), K7.out.below⟩
          | true =>
            cases r1 with
            | false =>
              go_wp2_with fail
              go_ret
              exact ⟨ret_bool (by rw [HV.out]; simp), K7.out.below⟩
            | true =>
              cases r2 with
              | false =>
                go_wp2_with fail
                go_ret
                exact ⟨ret_bool (by rw [HV.out]; simp), K7.out.below⟩
              | true =>
                go_wp2_with fail
                refine (H3.out _).mono ?_
                rintro e v8 ⟨rfl, rfl⟩
                clear H3
                cases r3 with
                | false =>
                  go_wp2_with fail
                  go_ret
                  exact ⟨ret_bool (by rw [HV.out]; simp), K7.out.below⟩
                | true =>
                  go_wp2_with fail
                  refine (H4.out _).mono ?_
                  rintro e v9 ⟨rfl, rfl⟩
                  clear H4
                  cases r4 with
                  | false =>
                    go_wp2_with fail
                    go_ret
                    exact ⟨ret_bool (by rw [HV.out]; simp), K7.out.below⟩
                  | true =>
                    go_wp2_with fail
                    go_ret
                    exact ⟨ret_bool (by rw [HV.out]; simp), K7.out.below⟩
        | true =>
          go_wp2_with fail
          go_ret
          exact ⟨ret_bool (by rw [HV.out]; simp), K0.out.below⟩
set_option maxHeartbeats 6400000 in
theorem paction_any (x : Rout) (hx : FitRout x) (G : List Clus) (v : Value) (hG : G.length ≤ 1048576) (w : World) (hm : MaxInt w) (hp : PCfgLib.Pow w) (hC : Cluss w v G) :
    Calls Tryz.prog 60 #[.agg #[.bool x.pre, .string (ofL x.path), .string (ofL x.method), .string (ofL x.field), .string (ofL x.value), .int .i64 x.action, .string (ofL x.cluster), .int .i64 x.status, .string (ofL x.text), .string (ofL x.rewrite), .int .i64 x.retries, .int .i64 x.timeout, .bool x.upgrade], v] w fun e w' => e = .returned (.bool (actB x G)) ∧ Below w.heap.size w w' := by
  obtain ⟨a1, ha1⟩ : ∃ a1, a1 = (x.action == 1) := ⟨_, rfl⟩
  have ya1b : (x.action != 1) = !a1 := by rw [ha1]; rfl
  have ya1a : (x.action == 1) = a1 := ha1.symm
  obtain ⟨a2, ha2⟩ : ∃ a2, a2 = (x.action == 2) := ⟨_, rfl⟩
  have ya2b : (x.action != 2) = !a2 := by rw [ha2]; rfl
  have ya2a : (x.action == 2) = a2 := ha2.symm
  obtain ⟨a3, ha3⟩ : ∃ a3, a3 = (x.action == 3) := ⟨_, rfl⟩
  have ya3b : (x.action != 3) = !a3 := by rw [ha3]; rfl
  have ya3a : (x.action == 3) = a3 := ha3.symm
  obtain ⟨rF, hrF⟩ : ∃ rF, rF = fwdB x G := ⟨_, rfl⟩
  obtain ⟨rN, hrN⟩ : ∃ rN, rN = nowB x := ⟨_, rfl⟩
  obtain ⟨rR, hrR⟩ : ∃ rR, rR = (x.status == 301 || x.status == 302 || x.status == 307 || x.status == 308) := ⟨_, rfl⟩
  obtain ⟨rT, hrT⟩ : ∃ rT, rT = (x.text != [] && textB x.text) := ⟨_, rfl⟩
  obtain ⟨rD, hrD⟩ : ∃ rD, rD = dirB x.status x.method := ⟨_, rfl⟩
  obtain ⟨rX, hrX⟩ : ∃ rX, rX = textB x.text := ⟨_, rfl⟩
  have HV : Hid (actB x G = cond a1 rF (cond a2 (rN && rR && rT) (cond a3 (rN && rD && rX) false))) := Lib.hid (by unfold actB; rw [ha1, ha2, ha3, hrF, hrN, hrR, hrT, hrD, hrX])
  have HF := Lib.hid (fun w h1 h2 h3 => pforward_any x hx G v hG w h1 h2 h3)
  rw [← hrF] at HF
  have HN := Lib.hid (fun w => pnow_any x w)
  rw [← hrN] at HN
  have HR := Lib.hid (fun w => predir_any x.status w)
  rw [← hrR] at HR
  have HT := Lib.hid (fun w => pfull_any (ofL x.text) (by rw [ofL_size]; exact hx.text) w)
  rw [toL_ofL, ← hrT] at HT
  have HD := Lib.hid (fun w => pdirect_any x.status (ofL x.method) w)
  rw [toL_ofL] at HD
  unfold dirB at hrD
  rw [← hrD] at HD
  have HX := Lib.hid (fun w => ptext_any (ofL x.text) (by rw [ofL_size]; exact hx.text) w)
  rw [toL_ofL, ← hrX] at HX
  have K0 := Lib.hid (Rx.start (cs := #[.bool x.pre, .string (ofL x.path), .string (ofL x.method), .string (ofL x.field), .string (ofL x.value), .int .i64 x.action, .string (ofL x.cluster), .int .i64 x.status, .string (ofL x.text), .string (ofL x.rewrite), .int .i64 x.retries, .int .i64 x.timeout, .bool x.upgrade]) hC hm hp)
  clear ha1 ha2 ha3 hrF hrN hrR hrT hrD hrX hm hp hx hC hG
  go_enter Tryz.func60, Tryz.ntmps60
  cases a1 with
  | false =>
    cases a2 with
    | false =>
      cases a3 with
      | false =>
        go_wp2_with fail
        go_ret
        exact ⟨ret_bool (by rw [HV.out]; simp), K0.out.below⟩
      | true =>
        go_wp2_with fail
        refine (HN.out _).mono ?_
        rintro e v1 ⟨rfl, hb⟩
        have K1 := Lib.hid (K0.out.call hb)
        clear hb HN K0
        have m1_0 : v1.cell? ⟨w.heap.size, 0, none⟩ = some (.bool x.pre) := K1.out.box.cell 0
        have m1_1 : v1.cell? ⟨w.heap.size, 1, none⟩ = some (.string (ofL x.path)) := K1.out.box.cell 1
        have m1_2 : v1.cell? ⟨w.heap.size, 2, none⟩ = some (.string (ofL x.method)) := K1.out.box.cell 2
        have m1_3 : v1.cell? ⟨w.heap.size, 3, none⟩ = some (.string (ofL x.field)) := K1.out.box.cell 3
        have m1_4 : v1.cell? ⟨w.heap.size, 4, none⟩ = some (.string (ofL x.value)) := K1.out.box.cell 4
        have m1_5 : v1.cell? ⟨w.heap.size, 5, none⟩ = some (.int .i64 x.action) := K1.out.box.cell 5
        have m1_6 : v1.cell? ⟨w.heap.size, 6, none⟩ = some (.string (ofL x.cluster)) := K1.out.box.cell 6
        have m1_7 : v1.cell? ⟨w.heap.size, 7, none⟩ = some (.int .i64 x.status) := K1.out.box.cell 7
        have m1_8 : v1.cell? ⟨w.heap.size, 8, none⟩ = some (.string (ofL x.text)) := K1.out.box.cell 8
        have m1_9 : v1.cell? ⟨w.heap.size, 9, none⟩ = some (.string (ofL x.rewrite)) := K1.out.box.cell 9
        have m1_10 : v1.cell? ⟨w.heap.size, 10, none⟩ = some (.int .i64 x.retries) := K1.out.box.cell 10
        have m1_11 : v1.cell? ⟨w.heap.size, 11, none⟩ = some (.int .i64 x.timeout) := K1.out.box.cell 11
        have m1_12 : v1.cell? ⟨w.heap.size, 12, none⟩ = some (.bool x.upgrade) := K1.out.box.cell 12
        cases rN with
        | false =>
          go_wp2_with fail
          go_ret
          exact ⟨ret_bool (by rw [HV.out]; simp), K1.out.below⟩
        | true =>
          go_wp2_with fail
          refine (HD.out _).mono ?_
          rintro e v2 ⟨rfl, rfl⟩
          clear HD
          cases rD with
          | false =>
            go_wp2_with fail
            go_ret
            exact ⟨ret_bool (by rw [HV.out]; simp), K1.out.below⟩
          | true =>
            go_wp2_with fail
            refine (HX.out _).mono ?_
            rintro e v3 ⟨rfl, hb⟩
            have K3 := Lib.hid (K1.out.call hb)
            clear m1_0 m1_1 m1_2 m1_3 m1_4 m1_5 m1_6 m1_7 m1_8 m1_9 m1_10 m1_11 m1_12
            clear hb HX K1
            have m3_0 : v3.cell? ⟨w.heap.size, 0, none⟩ = some (.bool x.pre) := K3.out.box.cell 0
            have m3_1 : v3.cell? ⟨w.heap.size, 1, none⟩ = some (.string (ofL x.path)) := K3.out.box.cell 1
            have m3_2 : v3.cell? ⟨w.heap.size, 2, none⟩ = some (.string (ofL x.method)) := K3.out.box.cell 2
            have m3_3 : v3.cell? ⟨w.heap.size, 3, none⟩ = some (.string (ofL x.field)) := K3.out.box.cell 3
            have m3_4 : v3.cell? ⟨w.heap.size, 4, none⟩ = some (.string (ofL x.value)) := K3.out.box.cell 4
            have m3_5 : v3.cell? ⟨w.heap.size, 5, none⟩ = some (.int .i64 x.action) := K3.out.box.cell 5
            have m3_6 : v3.cell? ⟨w.heap.size, 6, none⟩ = some (.string (ofL x.cluster)) := K3.out.box.cell 6
            have m3_7 : v3.cell? ⟨w.heap.size, 7, none⟩ = some (.int .i64 x.status) := K3.out.box.cell 7
            have m3_8 : v3.cell? ⟨w.heap.size, 8, none⟩ = some (.string (ofL x.text)) := K3.out.box.cell 8
            have m3_9 : v3.cell? ⟨w.heap.size, 9, none⟩ = some (.string (ofL x.rewrite)) := K3.out.box.cell 9
            have m3_10 : v3.cell? ⟨w.heap.size, 10, none⟩ = some (.int .i64 x.retries) := K3.out.box.cell 10
            have m3_11 : v3.cell? ⟨w.heap.size, 11, none⟩ = some (.int .i64 x.timeout) := K3.out.box.cell 11
            have m3_12 : v3.cell? ⟨w.heap.size, 12, none⟩ = some (.bool x.upgrade) := K3.out.box.cell 12
            cases rX with
            | false =>
              go_wp2_with fail
              go_ret
              exact ⟨ret_bool (by rw [HV.out]; simp), K3.out.below⟩
            | true =>
              go_wp2_with fail
              go_ret
              exact ⟨ret_bool (by rw [HV.out]; simp), K3.out.below⟩
    | true =>
      go_wp2_with fail
      refine (HN.out _).mono ?_
      rintro e v4 ⟨rfl, hb⟩
      have K4 := Lib.hid (K0.out.call hb)
      clear hb HN K0
      have m4_0 : v4.cell? ⟨w.heap.size, 0, none⟩ = some (.bool x.pre) := K4.out.box.cell 0
      have m4_1 : v4.cell? ⟨w.heap.size, 1, none⟩ = some (.string (ofL x.path)) := K4.out.box.cell 1
      have m4_2 : v4.cell? ⟨w.heap.size, 2, none⟩ = some (.string (ofL x.method)) := K4.out.box.cell 2
      have m4_3 : v4.cell? ⟨w.heap.size, 3, none⟩ = some (.string (ofL x.field)) := K4.out.box.cell 3
      have m4_4 : v4.cell? ⟨w.heap.size, 4, none⟩ = some (.string (ofL x.value)) := K4.out.box.cell 4
      have m4_5 : v4.cell? ⟨w.heap.size, 5, none⟩ = some (.int .i64 x.action) := K4.out.box.cell 5
      have m4_6 : v4.cell? ⟨w.heap.size, 6, none⟩ = some (.string (ofL x.cluster)) := K4.out.box.cell 6
      have m4_7 : v4.cell? ⟨w.heap.size, 7, none⟩ = some (.int .i64 x.status) := K4.out.box.cell 7
      have m4_8 : v4.cell? ⟨w.heap.size, 8, none⟩ = some (.string (ofL x.text)) := K4.out.box.cell 8
      have m4_9 : v4.cell? ⟨w.heap.size, 9, none⟩ = some (.string (ofL x.rewrite)) := K4.out.box.cell 9
      have m4_10 : v4.cell? ⟨w.heap.size, 10, none⟩ = some (.int .i64 x.retries) := K4.out.box.cell 10
      have m4_11 : v4.cell? ⟨w.heap.size, 11, none⟩ = some (.int .i64 x.timeout) := K4.out.box.cell 11
      have m4_12 : v4.cell? ⟨w.heap.size, 12, none⟩ = some (.bool x.upgrade) := K4.out.box.cell 12
      cases rN with
      | false =>
        go_wp2_with fail
        go_ret
        exact ⟨ret_bool (by rw [HV.out]; simp), K4.out.below⟩
      | true =>
        go_wp2_with fail
        refine (HR.out _).mono ?_
        rintro e v5 ⟨rfl, rfl⟩
        clear HR
        cases rR with
        | false =>
          go_wp2_with fail
          go_ret
          exact ⟨ret_bool (by rw [HV.out]; simp), K4.out.below⟩
        | true =>
          go_wp2_with fail
          refine (HT.out _).mono ?_
          rintro e v6 ⟨rfl, hb⟩
          have K6 := Lib.hid (K4.out.call hb)
          clear m4_0 m4_1 m4_2 m4_3 m4_4 m4_5 m4_6 m4_7 m4_8 m4_9 m4_10 m4_11 m4_12
          clear hb HT K4
          have m6_0 : v6.cell? ⟨w.heap.size, 0, none⟩ = some (.bool x.pre) := K6.out.box.cell 0
          have m6_1 : v6.cell? ⟨w.heap.size, 1, none⟩ = some (.string (ofL x.path)) := K6.out.box.cell 1
          have m6_2 : v6.cell? ⟨w.heap.size, 2, none⟩ = some (.string (ofL x.method)) := K6.out.box.cell 2
          have m6_3 : v6.cell? ⟨w.heap.size, 3, none⟩ = some (.string (ofL x.field)) := K6.out.box.cell 3
          have m6_4 : v6.cell? ⟨w.heap.size, 4, none⟩ = some (.string (ofL x.value)) := K6.out.box.cell 4
          have m6_5 : v6.cell? ⟨w.heap.size, 5, none⟩ = some (.int .i64 x.action) := K6.out.box.cell 5
          have m6_6 : v6.cell? ⟨w.heap.size, 6, none⟩ = some (.string (ofL x.cluster)) := K6.out.box.cell 6
          have m6_7 : v6.cell? ⟨w.heap.size, 7, none⟩ = some (.int .i64 x.status) := K6.out.box.cell 7
          have m6_8 : v6.cell? ⟨w.heap.size, 8, none⟩ = some (.string (ofL x.text)) := K6.out.box.cell 8
          have m6_9 : v6.cell? ⟨w.heap.size, 9, none⟩ = some (.string (ofL x.rewrite)) := K6.out.box.cell 9
          have m6_10 : v6.cell? ⟨w.heap.size, 10, none⟩ = some (.int .i64 x.retries) := K6.out.box.cell 10
          have m6_11 : v6.cell? ⟨w.heap.size, 11, none⟩ = some (.int .i64 x.timeout) := K6.out.box.cell 11
          have m6_12 : v6.cell? ⟨w.heap.size, 12, none⟩ = some (.bool x.upgrade) := K6.out.box.cell 12
          cases rT with
          | false =>
            go_wp2_with fail
            go_ret
            exact ⟨ret_bool (by rw [HV.out]; simp), K6.out.below⟩
          | true =>
            go_wp2_with fail
            go_ret
            exact ⟨ret_bool (by rw [HV.out]; simp), K6.out.below⟩
  | true =>
    go_wp2_with fail
    refine (HF.out _ K0.out.mi K0.out.pw K0.out.cl).mono ?_
    rintro e v7 ⟨rfl, hb⟩
    have K7 := Lib.hid (K0.out.call hb)
    clear hb HF K0
    have m7_0 : v7.cell? ⟨w.heap.size, 0, none⟩ = some (.bool x.pre) := K7.out.box.cell 0
    have m7_1 : v7.cell? ⟨w.heap.size, 1, none⟩ = some (.string (ofL x.path)) := K7.out.box.cell 1
    have m7_2 : v7.cell? ⟨w.heap.size, 2, none⟩ = some (.string (ofL x.method)) := K7.out.box.cell 2
    have m7_3 : v7.cell? ⟨w.heap.size, 3, none⟩ = some (.string (ofL x.field)) := K7.out.box.cell 3
    have m7_4 : v7.cell? ⟨w.heap.size, 4, none⟩ = some (.string (ofL x.value)) := K7.out.box.cell 4
    have m7_5 : v7.cell? ⟨w.heap.size, 5, none⟩ = some (.int .i64 x.action) := K7.out.box.cell 5
    have m7_6 : v7.cell? ⟨w.heap.size, 6, none⟩ = some (.string (ofL x.cluster)) := K7.out.box.cell 6
    have m7_7 : v7.cell? ⟨w.heap.size, 7, none⟩ = some (.int .i64 x.status) := K7.out.box.cell 7
    have m7_8 : v7.cell? ⟨w.heap.size, 8, none⟩ = some (.string (ofL x.text)) := K7.out.box.cell 8
    have m7_9 : v7.cell? ⟨w.heap.size, 9, none⟩ = some (.string (ofL x.rewrite)) := K7.out.box.cell 9
    have m7_10 : v7.cell? ⟨w.heap.size, 10, none⟩ = some (.int .i64 x.retries) := K7.out.box.cell 10
    have m7_11 : v7.cell? ⟨w.heap.size, 11, none⟩ = some (.int .i64 x.timeout) := K7.out.box.cell 11
    have m7_12 : v7.cell? ⟨w.heap.size, 12, none⟩ = some (.bool x.upgrade) := K7.out.box.cell 12
    cases rF with
    | false =>
      go_wp2_with fail
      go_ret
      exact ⟨ret_bool (by rw [HV.out]; simp), K7.out.below⟩
    | true =>
      go_wp2_with fail
      go_ret
      exact ⟨ret_bool (by rw [HV.out]; simp), K7.out.below⟩
end Go.Proofs.YtfihehobkbfmiaaGreatDoor.PCfgR

/- Layer 14 of the program: checkVhost. -/
namespace Go.Proofs.YtfihehobkbfmiaaGreatDoor.PCfgV
open Go.ChangeShapes Go.WideShapes Go.ChangeAt Go.RowKit Bytes LexPure ConfPure ConfMem ConfAt Ret Mem Texts PCfgLib PCfgBox PCfgT PCfgS PCfgC PCfgR R14Name
set_option maxRecDepth 100000
set_option linter.unusedVariables false
set_option linter.unusedSimpArgs false
abbrev VT : TypeId := 43
/-- the error of one vhost -/
def vhE (cs : List Clus) (ahead : List Vhos) (v : Vhos) : Int :=
  if ahead.any (fun x => x.domain == v.domain) || !domainB v.domain then 142 else if !inB v.routes.length 1 32 || !v.routes.all (fun r => routB r cs) then 144 else 0
theorem vhosE_step (cs : List Clus) (ahead vs : List Vhos) (v : Vhos) : vhosE cs ahead (v :: vs) = if vhE cs ahead v ≠ 0 then vhE cs ahead v else vhosE cs (ahead ++ [v]) vs := by
  conv => lhs; unfold vhosE
  unfold vhE
  by_cases h1 : (ahead.any (fun x => x.domain == v.domain) || !domainB v.domain) = true
  · rw [if_pos h1, if_pos h1, if_pos (by decide)]
  · rw [if_neg h1, if_neg h1]
    by_cases h2 : (!inB v.routes.length 1 32 || !v.routes.all (fun r => routB r cs)) = true
    · rw [if_pos h2, if_pos h2, if_pos (by decide)]
    · rw [if_neg h2, if_neg h2, if_neg (by decide)]
structure Vx (w : World) (g : Nat) (d : L) (h : Value) (rs : List Rout) (va vc : Value) (A : List Vhos) (G : List Clus) (W : World) : Prop where
  box : Has W g VT #[.string (ofL d), h]
  rt : Routs W h rs
  ah : Vhoss W va A
  cl : Cluss W vc G
  mi : MaxInt W
  pw : PCfgLib.Pow W
  below : Below g w W
theorem Vx.call {w W W' : World} {g : Nat} {d : L} {h : Value} {rs : List Rout} {va vc : Value} {A : List Vhos} {G : List Clus} (x : Vx w g d h rs va vc A G W) (hb : Below W.heap.size W W') : Vx w g d h rs va vc A G W' :=
  ⟨x.box.below hb x.box.lt, x.rt.below hb, x.ah.below hb, x.cl.below hb, PUnder.MaxInt.below x.mi hb, x.pw.below hb, ⟨hb.os.trans x.below.os, hb.tape.trans x.below.tape, hb.output.trans x.below.output, Nat.le_trans x.below.size hb.size, fun i hi => (hb.block i (Nat.lt_trans hi x.box.lt)).trans (x.below.block i hi)⟩⟩
theorem Vx.start {w : World} {d : L} {h : Value} {rs : List Rout} {va vc : Value} {A : List Vhos} {G : List Clus} (hR : Routs w h rs) (hA : Vhoss w va A) (hC : Cluss w vc G) (hm : MaxInt w) (hp : PCfgLib.Pow w) : Vx w w.heap.size d h rs va vc A G (w.alloc (.cells #[.string (ofL d), h] VT)) :=
  have ha := (Below.refl w.heap.size w).alloc (Nat.le_refl _) (.cells #[.string (ofL d), h] VT)
  ⟨Has.new w _ _, hR.below ha, hA.below ha, hC.below ha, PUnder.MaxInt.below hm ha, hp.below ha, ha⟩
theorem all_step {α : Type} (G : List α) (q : α → Bool) (k : Nat) (h : k < G.length) : (G.take (k + 1)).all q = ((G.take k).all q && q G[k]) := by
  rw [List.take_succ_eq_append_getElem h, List.all_append]
  simp
theorem all_no {α : Type} {G : List α} {q : α → Bool} {k : Nat} (h : k < G.length) (hq : q G[k] = false) : G.all q = false := by
  rw [List.all_eq_false]
  exact ⟨_, List.getElem_mem h, by rw [hq]; decide⟩
set_option maxHeartbeats 6400000 in
theorem pvhost_any (x : Vhos) (h : Value) (hx : FitVhos x) (A : List Vhos) (va : Value) (hA : A.length ≤ 1048576) (G : List Clus) (vc : Value) (hG : G.length ≤ 1048576) (w : World) (hm : MaxInt w) (hp : PCfgLib.Pow w) (hR : Routs w h x.routes) (hV : Vhoss w va A) (hC : Cluss w vc G) :
    Calls Tryz.prog 23 #[.agg #[.string (ofL x.domain), h], va, vc] w fun e w' => e = .returned (.int .i64 (vhE G A x)) ∧ Below w.heap.size w w' := by
  have K0 := Lib.hid (Vx.start (d := x.domain) hR hV hC hm hp)
  obtain ⟨pr, cr, rfl⟩ : ∃ p cap, h = .slice p x.routes.length cap := by obtain ⟨p, cap, h, _⟩ := hR.parts; exact ⟨p, cap, h⟩
  have H0 := Lib.hid (fun w h => pdomain_any (ofL x.domain) (by rw [ofL_size]; exact hx.domain) w h)
  rw [toL_ofL] at H0
  have H1 := Lib.hid (fun w h => pstandsV_any x.domain va A (by omega) w h)
  have H2 := Lib.hid (fun w => pwithin_any ((x.routes.length : Nat) : Int) 1 32 w)
  have HM := Lib.hid (fun (r : Rout) hr w h1 h2 => pmatch_any r hr w h1 h2)
  have HA := Lib.hid (fun (r : Rout) hr w h1 h2 h3 => paction_any r hr G vc hG w h1 h2 h3)
  have hrl := hx.routes.1
  have HFit := Lib.hid hx.routes.2
  obtain ⟨r0, hr0⟩ : ∃ r, r = domainB x.domain := ⟨_, rfl⟩
  obtain ⟨r1, hr1⟩ : ∃ r, r = A.any (fun y => y.domain == x.domain) := ⟨_, rfl⟩
  obtain ⟨r2, hr2⟩ : ∃ r, r = inB ((x.routes.length : Nat) : Int) 1 32 := ⟨_, rfl⟩
  have HVV : Hid (vhE G A x = if r1 || !r0 then 142 else if !r2 || !x.routes.all (fun r => routB r G) then 144 else 0) := Lib.hid (by unfold vhE; rw [hr0, hr1, hr2])
  rw [← hr0] at H0
  rw [← hr1] at H1
  rw [← hr2] at H2
  clear hr0 hr1 hr2 hm hp hR hV hC hx hA hG
  go_enter Tryz.func23, Tryz.ntmps23
  go_wp2_with fail
  refine (H0.out _ K0.out.mi).mono ?_
  rintro e w1 ⟨rfl, hb⟩
  have K1 := Lib.hid (K0.out.call hb)
  clear hb H0 K0
  have m0 : w1.cell? ⟨w.heap.size, 0, none⟩ = some (.string (ofL x.domain)) := K1.out.box.cell 0
  cases r0 with
  | false =>
    clear HM HA H1 H2
    go_wp2_with fail
    go_ret
    exact ⟨ret_int (by rw [HVV.out]; cases r1 <;> rfl), K1.out.below⟩
  | true =>
  go_wp2_with fail
  refine (H1.out _ K1.out.ah).mono ?_
  rintro e w2 ⟨rfl, hb⟩
  have K2 := Lib.hid (K1.out.call hb)
  clear hb H1 K1 m0
  have m1 : w2.cell? ⟨w.heap.size, 1, none⟩ = some (.slice pr x.routes.length cr) := K2.out.box.cell 1
  cases r1 with
  | true =>
    clear HM HA H2
    go_wp2_with fail
    go_ret
    exact ⟨ret_int (by rw [HVV.out]; rfl), K2.out.below⟩
  | false =>
  go_wp2_with fail
  refine (H2.out _).mono ?_
  rintro e w3 ⟨rfl, rfl⟩
  clear H2
  cases r2 with
  | false =>
    clear HM HA
    go_wp2_with fail
    go_ret
    exact ⟨ret_int (by rw [HVV.out]; rfl), K2.out.below⟩
  | true =>
  have HV2 : Hid (vhE G A x = if !x.routes.all (fun r => routB r G) then 144 else 0) := Lib.hid (by rw [HVV.out]; rfl)
  clear HVV
  go_wp2_with fail
  go_loopw [27] (fun i wr => ∃ k : Nat, k ≤ x.routes.length ∧ i = .int .i64 k ∧ Hid ((x.routes.take k).all (fun r => routB r G) = true ∧ Vx w w.heap.size x.domain (.slice pr x.routes.length cr) x.routes va vc A G wr)) (fun i _ => x.routes.length - (intOf i).toNat)
  case atStart => exact ⟨0, Nat.zero_le _, rfl, Lib.hid ⟨rfl, K2.out⟩⟩
  case round =>
    obtain ⟨k, hk, rfl, HJ⟩ := hrel
    clear K2 m1
    by_cases hlt : k < x.routes.length
    · have hki : (k : Int) < (x.routes.length : Int) := by omega
      have hk0 : (0 : Int) ≤ (k : Int) := by omega
      have HS := Lib.hid (all_step x.routes (fun r => routB r G) k hlt)
      have HNo := Lib.hid (fun h => all_no (q := fun r => routB r G) hlt h)
      obtain ⟨gr, o, rfl, hxc⟩ := routs_at HJ.out.2.rt k hlt
      obtain ⟨r, hr⟩ : ∃ r, r = x.routes[k] := ⟨_, rfl⟩
      obtain ⟨n0, n1, n2, n3, n4, n5, n6, n7, n8, n9, n10, n11, n12⟩ := hxc r hr
      have hfr : FitRout r := by rw [hr]; exact HFit.out _ (List.getElem_mem hlt)
      have HMr := Lib.hid (HM.out r hfr)
      have HAr := Lib.hid (HA.out r hfr)
      rw [← hr] at HS HNo
      rw [routB_prog] at HS HNo
      obtain ⟨b1, hb1⟩ : ∃ b, b = matchB r := ⟨_, rfl⟩
      obtain ⟨b2, hb2⟩ : ∃ b, b = actB r G := ⟨_, rfl⟩
      rw [← hb1] at HMr HS HNo
      rw [← hb2] at HAr HS HNo
      clear hxc hr hfr hb1 hb2
      have hba := (Below.refl wr.heap.size wr).alloc (Nat.le_refl _) (.cells #[.bool r.pre, .string (ofL r.path), .string (ofL r.method), .string (ofL r.field), .string (ofL r.value), .int .i64 r.action, .string (ofL r.cluster), .int .i64 r.status, .string (ofL r.text), .string (ofL r.rewrite), .int .i64 r.retries, .int .i64 r.timeout, .bool r.upgrade] RT)
      have KA := Lib.hid (HJ.out.2.call hba)
      have HN := Lib.hid (Has.new wr RT #[.bool r.pre, .string (ofL r.path), .string (ofL r.method), .string (ofL r.field), .string (ofL r.value), .int .i64 r.action, .string (ofL r.cluster), .int .i64 r.status, .string (ofL r.text), .string (ofL r.rewrite), .int .i64 r.retries, .int .i64 r.timeout, .bool r.upgrade])
      have HH := Lib.hid HJ.out.1
      unfold RT at KA HN
      clear HJ hba
      go_wp2_with fail
      refine (HMr.out _ KA.out.mi KA.out.pw).mono ?_
      rintro e w5 ⟨rfl, hb5⟩
      have K5 := Lib.hid (KA.out.call hb5)
      have HN5 := Lib.hid (HN.out.below hb5 HN.out.lt)
      clear HMr hb5 KA HN n0 n1 n2 n3 n4 n5 n6 n7 n8 n9 n10 n11 n12
      cases b1 with
      | false =>
        have HV : Hid (vhE G A x = 144) := Lib.hid (by rw [HV2.out, HNo.out rfl]; rfl)
        clear HAr HN5 HA HM
        go_wp2_with fail
        go_ret
        exact ⟨ret_int HV.out.symm, K5.out.below⟩
      | true =>
        have n0 : w5.cell? ⟨wr.heap.size, 0, none⟩ = some (.bool r.pre) := HN5.out.cell 0
        have n1 : w5.cell? ⟨wr.heap.size, 1, none⟩ = some (.string (ofL r.path)) := HN5.out.cell 1
        have n2 : w5.cell? ⟨wr.heap.size, 2, none⟩ = some (.string (ofL r.method)) := HN5.out.cell 2
        have n3 : w5.cell? ⟨wr.heap.size, 3, none⟩ = some (.string (ofL r.field)) := HN5.out.cell 3
        have n4 : w5.cell? ⟨wr.heap.size, 4, none⟩ = some (.string (ofL r.value)) := HN5.out.cell 4
        have n5 : w5.cell? ⟨wr.heap.size, 5, none⟩ = some (.int .i64 r.action) := HN5.out.cell 5
        have n6 : w5.cell? ⟨wr.heap.size, 6, none⟩ = some (.string (ofL r.cluster)) := HN5.out.cell 6
        have n7 : w5.cell? ⟨wr.heap.size, 7, none⟩ = some (.int .i64 r.status) := HN5.out.cell 7
        have n8 : w5.cell? ⟨wr.heap.size, 8, none⟩ = some (.string (ofL r.text)) := HN5.out.cell 8
        have n9 : w5.cell? ⟨wr.heap.size, 9, none⟩ = some (.string (ofL r.rewrite)) := HN5.out.cell 9
        have n10 : w5.cell? ⟨wr.heap.size, 10, none⟩ = some (.int .i64 r.retries) := HN5.out.cell 10
        have n11 : w5.cell? ⟨wr.heap.size, 11, none⟩ = some (.int .i64 r.timeout) := HN5.out.cell 11
        have n12 : w5.cell? ⟨wr.heap.size, 12, none⟩ = some (.bool r.upgrade) := HN5.out.cell 12
        go_wp2_with fail
        refine (HAr.out _ K5.out.mi K5.out.pw K5.out.cl).mono ?_
        rintro e w6 ⟨rfl, hb6⟩
        have K6 := Lib.hid (K5.out.call hb6)
        clear HAr hb6 K5 HN5 n0 n1 n2 n3 n4 n5 n6 n7 n8 n9 n10 n11 n12
        cases b2 with
        | false =>
          have HV : Hid (vhE G A x = 144) := Lib.hid (by rw [HV2.out, HNo.out rfl]; rfl)
          clear HA HM
          go_wp2_with fail
          go_ret
          exact ⟨ret_int HV.out.symm, K6.out.below⟩
        | true =>
          have HK : Hid ((x.routes.take (k + 1)).all (fun r => routB r G) = true ∧ Vx w w.heap.size x.domain (.slice (some ⟨gr, o, none⟩) x.routes.length cr) x.routes va vc A G w6) := Lib.hid ⟨by rw [HS.out, HH.out]; rfl, K6.out⟩
          clear K6 HH HS
          go_wp2_with fail
          go_roundw
          case rel => exact ⟨k + 1, by omega, by go_num, HK⟩
          case measure => simp [intOf]; omega
    · have hki : ¬ (k : Int) < (x.routes.length : Int) := by omega
      obtain rfl : k = x.routes.length := by omega
      have HV : Hid (vhE G A x = 0) := Lib.hid (by
        have := HJ.out.1
        rw [List.take_length] at this
        rw [HV2.out, this]
        rfl)
      have HB := Lib.hid HJ.out.2.below
      clear HJ HM HA
      go_wp2_with fail
      go_ret
      exact ⟨ret_int HV.out.symm, HB.out⟩
end Go.Proofs.YtfihehobkbfmiaaGreatDoor.PCfgV
