/- Layer 2: Advance, walked. -/
import Derived.Test.YtcobjejaflikjaaWheelAdv
namespace Go.Proofs.Ytcobjejaflikjaa.WAdw
open Go.RowKit Go.Maps WMath WPure Mem Step WObj WOrd WMm WLib WDel WOps WSet WMin WNext AppendRow WEmpty WSort WAdv

theorem advance_no (w : World) (g now : Nat) (to : Int) (S : List Tm) (F : Nat → Prop) (h : Wh w g now S F) (hE : to < now ∨ 1099511627776 < to) :
    Calls Try.prog 15 #[.pointer (some ⟨g, 0, none⟩), .int .i64 to] w fun e w' => e = .returned (.tuple #[.slice none 0 0, .int .i64 20]) ∧ w = w' := by
  obtain ⟨mb, F0, D, ⟨v, L, hM, _⟩, _⟩ := h
  have c0 := hM.cell0
  clear hM
  by_cases q : to < now
  · clear hE
    go_enter Try.func15, Try.ntmps15
    go_wp2_with fail
    go_ret2
    exact ⟨rfl, rfl⟩
  · have q2 : 1099511627776 < to := by omega
    clear hE
    go_enter Try.func15, Try.ntmps15
    go_wp2_with fail
    go_ret2
    exact ⟨rfl, rfl⟩

theorem row_shape {w : World} {tv : Value} {T : List Tm} (hr : w.ownsRow 0 42 2 tv T.length (encs T)) : ∃ p cap, tv = .slice p T.length cap ∧ (0 < T.length → ∃ b, p = some ⟨b, 0, none⟩ ∧ tv.ownBlock = some b) := by
  rcases hr.2 with ⟨h, hn⟩ | ⟨b, cap, _, h, _⟩
  · exact ⟨none, 0, by rw [h, hn], fun h0 => by omega⟩
  · exact ⟨_, cap, h, fun _ => ⟨b, rfl, by rw [h]; rfl⟩⟩

theorem parted {α : Type} (p : α → Bool) (l : List α) : (l.filter p ++ l.filter fun x => !p x).Perm l := by
  have h := filter_or p (fun x => !p x) l (fun x _ hx => by simp [hx])
  refine h.symm.trans (List.Perm.of_eq ?_)
  rw [List.filter_eq_self]
  intro x _
  simp
theorem x_perm {T R : List Tm} (to k : Nat) : (T.drop k ++ ((T.take k).filter (isLate to) ++ R)).Sublist (T.drop k ++ (T.take k ++ R)) :=
  (List.Sublist.refl _).append (List.filter_sublist.append (List.Sublist.refl _))
theorem x_all {T R : List Tm} (k : Nat) : (T.drop k ++ (T.take k ++ R)).Perm (T ++ R) := by
  rw [← List.append_assoc]
  refine List.Perm.append_right R ?_
  refine List.perm_append_comm.trans (List.Perm.of_eq (List.take_append_drop k T))
theorem x_nodup {S T R : List Tm} (to k : Nat) (hnd : (S.map Prod.fst).Nodup) (hp : (T ++ R).Perm S) : ((T.drop k ++ ((T.take k).filter (isLate to) ++ R)).map Prod.fst).Nodup :=
  ((((x_all k).trans hp).map Prod.fst).nodup_iff.2 hnd).sublist ((x_perm to k).map _)
theorem x_len {S T R : List Tm} (to k : Nat) (hp : (T ++ R).Perm S) : ((T.take k).filter (isLate to) ++ R).length ≤ S.length := by
  have h1 := (x_perm (T := T) (R := R) to k).length_le
  have h2 := ((x_all (T := T) (R := R) k).trans hp).length_eq
  simp only [List.length_append] at h1 h2 ⊢
  omega
theorem end_late {S T R : List Tm} {to : Nat} (hp : (T ++ R).Perm S) (hR : ∀ t ∈ R, isLate to t = true) : (T.filter (isLate to) ++ R).Perm (S.filter (isLate to)) := by
  have h := hp.filter (isLate to)
  rw [List.filter_append, List.filter_eq_self.2 hR] at h
  exact h
theorem end_due {S T R : List Tm} {to : Nat} (hp : (T ++ R).Perm S) (hR : ∀ t ∈ R, isLate to t = true) : (T.filter (isDue to)).Perm (S.filter (isDue to)) := by
  have h := hp.filter (isDue to)
  have e : R.filter (isDue to) = [] := List.filter_eq_nil_iff.2 (fun t ht => by simp [isDue, hR t ht])
  rw [List.filter_append, e, List.append_nil] at h
  exact h
theorem rest_late {now to : Nat} {S : List Tm} (hn : now ≤ to) (h2 : to ≤ 1099511627776) (hB : ∀ t ∈ S, now ≤ t.2 ∧ t.2 ≤ 1099511627776) : ∀ t ∈ S.filter (fun t => !rch now to (slot now t.2)), isLate to t = true := by
  intro t ht
  rw [List.mem_filter] at ht
  obtain ⟨b1, b2⟩ := hB t ht.1
  have h4 : ¬ reached now to (slot now t.2) := by simpa [rch] using ht.2
  simpa [isLate] using (later_of_not b1 hn b2 h2 h4).1
theorem AInv.start {w W : World} {g mb to : Nat} {S R T : List Tm} {tv : Value} {F0 F' : Nat → Prop} {D : DataW Unit} (hS : Slots W g to mb R F') (hT : Times w mb S D) (hp : (T ++ R).Perm S) (hmb : ¬ F0 mb) (s : Step w W F0 F')
    (hr : W.ownsRow 0 42 2 tv T.length (encs T)) (hb : ∀ b, tv.ownBlock = some b → ¬ F' b ∧ w.heap.size ≤ b) : AInv w g mb to R T tv F0 0 (.slice none 0 0) W := by
  have hml := hT.lt
  refine ⟨F', D, by simpa using hS, ?_, fun hf => ?_, hr, fun b e => ⟨(hb b e).1, ?_, (hb b e).2⟩, by simpa [encs] using World.ownsRow_nil W 0 42 2, fun b e => by simp [Value.ownBlock] at e, s.with_ mb⟩
  · have := Times.perm (hT.far s hmb) hp.symm
    simpa using this
  · rcases s.grow mb hf with h | ⟨h, _⟩
    · exact hmb h
    · omega
  · have := (hb b e).2
    omega

set_option maxHeartbeats 6400000 in
set_option maxRecDepth 100000 in
theorem advance_walk (w : World) (g now mb to : Nat) (S : List Tm) (F0 : Nat → Prop) (D : DataW Unit) (hS : Slots w g now mb S F0) (hT : Times w mb S D) (hmb : ¬ F0 mb) (hnd : (S.map Prod.fst).Nodup) (hlen : S.length ≤ 4096)
    (hid : ∀ t ∈ S, t.1 ≤ 1099511627776) (h1 : now ≤ to) (h2 : to ≤ 1099511627776) :
    Calls Try.prog 15 #[.pointer (some ⟨g, 0, none⟩), .int .i64 to] w fun e w' => ∃ fv X F' D', e = .returned (.tuple #[fv, .int .i64 0]) ∧ X.Perm (S.filter (isDue to)) ∧ Rising X ∧
      w'.ownsRow 0 42 2 fv X.length (encs X) ∧ (∀ b, fv.ownBlock = some b → ¬ F' b ∧ b ≠ mb ∧ w.heap.size ≤ b) ∧
      Slots w' g to mb (S.filter (isLate to)) F' ∧ Times w' mb (S.filter (isLate to)) D' ∧ ¬ F' mb ∧ Step w w' (plus F0 mb) (plus F' mb) := by
  obtain ⟨i0, hi, hz0, hz1, hz2⟩ := info_parts infoT
  have hS0 := hS
  obtain ⟨v, L, hM, hn, hP, hB⟩ := hS0
  have c0 := hM.cell0
  have q1 : ¬ ((to : Int) < (now : Int)) := by omega
  have q2 : ¬ (1099511627776 < (to : Int)) := by omega
  have hTl : ∀ c, c ≤ 448 → (Tc now to L c).length ≤ 4096 := fun c hc => by
    have := (flat_perm hP (rch now to) c hc).length_eq
    have := List.length_filter_le (fun t : Tm => decide (slot now t.2 < c) && rch now to (slot now t.2)) S
    unfold Tc
    omega
  have HEM := Lib.hid (empty_walk w g now mb to v L F0 hM h1 h2 (fun c hc => by
    have a1 := hTl c (by omega)
    have a2 := (hP c hc).length_eq
    have := List.length_filter_le (fun t : Tm => slot now t.2 == c) S
    omega))
  have HTT := Lib.hid hT
  have HSE := Lib.hid (fun (wr : World) (tv : Value) (hE : EInv w g now mb to L F0 448 tv wr) => slots_emptied h1 h2 hP hB hE)
  have HC := Lib.hid (fun (wr : World) (tv : Value) (hE : EInv w g now mb to L F0 448 tv wr) => (show wr.cell? ⟨g, 0, none⟩ = some (.int .i64 now) ∧ wr.frozen? ⟨g, 0, none⟩ = false from by obtain ⟨v', F', hM', _⟩ := hE; exact ⟨hM'.cell0, hM'.free 0⟩))
  have hT448 := hTl 448 (Nat.le_refl _)
  have HRL := Lib.hid (rest_late h1 h2 hB)
  have HB := Lib.hid hB
  clear hM hP hB hT hTl hS
  go_enter Try.func15, Try.ntmps15
  go_wp2_with fail
  refine HEM.out.mono ?_
  rintro e w1 ⟨tv, rfl, hE⟩
  obtain ⟨cw, fw⟩ := HC.out w1 tv hE
  have HI := Lib.hid (HSE.out w1 tv hE)
  have hgl : g < w1.heap.size := block_lt_of_cell cw
  clear hE c0 HEM HSE HC
  obtain ⟨p, cap, htv, hpb⟩ : ∃ p cap, tv = .slice p (Tc now to L 448).length cap ∧ (0 < (Tc now to L 448).length → ∃ b, p = some ⟨b, 0, none⟩ ∧ tv.ownBlock = some b) := by
    obtain ⟨F', _, _, hr, _⟩ := HI.out
    exact row_shape hr
  generalize Tc now to L 448 = T at HI htv hpb hT448
  generalize hTn : T.length = n at htv hpb hT448
  subst htv
  obtain ⟨R, hR⟩ : ∃ R, R = S.filter fun t => !rch now to (slot now t.2) := ⟨_, rfl⟩
  rw [← hR] at HI HRL
  obtain ⟨hPTR, HA0⟩ : (T ++ R).Perm S ∧ AInv w g mb to R T (.slice p n cap) F0 0 (.slice none 0 0) (w1.setCell ⟨g, 0, none⟩ (.int .i64 to)) := by
    obtain ⟨F', a1, a2, a3, a4, a5⟩ := HI.out
    have hp : (T ++ R).Perm S := (a5.append_right R).trans (by rw [hR]; exact parted _ S)
    exact ⟨hp, AInv.start a1 HTT.out hp hmb a2 a3 a4⟩
  clear HI hR
  have HP := Lib.hid hPTR
  have HA0' := Lib.hid HA0
  clear hPTR HA0
  go_wp2_with fail
  generalize w1.setCell ⟨g, 0, none⟩ (.int .i64 to) = W at HA0' ⊢
  clear cw fw hgl
  go_loopw [7, 29] (fun fv i wr => ∃ k : Nat, k ≤ n ∧ i = .int .i64 k ∧ Hid (AInv w g mb to R T (.slice p n cap) F0 k fv wr)) (fun _ i _ => n - (intOf i).toNat)
  case atStart => exact ⟨0, Nat.zero_le _, rfl, HA0'⟩
  case round =>
    obtain ⟨k, hk, rfl, HA⟩ := hrel
    clear HA0'
    by_cases hlt : k < n
    · have hki : (k : Int) < (n : Int) := by omega
      obtain ⟨b, rfl, hvb⟩ := hpb (by omega)
      obtain ⟨t, ht⟩ : ∃ t, T[k]? = some t := ⟨T[k], List.getElem?_eq_getElem (by omega)⟩
      obtain ⟨F', D', a1, a2, a3, a4, a5, a6, a7, a8⟩ := HA.out
      obtain ⟨e0, e1⟩ := row_at a4 hvb k t ht
      have hbl := row_lt a4 hvb
      have htS : t ∈ S := HP.out.mem_iff.1 (List.mem_append_left _ (List.mem_of_getElem? ht))
      obtain ⟨b1, b2⟩ := HB.out t htS
      have hti := hid t htS
      have hxl := Nat.le_trans (x_len to k HP.out) hlen
      have s1 := Step.alloc wr (.cells #[.int .i64 t.1, .int .i64 t.2] 42) (fun _ => False)
      have HT := Lib.hid ht
      clear ht
      by_cases hl : to < t.2
      · have hli : (to : Int) < (t.2 : Int) := by omega
        have hput := put_any (a1.far s1 (fun _ _ h => h)) t (by omega) b2 (by omega)
        have HPUT := Lib.hid hput
        have A2 := Lib.hid a2
        have A4 := Lib.hid a4
        have A6 := Lib.hid a6
        have A7 := Lib.hid a7
        have A5 := Lib.hid a5
        have A8 := Lib.hid a8
        have S1 := Lib.hid s1
        clear a1 a2 a4 a5 a6 a7 a8 s1 hput
        go_wp2_with fail
        refine HPUT.out.mono ?_
        rintro e w2 ⟨rfl, F2, hS2, s2⟩
        have A1 := Lib.hid hS2
        have S2 := Lib.hid s2
        clear hS2 s2 e0 e1
        go_wp2_with fail
        exact ⟨⟨k + 1, by omega, by go_num, Lib.hid (AInv.put HT.out (by simpa [isLate] using hl) A2.out a3 A4.out A5.out A6.out A7.out A8.out S1.out A1.out S2.out)⟩, by simp [intOf]; omega⟩
      · have hli : ¬ ((to : Int) < (t.2 : Int)) := by omega
        have hbx := Has.new wr 42 #[.int .i64 t.1, .int .i64 t.2]
        have hcM : (wr.alloc (.cells #[.int .i64 t.1, .int .i64 t.2] 42)).cell? ⟨g, 449, none⟩ = some (.map (some mb)) := by
          obtain ⟨v', L', hM', _⟩ := a1.far s1 (fun _ _ h => h)
          exact hM'.cellM
        have hown0 : OwnM (wr.alloc (.cells #[.int .i64 t.1, .int .i64 t.2] 42)).drew mb (Maps.size D') D' := (a2.far s1 (fun h => h)).own
        have hml := a2.lt
        have hnb : mb ≠ wr.heap.size := by omega
        have hub : u7.ownBlock ≠ some wr.heap.size := fun e => by have := row_lt a6 e; omega
        have hum : u7.ownBlock ≠ some mb := fun e => (a7 mb e).2.1 rfl
        have hXN := x_nodup to k hnd HP.out
        have hdl : ((T.take k).filter (isDue to)).length ≤ 4096 := by
          have := List.length_filter_le (isDue to) (T.take k)
          have := List.length_take_le k T
          omega
        have A1 := Lib.hid a1
        have A2 := Lib.hid a2
        have A4 := Lib.hid a4
        have A6 := Lib.hid a6
        have A7 := Lib.hid a7
        have A5 := Lib.hid a5
        have A8 := Lib.hid a8
        have S1 := Lib.hid s1
        have XN := Lib.hid hXN
        clear a1 a2 a4 a5 a6 a7 a8 s1 hXN
        go_wp2_with fail
        clear e0 e1
        generalize wr.alloc (.cells #[.int .i64 t.1, .int .i64 t.2] 42) = wb at hbx hcM hown0 S1 ⊢
        obtain ⟨bx, hbxe⟩ : ∃ bx, bx = wr.heap.size := ⟨_, rfl⟩
        rw [← hbxe] at hbx hnb hub ⊢
        clear hbxe
        have x0 := (hbx.cell 0).trans (show _ = some (Value.int .i64 (t.1 : Int)) from rfl)
        have x1 := (hbx.cell 1).trans (show _ = some (Value.int .i64 (t.2 : Int)) from rfl)
        have HBX := Lib.hid hbx
        clear hbx
        go_region_law (refine step_delete rfl (.tmp 43) (.tmp 45) 52 3 rfl 3 law Try.underlying52 _ mb (Maps.size D') D' (by simp [Act.eval]) hown0 (.int .i64 t.1) (.int .i64 t.1) (by simp [Act.eval]) (keyI (by omega) (by omega)) ?_; intro w2 hown2 hturn2)
        all_goals
          have s2 : Step wb w2 (fun k => k = mb) (fun k => k = mb) := (Step.drew wb _).trans (Step.of_grown hturn2.grown (fun k e => by injection e with e; exact e.symm))
          have X2 := s2.has HBX.out (fun e => hnb e.symm)
          have y0 := (X2.cell 0).trans (show _ = some (Value.int .i64 (t.1 : Int)) from rfl)
          have y1 := (X2.cell 1).trans (show _ = some (Value.int .i64 (t.2 : Int)) from rfl)
          have R2 := s2.row (S1.out.row A6.out (fun _ _ h => h)) (fun b e e' => hum (by rw [e, e']))
          have R3 := R2.alloc (.cells #[.int .i64 t.1, .int .i64 t.2] 42)
          have hnews := World.news_of_block (heap_alloc_new w2 (.cells #[.int .i64 t.1, .int .i64 t.2] 42))
          have HN := Lib.hid hnews
          have S2 := Lib.hid s2
          have O2 := Lib.hid hown2
          clear s2 X2 R2 hnews hown2 hturn2 x0 x1 hcM hown0
          go_wp2_with (at_builtin; refine wpList_append_own_at _ rfl (.tmp 46) (.tmp 48) 38 rfl 0 42 i0 _ 2 16 Try.underlying38 hi hz0 hz1 hz2 rfl (by omega) u7 _ _ rfl R3 ⟨w2.heap.size, 0, none⟩ 1 1 (encT t) rfl rfl HN.out (by simp [encT, Value.oneCell']) (by simp only [maxLen]; omega) (by omega) (Nat.zero_le _) ?_; intro fv' w4 hown4 hg4 _ hat4)
          exact ⟨⟨k + 1, by omega, by go_num, Lib.hid (AInv.fire HT.out (by simpa [isLate] using hl) XN.out A1.out A2.out a3 A4.out A5.out A6.out A7.out A8.out S1.out O2.out S2.out (Step.alloc w2 _ _) hown4 hg4 hat4)⟩, by simp [intOf]; omega⟩
    · have hkn : k = n := by omega
      have hTk : T.take k = T := List.take_of_length_le (by omega)
      have hTd : T.drop k = [] := List.drop_of_length_le (by omega)
      obtain ⟨F', D', a1, a2, a3, a4, a5, a6, a7, a8⟩ := HA.out
      rw [hTk] at a1 a2 a6
      rw [hTd, List.nil_append] at a2
      have hdl : (T.filter (isDue to)).length ≤ 4096 := by
        have := List.length_filter_le (isDue to) T
        omega
      have HSO := Lib.hid (sort_any u7 (T.filter (isDue to)) _ wr a6 rfl (by omega))
      have A1 := Lib.hid a1
      have A2 := Lib.hid a2
      have A7 := Lib.hid a7
      have A8 := Lib.hid a8
      clear a1 a2 a4 a5 a6 a7 a8 hTk hTd
      go_wp2_with fail
      refine HSO.out.mono ?_
      rintro e w2 ⟨rfl, hr2, hg2⟩
      have HR2 := Lib.hid hr2
      have HG2 := Lib.hid hg2
      clear hr2 hg2
      go_wp2_with fail
      go_ret2
      have s2 : Step wr w2 (fun b => u7.ownBlock = some b) (fun b => u7.ownBlock = some b) := Step.of_grown HG2.out (fun b e => e)
      have hdp := end_due (to := to) HP.out HRL.out
      have hnd2 : (T.filter (isDue to)).Nodup := by
        have h1 : ((T.filter (isDue to)).map Prod.fst).Nodup := ((hdp.map Prod.fst).nodup_iff).2 (hnd.sublist (List.Sublist.map _ List.filter_sublist))
        exact List.Pairwise.of_map Prod.fst (fun a b h e => h (by rw [e])) h1
      refine ⟨u7, sortT (T.filter (isDue to)), F', D', rfl, (sortT_perm _).trans hdp, sortT_sorted _ hnd2, by rw [sortT_len]; exact HR2.out, fun b e => ⟨(A7.out b e).1, (A7.out b e).2.1, (A7.out b e).2.2.1⟩,
        Slots.perm (A1.out.far s2 (fun k hk e => (A7.out k e).1 hk)) (end_late HP.out HRL.out), Times.perm (A2.out.far s2 (fun e => (A7.out mb e).2.1 rfl)) (end_late HP.out HRL.out), a3, A8.out.beyond s2 (fun k e => (A7.out k e).2.2.1)⟩

/-- **Advance** -/
theorem advance_any (w : World) (g now : Nat) (to : Int) (S : List Tm) (F : Nat → Prop) (h : Wh w g now S F) :
    Calls Try.prog 15 #[.pointer (some ⟨g, 0, none⟩), .int .i64 to] w fun e w' =>
      ((to < now ∨ 1099511627776 < to) ∧ e = .returned (.tuple #[.slice none 0 0, .int .i64 20]) ∧ w = w') ∨
      (∃ (n : Nat) (fv : Value) (X : List Tm) (F' : Nat → Prop), (n : Int) = to ∧ now ≤ n ∧ n ≤ 1099511627776 ∧ e = .returned (.tuple #[fv, .int .i64 0]) ∧ X.Perm (S.filter (isDue n)) ∧ Rising X ∧
        w'.ownsRow 0 42 2 fv X.length (encs X) ∧ (∀ b, fv.ownBlock = some b → ¬ F' b ∧ w.heap.size ≤ b) ∧ Wh w' g n (S.filter (isLate n)) F' ∧ Step w w' F F') := by
  by_cases q : to < now ∨ 1099511627776 < to
  · refine (advance_no w g now to S F h q).mono ?_
    rintro e w' ⟨rfl, rfl⟩
    exact .inl ⟨q, rfl, rfl⟩
  · obtain ⟨n, rfl⟩ : ∃ n : Nat, to = n := ⟨to.toNat, by omega⟩
    obtain ⟨mb, F0, D, hS, hT, hm, hF0, hmF, hFl, hnd, hid, hlen⟩ := h
    refine (advance_walk w g now mb n S F0 D hS hT hm hnd hlen hid (by omega) (by omega)).mono ?_
    rintro e w' ⟨fv, X, F', D', rfl, hX, hR, hrow, hb, hS', hT', hm', s⟩
    have hlow : ∀ k, plus F' mb k → k < w'.heap.size := fun k hk => by
      rcases hk with hk | rfl
      · obtain ⟨v, L, hM, _⟩ := hS'
        exact hM.low k hk
      · exact hT'.lt
    have hsub : ∀ k, plus F0 mb k → F k := fun k hk => hk.elim (hF0 k) (fun e => e ▸ hmF)
    refine .inr ⟨n, fv, X, fun k => F k ∨ plus F' mb k, rfl, by omega, by omega, rfl, hX, hR, hrow, fun b e => ⟨?_, (hb b e).2.2⟩, ⟨mb, F', D', hS', hT', hm', fun k hk => .inr (.inl hk), .inl hmF, fun k hk => ?_, hnd.sublist (List.Sublist.map _ List.filter_sublist), fun t ht => hid t (List.mem_filter.1 ht).1, Nat.le_trans (List.length_filter_le _ _) hlen⟩, ?_⟩
    · rintro (h | h | h)
      · have := hFl b h
        have := (hb b e).2.2
        omega
      · exact (hb b e).1 h
      · exact (hb b e).2.1 h
    · rcases hk with hk | hk
      · exact Nat.lt_of_lt_of_le (hFl k hk) s.size
      · exact hlow k hk
    · exact ⟨s.os, s.tape, s.output, s.size, fun k hk hn => s.block k hk (fun hf => hn (hsub k hf)), fun k hk => hk.elim .inl (fun hf => (s.grow k hf).imp (hsub k) id)⟩
end Go.Proofs.Ytcobjejaflikjaa.WAdw
