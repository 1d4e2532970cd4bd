/- Layer 2: the wheel's calls but Next and Advance, at any arguments. -/
import Derived.Test.YtcobjejaflikjaaWheelOps
namespace Go.Proofs.Ytcobjejaflikjaa.WSet
open Go.RowKit Go.Maps WMath WPure Mem Step WObj WMm WLib WDel WOps

theorem cancel_no (w : World) (g now mb : Nat) (x : Int) (S : List Tm) (F0 : Nat → Prop) (D : DataW Unit) (hS : Slots w g now mb S F0) (hT : Times w mb S D)
    (h1 : -9223372036854775808 ≤ x) (h2 : x ≤ 9223372036854775807) (hno : ∀ t ∈ S, (t.1 : Int) ≠ x) :
    Calls Try.prog 16 #[.pointer (some ⟨g, 0, none⟩), .int .i64 x] w fun e w' => e = .returned (.bool false) ∧ Below w.heap.size w w' := by
  obtain ⟨v, L, hM, _⟩ := hS
  have hf : Maps.has D (.int .i64 x) = false := by
    cases hh : Maps.has D (.int .i64 x) with
    | false => rfl
    | true =>
      obtain ⟨u, hu, he⟩ := (hT.has x).1 hh
      exact absurd he (hno u hu)
  have s1 := Step.alloc w (.cells #[.int .i64 x] 3) (fun _ => False)
  have cM := (hM.far s1 (fun _ _ h => h)).cellM
  have cX := ((Has.new w 3 #[.int .i64 x]).cell 0).trans (show _ = some (Value.int .i64 x) from rfl)
  have hT1 := hT.far s1 (fun h => h)
  obtain ⟨c, hlook, _, hc⟩ := (show Times (w.alloc (.cells #[.int .i64 x] 3)).drew mb S D from ⟨hT1.own.drew, hT1.len, hT1.has, hT1.at_⟩).look (x := x) h1 h2
  rw [hf, hc hno] at hlook
  have HB := Lib.hid (((Below.refl w.heap.size w).alloc (Nat.le_refl _) (.cells #[.int .i64 x] 3)).drew)
  clear hM hT hT1 s1 hno hc hf
  go_enter Try.func16, Try.ntmps16
  go_wp2_with fail
  generalize w.alloc (.cells #[.int .i64 x] 3) = W at cM cX hlook HB ⊢
  generalize w.heap.size = bx at cX ⊢
  go_region
  go_wp2_with fail
  go_ret
  exact ⟨rfl, HB.out⟩

theorem now_any (w : World) (g now : Nat) (S : List Tm) (F : Nat → Prop) (h : Wh w g now S F) :
    Calls Try.prog 18 #[.pointer (some ⟨g, 0, none⟩)] w fun e w' => e = .returned (.int .i64 now) ∧ w = w' := by
  obtain ⟨mb, F0, D, ⟨v, L, hM, _⟩, _⟩ := h
  have c0 := hM.cell0
  clear hM
  go_enter Try.func18, Try.ntmps18
  go_wp2
  go_ret
  exact ⟨rfl, rfl⟩

theorem len_any (w : World) (g now : Nat) (S : List Tm) (F : Nat → Prop) (h : Wh w g now S F) :
    Calls Try.prog 14 #[.pointer (some ⟨g, 0, none⟩)] w fun e w' => e = .returned (.int .i64 (S.length : Nat)) ∧ w = w' := by
  obtain ⟨mb, F0, D, ⟨v, L, hM, _⟩, hT, _⟩ := h
  have c0 := hM.cellM
  have hl := hT.len
  have hown := hT.own
  rw [hl] at hown
  clear hM hT
  go_enter Try.func14, Try.ntmps14
  go_wp2_with (at_len; refine wpList_len_own _ rfl _ 52 rfl 3 3 Try.underlying52 _ mb S.length D rfl hown ?_)
  go_ret
  exact ⟨rfl, rfl⟩

theorem due_any (w : World) (g now : Nat) (x : Int) (S : List Tm) (F : Nat → Prop) (h : Wh w g now S F) (h1 : -9223372036854775808 ≤ x) (h2 : x ≤ 9223372036854775807) :
    Calls Try.prog 19 #[.pointer (some ⟨g, 0, none⟩), .int .i64 x] w fun e w' => (∃ c : Int, e = .returned (.tuple #[.int .i64 c, .bool (hasId S x)]) ∧ (∀ t ∈ S, (t.1 : Int) = x → c = t.2) ∧ ((∀ t ∈ S, (t.1 : Int) ≠ x) → c = 0)) ∧ w = w' := by
  obtain ⟨mb, F0, D, ⟨v, L, hM, _⟩, hT, _⟩ := h
  have c0 := hM.cellM
  obtain ⟨c, hlook, hc, hn⟩ := hT.look h1 h2
  have he : Maps.has D (.int .i64 x) = hasId S x := by
    rw [Bool.eq_iff_iff, hT.has]
    simp [hasId]
  rw [he] at hlook
  have HC := Lib.hid hc
  have HN := Lib.hid hn
  clear hM hT hc hn he
  go_enter Try.func19, Try.ntmps19
  go_wp2
  go_ret2
  exact ⟨⟨c, rfl, HC.out, HN.out⟩, rfl⟩

/-- Cancel, over the wheel's parts -/
theorem cancel_parts (w : World) (g now mb : Nat) (x : Int) (S : List Tm) (F0 : Nat → Prop) (D : DataW Unit) (hS : Slots w g now mb S F0) (hT : Times w mb S D) (hmb : ¬ F0 mb) (hnd : (S.map Prod.fst).Nodup) (hlen : S.length ≤ 4096)
    (hid : ∀ t ∈ S, t.1 ≤ 1099511627776) (h1 : -9223372036854775808 ≤ x) (h2 : x ≤ 9223372036854775807) :
    Calls Try.prog 16 #[.pointer (some ⟨g, 0, none⟩), .int .i64 x] w fun e w' => e = .returned (.bool (hasId S x)) ∧
      ∃ F' D', Slots w' g now mb (without S x) F' ∧ Times w' mb (without S x) D' ∧ ¬ F' mb ∧ Step w w' (plus F0 mb) (plus F' mb) := by
  by_cases h : ∃ t ∈ S, (t.1 : Int) = x
  · obtain ⟨t, ht, rfl⟩ := h
    have e : hasId S (t.1 : Int) = true := by simp [hasId]; exact ⟨t.1, ⟨t.2, ht⟩, rfl⟩
    rw [e]
    exact cancel_yes w g now mb t.1 t.2 S F0 D hS hT hmb hnd hlen (hid t ht) ht
  · have hno : ∀ t ∈ S, (t.1 : Int) ≠ x := fun t ht e => h ⟨t, ht, e⟩
    have e : hasId S x = false := by simpa [hasId] using fun a b hab => hno (a, b) hab
    rw [e, without_no hno]
    refine (cancel_no w g now mb x S F0 D hS hT h1 h2 hno).mono ?_
    rintro e w' ⟨rfl, hB⟩
    have s := Step.of_below hB (fun _ => False)
    exact ⟨rfl, F0, D, hS.far s (fun _ _ h => h), hT.far s (fun h => h), hmb, s.none _ (fun _ h => h)⟩

/-- what Set answers -/
def setE (now : Nat) (S : List Tm) (x at_ : Int) : Int :=
  if x < 0 ∨ 1099511627776 < x then 21 else if at_ < now ∨ 1099511627776 < at_ then 20 else if hasId S x = false ∧ 4096 ≤ S.length then 22 else 0

set_option maxHeartbeats 1600000 in
theorem set_ok (w : World) (g now mb : Nat) (x a : Nat) (S : List Tm) (F0 : Nat → Prop) (D : DataW Unit) (hS : Slots w g now mb S F0) (hT : Times w mb S D) (hmb : ¬ F0 mb) (hnd : (S.map Prod.fst).Nodup) (hlen : S.length ≤ 4096)
    (hid : ∀ t ∈ S, t.1 ≤ 1099511627776) (hx : x ≤ 1099511627776) (hna : now ≤ a) (ha : a ≤ 1099511627776) (hfit : hasId S x = true ∨ S.length < 4096) :
    Calls Try.prog 13 #[.pointer (some ⟨g, 0, none⟩), .int .i64 x, .int .i64 a] w fun e w' => e = .returned (.int .i64 0) ∧
      ∃ F' D', Slots w' g now mb ((x, a) :: without S x) F' ∧ Times w' mb ((x, a) :: without S x) D' ∧ ¬ F' mb ∧ Step w w' (plus F0 mb) (plus F' mb) := by
  have hM := hS
  obtain ⟨v, L, hM, _⟩ := hM
  have c0 := hM.cell0
  have cM := hM.cellM
  obtain ⟨c, hlook, _, _⟩ := hT.look (x := x) (by omega) (by omega)
  have he : Maps.has D (.int .i64 x) = hasId S x := by
    rw [Bool.eq_iff_iff, hT.has]
    simp [hasId]
  rw [he] at hlook
  have hl := hT.len
  have hlb := fun ty => hT.own.len Try.underlying52 ty
  rw [hl] at hlb
  have g1 : ¬ ((x : Int) < 0) := by omega
  have g2 : ¬ (1099511627776 < (x : Int)) := by omega
  have g3 : ¬ ((a : Int) < (now : Int)) := by omega
  have g4 : ¬ (1099511627776 < (a : Int)) := by omega
  have HC := Lib.hid (cancel_parts w g now mb x S F0 D hS hT hmb hnd hlen hid (by omega) (by omega))
  clear he hM
  have HS := Lib.hid hS
  have HT := Lib.hid hT
  clear hS hT
  cases hh : hasId S (x : Int) with
  | true =>
    rw [hh] at hlook
    go_enter Try.func13, Try.ntmps13
    go_wp2_with fail
    refine HC.out.mono ?_
    rintro e w1 ⟨rfl, F1, D1, hS1, hT1, hm1, s1⟩
    have cM1 : w1.cell? ⟨g, 449, none⟩ = some (.map (some mb)) := by obtain ⟨v1, L1, hM1, _⟩ := hS1; exact hM1.cellM
    have hown1 := hT1.own
    have hl1 : Maps.size D1 < maxLen := by
      have e1 := hT1.len
      have e2 : (without S (x : Int)).length ≤ S.length := List.length_filter_le _ _
      unfold maxLen
      omega
    have HS1 := Lib.hid hS1
    have HT1 := Lib.hid hT1
    have HST := Lib.hid s1
    clear hS1 hT1 s1 c0 cM hlook hlb
    go_wp2_with (at_mapUpdate; refine wpList_mapUpdate_own _ rfl _ _ _ 52 rfl 3 3 law Try.underlying52 _ mb _ D1 rfl hown1 hl1 _ _ _ rfl rfl (keyI (by omega) (by omega)) _ [] (plainElem_int Try.underlying3 (wf64 (by omega) (by omega))) ?_; intro w2 hown2 hgrow2)
    have s2 : Step w1 w2 (fun k => k = mb) (fun k => k = mb) := Step.of_grown hgrow2 (fun k e => by injection e with e; exact e.symm)
    have hS2 := HS1.out.far s2 (fun k hk e => hm1 (e ▸ hk))
    have hT2 := HT1.out.put (t := (x, a)) hown2 (fun u hu e => (mem_without.1 hu).2 (by rw [e]))
    have hlw : (without S (x : Int)).length ≤ 65536 := Nat.le_trans (List.length_filter_le _ _) (by omega)
    have HP := Lib.hid (put_any hS2 (x, a) hna ha hlw)
    have HT2 := Lib.hid hT2
    have HS2 := Lib.hid s2
    clear hS2 hT2 s2 hown1 hown2 hgrow2 cM1
    refine HP.out.mono ?_
    rintro e w3 ⟨rfl, F3, hS3, s3⟩
    have HS3 := Lib.hid hS3
    have HST3 := Lib.hid s3
    clear hS3 s3
    go_wp2_with fail
    go_ret
    refine ⟨rfl, F3, _, HS3.out, HT2.out.far HST3.out hm1, fun hf => ?_, ?_⟩
    · rcases HST3.out.grow mb hf with h1 | ⟨h1, _⟩
      · exact hm1 h1
      · have := HT2.out.lt
        omega
    · exact (HST.out.trans (HS2.out.only F1 (fun _ h => h))).trans (HST3.out.with_ mb)
  | false =>
    rw [hh] at hlook
    have g5 : ¬ ((4096 : Int) ≤ (S.length : Int)) := by rcases hfit with h | h; · rw [hh] at h; cases h
                                                        · omega
    go_enter Try.func13, Try.ntmps13
    go_wp2_with fail
    refine HC.out.mono ?_
    rintro e w1 ⟨rfl, F1, D1, hS1, hT1, hm1, s1⟩
    have cM1 : w1.cell? ⟨g, 449, none⟩ = some (.map (some mb)) := by obtain ⟨v1, L1, hM1, _⟩ := hS1; exact hM1.cellM
    have hown1 := hT1.own
    have hl1 : Maps.size D1 < maxLen := by
      have e1 := hT1.len
      have e2 : (without S (x : Int)).length ≤ S.length := List.length_filter_le _ _
      unfold maxLen
      omega
    have HS1 := Lib.hid hS1
    have HT1 := Lib.hid hT1
    have HST := Lib.hid s1
    clear hS1 hT1 s1 c0 cM hlook hlb
    go_wp2_with (at_mapUpdate; refine wpList_mapUpdate_own _ rfl _ _ _ 52 rfl 3 3 law Try.underlying52 _ mb _ D1 rfl hown1 hl1 _ _ _ rfl rfl (keyI (by omega) (by omega)) _ [] (plainElem_int Try.underlying3 (wf64 (by omega) (by omega))) ?_; intro w2 hown2 hgrow2)
    have s2 : Step w1 w2 (fun k => k = mb) (fun k => k = mb) := Step.of_grown hgrow2 (fun k e => by injection e with e; exact e.symm)
    have hS2 := HS1.out.far s2 (fun k hk e => hm1 (e ▸ hk))
    have hT2 := HT1.out.put (t := (x, a)) hown2 (fun u hu e => (mem_without.1 hu).2 (by rw [e]))
    have hlw : (without S (x : Int)).length ≤ 65536 := Nat.le_trans (List.length_filter_le _ _) (by omega)
    have HP := Lib.hid (put_any hS2 (x, a) hna ha hlw)
    have HT2 := Lib.hid hT2
    have HS2 := Lib.hid s2
    clear hS2 hT2 s2 hown1 hown2 hgrow2 cM1
    refine HP.out.mono ?_
    rintro e w3 ⟨rfl, F3, hS3, s3⟩
    have HS3 := Lib.hid hS3
    have HST3 := Lib.hid s3
    clear hS3 s3
    go_wp2_with fail
    go_ret
    refine ⟨rfl, F3, _, HS3.out, HT2.out.far HST3.out hm1, fun hf => ?_, ?_⟩
    · rcases HST3.out.grow mb hf with h1 | ⟨h1, _⟩
      · exact hm1 h1
      · have := HT2.out.lt
        omega
    · exact (HST.out.trans (HS2.out.only F1 (fun _ h => h))).trans (HST3.out.with_ mb)

theorem Wh.make {w w' : World} {g mb now' : Nat} {S' : List Tm} {F F0 F' : Nat → Prop} {D' : DataW Unit} (hF0 : ∀ k, F0 k → F k) (hmF : F mb) (hFl : ∀ k, F k → k < w.heap.size) (s : Step w w' (plus F0 mb) (plus F' mb)) (hS : Slots w' g now' mb S' F') (hT : Times w' mb S' D') (hm : ¬ F' mb)
    (h1 : (S'.map Prod.fst).Nodup) (h2 : ∀ t ∈ S', t.1 ≤ 1099511627776) (h3 : S'.length ≤ 4096) : ∃ G, Wh w' g now' S' G ∧ Step w w' F G := by
  have hlow : ∀ k, plus F' mb k → k < w'.heap.size := fun k hk => by
    rcases hk with hk | rfl
    · obtain ⟨v, L, hM, _⟩ := hS
      exact hM.low k hk
    · exact hT.lt
  refine ⟨fun k => F k ∨ plus F' mb k, ⟨mb, F', D', hS, hT, hm, fun k hk => .inr (.inl hk), .inl hmF, fun k hk => ?_, h1, h2, h3⟩, ?_⟩
  · rcases hk with hk | hk
    · exact Nat.lt_of_lt_of_le (hFl k hk) s.size
    · exact hlow k hk
  · have hsub : ∀ k, plus F0 mb k → F k := fun k hk => hk.elim (hF0 k) (fun e => e ▸ hmF)
    exact ⟨s.os, s.tape, s.output, s.size, fun k hk hn => s.block k hk (fun hf => hn (hsub k hf)), fun k hk => hk.elim .inl (fun hf => (s.grow k hf).imp (hsub k) id)⟩

theorem nodup_cons_without {S : List Tm} (hnd : (S.map Prod.fst).Nodup) (x a : Nat) : ((((x, a) :: without S (x : Int)) : List Tm).map Prod.fst).Nodup := by
  simp only [List.map_cons, List.nodup_cons, List.mem_map, not_exists, not_and]
  exact ⟨fun t ht e => (mem_without.1 ht).2 (by rw [e]), without_nodup hnd _⟩
theorem len_without_le (S : List Tm) (x : Int) : (without S x).length ≤ S.length := List.length_filter_le _ _

/-- **Cancel** -/
theorem cancel_any (w : World) (g now : Nat) (x : Int) (S : List Tm) (F : Nat → Prop) (h : Wh w g now S F) (h1 : -9223372036854775808 ≤ x) (h2 : x ≤ 9223372036854775807) :
    Calls Try.prog 16 #[.pointer (some ⟨g, 0, none⟩), .int .i64 x] w fun e w' => e = .returned (.bool (hasId S x)) ∧ ∃ F', Wh w' g now (without S x) F' ∧ Step w w' F F' := by
  obtain ⟨mb, F0, D, hS, hT, hm, hF0, hmF, hFl, hnd, hid, hlen⟩ := h
  refine (cancel_parts w g now mb x S F0 D hS hT hm hnd hlen hid h1 h2).mono ?_
  rintro e w' ⟨rfl, F', D', hS', hT', hm', s⟩
  exact ⟨rfl, Wh.make hF0 hmF hFl s hS' hT' hm' (without_nodup hnd x) (fun t ht => hid t (mem_without.1 ht).1) (Nat.le_trans (len_without_le S x) hlen)⟩

/-- what is set behind Set -/
def setS (now : Nat) (S : List Tm) (x a : Int) : List Tm := if setE now S x a = 0 then (x.toNat, a.toNat) :: without S x else S

theorem set_no (w : World) (g now : Nat) (x a : Int) (S : List Tm) (F : Nat → Prop) (h : Wh w g now S F) (h1 : -9223372036854775808 ≤ x) (h2 : x ≤ 9223372036854775807) (hE : setE now S x a ≠ 0) :
    Calls Try.prog 13 #[.pointer (some ⟨g, 0, none⟩), .int .i64 x, .int .i64 a] w fun e w' => e = .returned (.int .i64 (setE now S x a)) ∧ w = w' := by
  obtain ⟨mb, F0, D, hS, hT, hm, hF0, hmF, hFl, hnd, hid, hlen⟩ := h
  obtain ⟨v, L, hM, _⟩ := hS
  have c0 := hM.cell0
  have cM := hM.cellM
  obtain ⟨c, hlook, _, _⟩ := hT.look (x := x) h1 h2
  have he : Maps.has D (.int .i64 x) = hasId S x := by
    rw [Bool.eq_iff_iff, hT.has]
    simp [hasId]
  rw [he] at hlook
  have hl := hT.len
  have hlb := fun ty => hT.own.len Try.underlying52 ty
  rw [hl] at hlb
  clear he hM hT
  by_cases q1 : x < 0
  · have e : setE now S x a = 21 := by unfold setE; rw [if_pos (.inl q1)]
    rw [e]
    clear e hE
    go_enter Try.func13, Try.ntmps13
    go_wp2_with fail
    go_ret
    exact ⟨rfl, rfl⟩
  · by_cases q2 : 1099511627776 < x
    · have e : setE now S x a = 21 := by unfold setE; rw [if_pos (.inr q2)]
      rw [e]
      clear e hE
      go_enter Try.func13, Try.ntmps13
      go_wp2_with fail
      go_ret
      exact ⟨rfl, rfl⟩
    · have q12 : ¬ (x < 0 ∨ 1099511627776 < x) := by omega
      by_cases q3 : a < (now : Int)
      · have e : setE now S x a = 20 := by unfold setE; rw [if_neg q12, if_pos (.inl q3)]
        rw [e]
        clear e hE q12
        go_enter Try.func13, Try.ntmps13
        go_wp2_with fail
        go_ret
        exact ⟨rfl, rfl⟩
      · by_cases q4 : 1099511627776 < a
        · have e : setE now S x a = 20 := by unfold setE; rw [if_neg q12, if_pos (.inr q4)]
          rw [e]
          clear e hE q12
          go_enter Try.func13, Try.ntmps13
          go_wp2_with fail
          go_ret
          exact ⟨rfl, rfl⟩
        · have q34 : ¬ (a < (now : Int) ∨ 1099511627776 < a) := by omega
          have q5 : hasId S x = false ∧ 4096 ≤ S.length := by
            unfold setE at hE
            rw [if_neg q12, if_neg q34] at hE
            by_cases q : hasId S x = false ∧ 4096 ≤ S.length
            · exact q
            · rw [if_neg q] at hE; exact absurd rfl hE
          have e : setE now S x a = 22 := by unfold setE; rw [if_neg q12, if_neg q34, if_pos q5]
          have q6 : (4096 : Int) ≤ (S.length : Int) := by omega
          rw [q5.1] at hlook
          rw [e]
          clear e hE q12 q34 q5
          go_enter Try.func13, Try.ntmps13
          go_wp2_with fail
          go_ret
          exact ⟨rfl, rfl⟩

/-- **Set** -/
theorem set_any (w : World) (g now : Nat) (x a : Int) (S : List Tm) (F : Nat → Prop) (h : Wh w g now S F) (h1 : -9223372036854775808 ≤ x) (h2 : x ≤ 9223372036854775807) :
    Calls Try.prog 13 #[.pointer (some ⟨g, 0, none⟩), .int .i64 x, .int .i64 a] w fun e w' => e = .returned (.int .i64 (setE now S x a)) ∧ ∃ F', Wh w' g now (setS now S x a) F' ∧ Step w w' F F' := by
  by_cases hE : setE now S x a = 0
  · have hS' : setS now S x a = (x.toNat, a.toNat) :: without S x := by unfold setS; rw [if_pos hE]
    rw [hE, hS']
    have q12 : ¬ (x < 0 ∨ 1099511627776 < x) := fun q => by unfold setE at hE; rw [if_pos q] at hE; omega
    have q34 : ¬ (a < (now : Int) ∨ 1099511627776 < a) := fun q => by unfold setE at hE; rw [if_neg q12, if_pos q] at hE; omega
    have q5 : ¬ (hasId S x = false ∧ 4096 ≤ S.length) := fun q => by unfold setE at hE; rw [if_neg q12, if_neg q34, if_pos q] at hE; omega
    obtain ⟨xn, rfl⟩ : ∃ xn : Nat, x = xn := ⟨x.toNat, by omega⟩
    obtain ⟨an, rfl⟩ : ∃ an : Nat, a = an := ⟨a.toNat, by omega⟩
    have hfit : hasId S (xn : Int) = true ∨ S.length < 4096 := by
      cases hh : hasId S (xn : Int) with
      | true => exact .inl rfl
      | false => exact .inr (by rw [hh] at q5; simp at q5; exact q5)
    obtain ⟨mb, F0, D, hS, hT, hm, hF0, hmF, hFl, hnd, hid, hlen⟩ := h
    refine (set_ok w g now mb xn an S F0 D hS hT hm hnd hlen hid (by omega) (by omega) (by omega) hfit).mono ?_
    rintro e w' ⟨rfl, F', D', hS', hT', hm', s⟩
    refine ⟨rfl, Wh.make hF0 hmF hFl s hS' hT' hm' (nodup_cons_without hnd xn an) (fun t ht => ?_) ?_⟩
    · simp only [Int.toNat_natCast, List.mem_cons] at ht
      rcases ht with rfl | ht
      · show xn ≤ _; omega
      · exact hid t (mem_without.1 ht).1
    · simp only [List.length_cons]
      rcases hfit with hf | hf
      · obtain ⟨t, ht, he⟩ : ∃ t ∈ S, (t.1 : Int) = xn := by simpa [hasId] using hf
        have := without_len hnd ht
        rw [he] at this
        omega
      · have := len_without_le S (xn : Int)
        omega
  · have hS' : setS now S x a = S := by unfold setS; rw [if_neg hE]
    rw [hS']
    refine (set_no w g now x a S F h h1 h2 hE).mono ?_
    rintro e w' ⟨rfl, rfl⟩
    exact ⟨rfl, F, h, Step.refl _ _⟩
end Go.Proofs.Ytcobjejaflikjaa.WSet
