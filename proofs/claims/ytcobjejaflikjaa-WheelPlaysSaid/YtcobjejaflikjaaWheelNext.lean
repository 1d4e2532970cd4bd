/- Layer 2: New and Next. -/
import Derived.Test.YtcobjejaflikjaaWheelSet
import Derived.Test.YtcobjejaflikjaaWheelMin
import Derived.Laws.ResultCell
namespace Go.Proofs.Ytcobjejaflikjaa.WNext
open Go.RowKit Go.Maps WMath WPure Mem Step WObj WOrd WMm WLib WDel WOps WSet WMin

/-- **New** -/
theorem new_wh (w : World) :
    Calls Try.prog 11 #[] w fun e w' => ∃ g F, e = .returned (.pointer (some ⟨g, 0, none⟩)) ∧ Wh w' g 0 [] F ∧ Step w w' (fun _ => False) F := by
  refine (WNew.new_any w).mono ?_
  rintro e w' ⟨rfl, cs, h1, h2, h3, h4, rfl⟩
  have s1 := Step.alloc w (.map #[] 0) (fun _ => False)
  have hT := Times.new w
  have s2 := Step.alloc (w.alloc (.map #[] 0)) (.cells cs 56) (fun _ => False)
  have hH := Has.new (w.alloc (.map #[] 0)) 56 cs
  have e1 : (w.alloc (.map #[] 0)).heap.size = w.heap.size + 1 := by simp
  rw [e1] at hH
  have hsz : ((w.alloc (.map #[] 0)).alloc (.cells cs 56)).heap.size = w.heap.size + 1 + 1 := by simp
  refine ⟨w.heap.size + 1, fun k => k = w.heap.size + 1 ∨ k = w.heap.size, rfl, ⟨w.heap.size, fun k => k = w.heap.size + 1, _, ⟨fun _ => .slice none 0 0, fun _ => [], ⟨⟨cs, hH, h1, h2, h4, h3⟩, fun q _ => World.ownsRow_nil _ 0 _ 2, fun q _ b hb => ?_, fun q _ => ?_, fun q q' _ _ _ b hb => ?_, rfl, fun k hk => ?_⟩, by omega, fun q _ => by simp, fun t ht => by cases ht⟩, hT.far s2 (fun h => h), by omega, fun k hk => .inl hk, .inr rfl, fun k hk => ?_, by simp, ⟨fun t ht => by simp at ht, by simp⟩⟩, ?_⟩
  · simp [Value.ownBlock] at hb
  · simp [Value.ownBlock]
  · simp [Value.ownBlock] at hb
  · rw [hk, hsz]; omega
  · rw [hsz]; rcases hk with h | h <;> rw [h] <;> omega
  · refine (s1.trans s2).regrow (fun k hk => .inr ?_)
    rw [hsz]
    rcases hk with h | h <;> rw [h] <;> omega

theorem slot_empty {w : World} {g now mb : Nat} {v : Nat → Value} {L : Nat → List Tm} {F : Nat → Prop} (hM : Mm w g now mb v L F) {q : Nat} (hq : q < 448) : ∃ p n cap, v q = .slice p n cap ∧ (L q).length = n ∧ (0 < n → ∃ b, p = some ⟨b, 0, none⟩ ∧ (v q).ownBlock = some b) := by
  rcases (hM.rows q hq).2 with ⟨h, hn⟩ | ⟨b, cap, _, h, _⟩
  · exact ⟨none, 0, 0, h, hn, fun h0 => by omega⟩
  · exact ⟨_, _, cap, h, rfl, fun _ => ⟨b, rfl, by rw [h]; rfl⟩⟩

/-- no timer lies ahead of now's slot on a level -/
theorem early_empty {now k j : Nat} {S : List Tm} {L : Nat → List Tm} (hn : now ≤ 1099511627776) (hP : ∀ q, q < 448 → (L q).Perm (S.filter fun t => slot now t.2 == q)) (hB : ∀ t ∈ S, now ≤ t.2 ∧ t.2 ≤ 1099511627776)
    (hk : k < 7) (hj : j < dig now k) : L (64 * k + j) = [] := by
  have hd := dig_lt now k
  have hp := hP (64 * k + j) (by omega)
  have : S.filter (fun t => slot now t.2 == 64 * k + j) = [] := by
    rw [List.filter_eq_nil_iff]
    intro t ht he
    have he : slot now t.2 = 64 * k + j := by simpa using he
    obtain ⟨h1, h2⟩ := hB t ht
    have h3 := dig_ge h1 hn h2
    have e1 := slot_div now t.2
    have e2 := slot_mod now t.2
    rw [he] at e1 e2
    have e3 : lev now t.2 = k := by omega
    rw [e3] at e2 h3
    omega
  rw [this] at hp
  exact hp.eq_nil
/-- the first of the first slot that holds any is the first of all -/
theorem first_of_slot {now q : Nat} {S : List Tm} {L : Nat → List Tm} {m : Tm} (hn : now ≤ 1099511627776) (hP : ∀ q, q < 448 → (L q).Perm (S.filter fun t => slot now t.2 == q)) (hB : ∀ t ∈ S, now ≤ t.2 ∧ t.2 ≤ 1099511627776)
    (hq : q < 448) (hE : ∀ i, i < q → L i = []) (hm : FirstOf m (L q)) : FirstOf m S := by
  have hm1 := ((hP q hq).mem_iff).1 hm.1
  rw [List.mem_filter] at hm1
  refine ⟨hm1.1, fun x hx => ?_⟩
  have hxs := slot_lt hn (hB x hx).2
  have hxm : x ∈ L (slot now x.2) := ((hP _ hxs).mem_iff).2 (by simp [hx])
  rcases Nat.lt_trichotomy (slot now x.2) q with h | h | h
  · rw [hE _ h] at hxm; cases hxm
  · rw [h] at hxm; exact hm.2 x hxm
  · have hms : slot now m.2 = q := by simpa using hm1.2
    have := lt_of_slot (hB m hm1.1).1 (hB x hx).1 hn (hB m hm1.1).2 (hB x hx).2 (by rw [hms]; exact h)
    unfold ltT
    omega
theorem none_set {now : Nat} {S : List Tm} {L : Nat → List Tm} (hn : now ≤ 1099511627776) (hP : ∀ q, q < 448 → (L q).Perm (S.filter fun t => slot now t.2 == q)) (hB : ∀ t ∈ S, now ≤ t.2 ∧ t.2 ≤ 1099511627776)
    (hE : ∀ i, i < 448 → L i = []) : S = [] := by
  cases S with
  | nil => rfl
  | cons x S =>
    have hx : x ∈ x :: S := by simp
    have hxs := slot_lt hn (hB x hx).2
    have hxm : x ∈ L (slot now x.2) := ((hP _ hxs).mem_iff).2 (by simp)
    rw [hE _ hxs] at hxm
    cases hxm

theorem load_T {w : World} {rb : Nat} {a b : Int} (H : Has w rb 42 #[.int .i64 a, .int .i64 b]) : (loadVar 42 ⟨rb, 0, none⟩).run Try.prog w = .ok (.agg #[.int .i64 a, .int .i64 b]) w :=
  run_loadVar_row w rb 42 42 _ _ _ H.at_ Try.underlying42 rfl (by kernel_rfl)

set_option maxHeartbeats 3200000 in
set_option maxRecDepth 100000 in
theorem next_any (w : World) (g now : Nat) (S : List Tm) (F : Nat → Prop) (h : Wh w g now S F) :
    Calls Try.prog 17 #[.pointer (some ⟨g, 0, none⟩)] w fun e w' =>
      ((∃ m : Tm, FirstOf m S ∧ e = .returned (.tuple #[.agg #[.int .i64 m.1, .int .i64 m.2], .bool true])) ∨ (S = [] ∧ e = .returned (.tuple #[.agg #[.int .i64 0, .int .i64 0], .bool false]))) ∧ Below w.heap.size w w' := by
  obtain ⟨mb, F0, D, ⟨v, L, hM0, hn, hP, hB⟩, _, _, _, _, _, hnd, hid, hlen⟩ := h
  have s1 := Step.alloc w (.cells #[.int .i64 0, .int .i64 0] 42) (fun _ => False)
  have hM := hM0.far s1 (fun _ _ h => h)
  have hR := Has.new w 42 #[.int .i64 0, .int .i64 0]
  have HBL := Lib.hid ((Below.refl w.heap.size w).alloc (Nat.le_refl _) (.cells #[.int .i64 0, .int .i64 0] 42))
  have HP := Lib.hid hP
  have HB := Lib.hid hB
  clear hP hB hM0 s1
  go_enter Try.func17, Try.ntmps17
  go_wp2_with fail
  generalize w.alloc (.cells #[.int .i64 0, .int .i64 0] 42) = W at hM hR HBL ⊢
  obtain ⟨rb, hrbe⟩ : ∃ rb, rb = w.heap.size := ⟨_, rfl⟩
  rw [← hrbe] at hR ⊢
  have HRB := Lib.hid hrbe
  clear hrbe
  have c0 := hM.cell0
  have r0 := (hR.cell 0).trans (show _ = some (Value.int .i64 0) from rfl)
  have r1 := (hR.cell 1).trans (show _ = some (Value.int .i64 0) from rfl)
  have g0 := hR.free 0
  have g1 := hR.free 1
  have HM := Lib.hid hM
  have HR := Lib.hid hR
  clear hM hR
  go_loop [7] (fun i => ∃ k : Nat, k ≤ 7 ∧ i = .int .i64 k ∧ Hid (∀ q, q < 64 * k → L q = [])) (fun i => 7 - (intOf i).toNat)
  case atStart => exact ⟨0, by omega, rfl, Lib.hid (fun q hq => by omega)⟩
  case round =>
    obtain ⟨k, hk, rfl, HE⟩ := hrel
    by_cases hlt : k < 7
    · have hki : (k : Int) < 7 := by omega
      go_wp2_with fail
      refine (digit_any now k (by omega) W).mono ?_
      rintro e w' ⟨rfl, rfl⟩
      go_wp2_with fail
      have hdk := dig_lt now k
      go_loop [5] (fun i => ∃ j : Nat, dig now k ≤ j ∧ j ≤ 64 ∧ i = .int .i64 j ∧ Hid (∀ q, q < 64 * k + j → L q = [])) (fun i => 64 - (intOf i).toNat)
      case atStart =>
        refine ⟨dig now k, Nat.le_refl _, by omega, rfl, Lib.hid (fun q hq => ?_)⟩
        by_cases h : q < 64 * k
        · exact HE.out q h
        · have e : q = 64 * k + (q - 64 * k) := by omega
          rw [e]
          exact early_empty hn HP.out HB.out hlt (by omega)
      case round =>
        obtain ⟨j, hj1, hj2, rfl, HJ⟩ := hrel
        by_cases hjl : j < 64
        · have hji : (j : Int) < 64 := by omega
          have hq4 : 64 * k + j < 448 := by omega
          obtain ⟨p, n, cap, hv, hln, hp⟩ := slot_empty HM.out hq4
          have cS := HM.out.cellS hq4
          rw [hv, show 1 + (64 * k + j) = 1 + k * 64 + j by omega] at cS
          have HV := Lib.hid hv
          clear hv
          by_cases hn0 : 0 < n
          · obtain ⟨b, rfl, hvb⟩ := hp hn0
            have hni : (0 : Int) < (n : Int) := by omega
            have hR1 := HM.out.rows _ hq4
            have hA := row_at hR1 hvb
            have hbl := row_lt hR1 hvb
            have hll : n ≤ 4096 := by
              have := (HP.out _ hq4).length_eq
              have := List.length_filter_le (fun t : Tm => slot now t.2 == 64 * k + j) S
              omega
            have HMI := Lib.hid (min_any b cap n (L (64 * k + j)) W hA hln hn0 (by omega) hbl)
            clear hR1 hA hvb hp
            go_wp2_with fail
            refine HMI.out.mono ?_
            rintro e w' ⟨m, hF, rfl, hb'⟩
            have hrl := HR.out.lt
            have r0' := (hb'.cell (p := ⟨rb, 0, none⟩) hrl).trans r0
            have r1' := (hb'.cell (p := ⟨rb, 1, none⟩) hrl).trans r1
            have g0' := (hb'.frozen (p := ⟨rb, 0, none⟩) hrl).trans g0
            have g1' := (hb'.frozen (p := ⟨rb, 1, none⟩) hrl).trans g1
            have HH := HR.out.below hb' hrl
            have HW := Lib.hid hb'
            have HFF := Lib.hid hF
            have HHH := Lib.hid HH
            clear hb' hF HH
            go_wp2_with fail
            have HEND := Lib.hid (show Has ((w'.setCell ⟨rb, 0, none⟩ (.int .i64 m.1)).setCell ⟨rb, 1, none⟩ (.int .i64 m.2)) rb 42 #[.int .i64 m.1, .int .i64 m.2] from by simpa using (HHH.out.set_ 0 (.int .i64 m.1)).set_ 1 (.int .i64 m.2))
            have hld := load_T HEND.out
            have HBE := Lib.hid ((((HBL.out.trans (HW.out.mono HBL.out.size))).setCell (p := ⟨rb, 0, none⟩) (by rw [HRB.out]; exact Nat.le_refl _) (.int .i64 m.1)).setCell (p := ⟨rb, 1, none⟩) (by rw [HRB.out]; exact Nat.le_refl _) (.int .i64 m.2))
            (try simp only [Exit.inBlock, Exit.then])
            refine bodyPost_ret (v := .tuple #[.agg #[.int .i64 m.1, .int .i64 m.2], .bool true]) ?_ rfl ⟨.inl ⟨m, first_of_slot hn HP.out HB.out hq4 HJ.out HFF.out, rfl⟩, HBE.out⟩
            rw [results_cell_tmp rfl]
            simp [asAddr, Result.andThen, hld]
          · have hn00 : n = 0 := by omega
            subst hn00
            have hz : L (64 * k + j) = [] := List.eq_nil_of_length_eq_zero hln
            go_wp2_with fail
            go_round
            case rel => exact ⟨j + 1, by omega, by omega, by go_num, Lib.hid (fun q hq => by
              by_cases e : q = 64 * k + j
              · rw [e]; exact hz
              · exact HJ.out q (by omega))⟩
            case measure => simp [intOf]; omega
        · have hj64 : j = 64 := by omega
          subst hj64
          go_wp2_with fail
          go_round
          case rel => exact ⟨k + 1, by omega, by go_num, Lib.hid (fun q hq => HJ.out q (by omega))⟩
          case measure => simp [intOf]; omega
    · have hk7 : k = 7 := by omega
      subst hk7
      have hS := Lib.hid (none_set hn HP.out HB.out (fun i hi => HE.out i (by omega)))
      have HEND := Lib.hid (show Has ((W.setCell ⟨rb, 0, none⟩ (.int .i64 0)).setCell ⟨rb, 1, none⟩ (.int .i64 0)) rb 42 #[.int .i64 0, .int .i64 0] from by simpa using (HR.out.set_ 0 (.int .i64 0)).set_ 1 (.int .i64 0))
      have HBE := Lib.hid (((HBL.out).setCell (p := ⟨rb, 0, none⟩) (by rw [HRB.out]; exact Nat.le_refl _) (.int .i64 0)).setCell (p := ⟨rb, 1, none⟩) (by rw [HRB.out]; exact Nat.le_refl _) (.int .i64 0))
      go_wp2_with fail
      have hld := load_T HEND.out
      refine bodyPost_ret (v := .tuple #[.agg #[.int .i64 0, .int .i64 0], .bool false]) ?_ rfl ⟨.inr ⟨hS.out, rfl⟩, HBE.out⟩
      rw [results_cell_tmp rfl]
      simp [asAddr, Result.andThen, hld]
end Go.Proofs.Ytcobjejaflikjaa.WNext
