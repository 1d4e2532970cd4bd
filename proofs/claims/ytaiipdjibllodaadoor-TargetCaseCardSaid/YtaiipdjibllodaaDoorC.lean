/- Texts of this seat, one behind another: TOrigin, TargetLen, RHostPure, RHost, RLower, RDecimal, RAuth. -/
import Derived.Lib.Hide
import Derived.Outline
import Derived.Handy
import Derived.Laws.DeepStrings4
import Derived.LoopTactic
import Derived.Below
import Derived.Maps.AppendAt
import Derived.Test.YtaiipdjibllodaaDoorB1
import Derived.Test.YtaiipdjibllodaaDoorA1
import Derived.Test.YtaiipdjibllodaaDoorA3
import Derived.Test.YtaiipdjibllodaaDoorA2
/- Layer 6 of the program: Origin. -/
namespace Go.Proofs.YtaiipdjibllodaaDoor.TOrigin
open Go.ChangeShapes Go.WideShapes Go.ChangeAt Go.RowKit LexPure Bytes Ret TargetPure TBox Mem
set_option maxRecDepth 20000
theorem joined (p q : List UInt8) : (ofL p ++ ⟨#[63]⟩ : ByteArray) ++ ofL q = ofL (p ++ 63 :: q) := by
  apply toL_inj
  rw [toL_append, toL_append, toL_ofL, toL_ofL, toL_ofL, List.append_assoc]
  rfl
set_option maxHeartbeats 1600000 in
theorem torigin_any (t : Tgt) (hl : t.path.length + t.query.length ≤ 140737488351232) (w : World) :
    Calls Tryd.prog 12 #[.agg #[.int .i64 t.form, .string (ofL t.host), .int .i64 t.port, .string (ofL t.path), .string (ofL t.query), .bool t.has]] w fun e w' => e = .returned (.string (ofL (origin6 t))) ∧ Below w.heap.size w w' := by
  have hl2 : (ofL t.path).size + (⟨#[63]⟩ : ByteArray).size ≤ 9223372036854775807 := by rw [ofL_size]; exact (by omega : t.path.length + 1 ≤ 9223372036854775807)
  have hl3 : (ofL t.path ++ ⟨#[63]⟩).size + (ofL t.query).size ≤ 9223372036854775807 := by rw [ByteArray.size_append, ofL_size, ofL_size]; exact (by omega : t.path.length + 1 + t.query.length ≤ 9223372036854775807)
  have HJ := Lib.hid (joined t.path t.query)
  have hb := Lib.hid ((Below.refl w.heap.size w).alloc (Nat.le_refl _) (.cells (tc t) 24))
  obtain ⟨x, hx⟩ : ∃ x, x = origin6 t := ⟨_, rfl⟩
  rw [← hx]
  replace hx := Lib.hid hx
  obtain ⟨fo, ho, po, pa, qu, ha⟩ := t
  simp only at *
  clear hl
  by_cases h12 : fo = 1 ∨ fo = 2
  · cases ha with
    | true =>
      have hr : Hid (x = pa ++ 63 :: qu) := Lib.hid (by rw [hx.out]; unfold origin6; rw [if_pos h12]; rfl)
      clear hx
      rcases h12 with rfl | rfl
      all_goals
        go_enter Tryd.func12, Tryd.ntmps12
        go_wp2_with fail
        go_ret
        exact ⟨ret_string (by rw [hr.out, HJ.out]), hb.out⟩
    | false =>
      have hr : Hid (x = pa) := Lib.hid (by rw [hx.out]; unfold origin6; rw [if_pos h12]; rfl)
      clear hx
      rcases h12 with rfl | rfl
      all_goals
        go_enter Tryd.func12, Tryd.ntmps12
        go_wp2_with fail
        go_ret
        exact ⟨ret_string (by rw [hr.out]), hb.out⟩
  · by_cases h4 : fo = 4
    · have hr : Hid (x = [42]) := Lib.hid (by rw [hx.out]; unfold origin6; rw [if_neg h12, if_pos h4])
      clear hx h12
      subst h4
      go_enter Tryd.func12, Tryd.ntmps12
      go_wp2_with fail
      go_ret
      exact ⟨ret_string (by rw [hr.out]; rfl), hb.out⟩
    · have hr : Hid (x = []) := Lib.hid (by rw [hx.out]; unfold origin6; rw [if_neg h12, if_neg h4])
      have q1 : (fo == 1) = false := beq_eq_false_iff_ne.2 (fun h => h12 (.inl h))
      have q2 : (fo == 2) = false := beq_eq_false_iff_ne.2 (fun h => h12 (.inr h))
      have q4 : (fo == 4) = false := beq_eq_false_iff_ne.2 h4
      have n1 : (fo != 1) = true := bne_iff_ne.2 (fun h => h12 (.inl h))
      have n2 : (fo != 2) = true := bne_iff_ne.2 (fun h => h12 (.inr h))
      clear hx h12 h4
      go_enter Tryd.func12, Tryd.ntmps12
      go_wp2_with fail
      go_ret
      exact ⟨ret_string (by rw [hr.out]; rfl), hb.out⟩
end Go.Proofs.YtaiipdjibllodaaDoor.TOrigin

/- Layer 6: how long what a target names may be. -/
namespace Go.Proofs.YtaiipdjibllodaaDoor.TargetLen
open LexPure Bytes LexNum CutAt HostPure PathPure PathForm PathLen TargetPure RNormal
theorem esc_le : ∀ (n : Nat) {s t : List UInt8}, s.length ≤ n → esc s = some t → t.length ≤ s.length := fun n _ _ hn h => esc_len n hn h
theorem normal_le {s t : List UInt8} (h : normal s = some t) : t.length ≤ s.length :=
  normal_len (fun u hu => by
    unfold escapes at hu
    cases s with
    | nil => cases hu
    | cons c r =>
      simp only at hu
      split at hu
      · have hl := esc_len _ (Nat.le_refl _) hu
        refine ⟨?_, hl⟩
        rw [esc_cons] at hu
        split at hu
        · split at hu
          · rename_i hc
            rename_i h47 _
            have e1 := beq_iff_eq.1 h47
            have e2 := beq_iff_eq.1 hc
            rw [e1] at e2
            exact absurd e2 (by decide)
          · obtain ⟨v, _, rfl⟩ := Option.map_eq_some_iff.1 hu
            simp
        · cases hu
      · cases hu) h
theorem local_form (t : Tgt) (s : List UInt8) : (local6 t s).1.form = t.form ∨ (local6 t s).1.form = 0 := by
  rcases local_cases t s with e | e | ⟨p, _, _, e⟩ <;> rw [e]
  · exact .inr rfl
  · exact .inr rfl
  · exact .inl rfl
theorem parse_bare (m s : List UInt8) (h : (parse6 m s).1.form = 3 ∨ (parse6 m s).1.form = 4) : (parse6 m s).1.query = [] := by
  unfold parse6 at h ⊢
  split
  · unfold remote6
    split
    · split <;> rfl
    · rfl
  · rename_i hm
    rw [if_neg hm] at h
    split
    · unfold star6
      split <;> rfl
    · rename_i hs
      rw [if_neg hs] at h
      split
      · rename_i hh
        rw [if_pos hh] at h
        have := local_form ⟨1, [], 0, [], [], false⟩ s
        simp only at this
        omega
      · rename_i hh
        rw [if_neg hh] at h
        split
        · rename_i hc
          rw [if_pos hc] at h
          unfold absolute6 at h ⊢
          split
          · rename_i a b ha
            rw [ha] at h
            simp only at h
            have := local_form ⟨2, a, b, [], [], false⟩ (slashed (outA (s.drop 7)))
            simp only at this
            omega
          · rfl
        · rfl
theorem parse_len (m s : List UInt8) (hs : s.length ≤ 70368744175600) : (parse6 m s).1.path.length + (parse6 m s).1.query.length ≤ 140737488351232 := by
  by_cases h : (parse6 m s).2 = 0
  · have key : ∀ r : List UInt8, r.length ≤ s.length + 1 → ∀ p, normal (aheadOf 63 r) = some p → p.length + (behind 63 r).length ≤ 140737488351232 := fun r hr p hp => by
      have h1 := normal_le hp
      have h2 : (aheadOf 63 r).length ≤ r.length := by unfold aheadOf; exact (List.takeWhile_prefix _).length_le
      have h3 : (behind 63 r).length ≤ r.length := by
        unfold behind
        rw [List.length_tail]
        have := (List.dropWhile_suffix (l := r) (fun c => c != 63)).length_le
        omega
      omega
    rcases parse_ok m s h with ⟨hf, hp, _⟩ | ⟨_, r, e1, _, e3, _, e5⟩
    · rw [hp, parse_bare m s hf]
      exact (by decide : 0 + 0 ≤ 140737488351232)
    · rw [e3]
      exact key r e5 _ e1
  · rw [parse_err m s h]
    exact (by decide : 0 + 0 ≤ 140737488351232)
end Go.Proofs.YtaiipdjibllodaaDoor.TargetLen

/- Layer 6: a host of small letters, byte by byte. No program is named. -/
namespace Go.Proofs.YtaiipdjibllodaaDoor.RHostPure
open LexPure Bytes HostPure
def ral (c : UInt8) : Bool := (decide (97 ≤ c.toNat) && decide (c.toNat ≤ 122)) || (decide (48 ≤ c.toNat) && decide (c.toNat ≤ 57))
def rhost (s : List UInt8) : Bool := !s.isEmpty && decide (s.length ≤ 64) && !dotted s && s.all (fun c => ral c || c == 45 || c == 46) && ral (s.headD 0) && ral (s.getLastD 0)
theorem ral_small (b : UInt8) : ral (small b) = alnum (small b) := by
  have := all_bytes (p := fun b => ral (small b) == alnum (small b)) (by decide +kernel) b
  simpa using this
theorem rhost_lower (s : List UInt8) : rhost (lower s) = host (lower s) := by
  unfold rhost host
  have h1 : (lower s).all (fun c => ral c || c == 45 || c == 46) = (lower s).all hostC := by
    unfold lower
    rw [List.all_map, List.all_map]
    congr 1
    funext c
    simp only [Function.comp_apply, hostC, ral_small]
  have h2 : ral ((lower s).headD 0) = alnum ((lower s).headD 0) := by
    cases s with
    | nil => rfl
    | cons c s => exact ral_small c
  have h3 : ral ((lower s).getLastD 0) = alnum ((lower s).getLastD 0) := by
    unfold lower
    rw [List.getLastD_eq_getLast?, List.getLast?_map]
    cases s.getLast? with
    | none => rfl
    | some c => exact ral_small c
  rw [h1, h2, h3]
/-- what is asked of the byte at j -/
def Good (s : List UInt8) (j : Nat) : Prop := ∃ c, s[j]? = some c ∧ (ral c = true ∨ (j ≠ 0 ∧ j + 1 ≠ s.length ∧ (c = 45 ∨ (c = 46 ∧ s[j - 1]? ≠ some 46))))
theorem dotted_at : ∀ (s : List UInt8) (i : Nat), s[i]? = some 46 → s[i + 1]? = some 46 → dotted s = true
  | [], _, h, _ => by simp at h
  | [_], i, _, h => by simp at h
  | a :: b :: s, 0, h1, h2 => by
    simp at h1 h2
    subst h1; subst h2
    rfl
  | a :: b :: s, i + 1, h1, h2 => by
    have := dotted_at (b :: s) i (by simpa using h1) (by simpa using h2)
    rw [dotted, this, Bool.or_true]
theorem dotted_ex : ∀ (s : List UInt8), dotted s = true → ∃ i : Nat, s[i]? = some 46 ∧ s[i + 1]? = some 46
  | [], h => by cases h
  | [_], h => by cases h
  | a :: b :: s, h => by
    rw [dotted, Bool.or_eq_true] at h
    rcases h with h | h
    · rw [Bool.and_eq_true, beq_iff_eq, beq_iff_eq] at h
      obtain ⟨rfl, rfl⟩ := h
      exact ⟨0, rfl, rfl⟩
    · obtain ⟨i, h1, h2⟩ := dotted_ex (b :: s) h
      exact ⟨i + 1, by simpa using h1, by simpa using h2⟩
theorem rhost_iff (s : List UInt8) : rhost s = true ↔ 1 ≤ s.length ∧ s.length ≤ 64 ∧ ∀ j, j < s.length → Good s j := by
  unfold rhost
  constructor
  · intro h
    simp only [Bool.and_eq_true, decide_eq_true_eq] at h
    obtain ⟨⟨⟨⟨⟨h1, h2⟩, h3⟩, h4⟩, h5⟩, h6⟩ := h
    have hne : 1 ≤ s.length := by
      cases s with
      | nil => cases h1
      | cons => simp
    refine ⟨hne, h2, fun j hj => ?_⟩
    have hg : s[j]? = some s[j] := List.getElem?_eq_getElem hj
    refine ⟨s[j], hg, ?_⟩
    by_cases hr : ral s[j] = true
    · exact .inl hr
    · right
      have h7 := List.all_eq_true.1 h4 s[j] (List.getElem_mem hj)
      refine ⟨fun e => hr ?_, fun e => hr ?_, ?_⟩
      · subst e
        rw [List.headD_eq_head?_getD, List.head?_eq_getElem?, hg] at h5
        exact h5
      · rw [List.getLastD_eq_getLast?, List.getLast?_eq_getElem?, show s.length - 1 = j by omega, hg] at h6
        exact h6
      · simp only [Bool.or_eq_true, beq_iff_eq] at h7
        rcases h7 with (h7 | h7) | h7
        · exact absurd h7 hr
        · exact .inl h7
        · refine .inr ⟨h7, fun e => ?_⟩
          cases j with
          | zero =>
            apply hr
            rw [List.headD_eq_head?_getD, List.head?_eq_getElem?, hg] at h5
            exact h5
          | succ i =>
            have := dotted_at s i (by simpa using e) (by rw [hg, h7])
            rw [this] at h3
            cases h3
  · rintro ⟨h1, h2, h3⟩
    have hne : s.isEmpty = false := by
      cases s with
      | nil => simp at h1
      | cons => rfl
    have hd : dotted s = false := by
      cases h : dotted s with
      | false => rfl
      | true =>
        obtain ⟨i, e1, e2⟩ := dotted_ex s h
        have hi := (List.getElem?_eq_some_iff.1 e2).1
        obtain ⟨c, hc, h4⟩ := h3 (i + 1) hi
        rw [e2] at hc
        obtain rfl := Option.some.inj hc
        rcases h4 with h4 | ⟨_, _, h4 | ⟨_, h4⟩⟩
        · exact absurd h4 (by decide)
        · exact absurd h4 (by decide)
        · exact absurd e1 h4
    have ha : s.all (fun c => ral c || c == 45 || c == 46) = true := by
      rw [List.all_eq_true]
      intro c hc
      obtain ⟨j, hj, rfl⟩ := List.mem_iff_getElem.1 hc
      obtain ⟨c, h4, h5⟩ := h3 j hj
      rw [List.getElem?_eq_getElem hj] at h4
      rw [Option.some.inj h4]
      rcases h5 with h5 | ⟨_, _, rfl | ⟨rfl, _⟩⟩
      · rw [h5]; rfl
      · decide
      · decide
    have hh : ral (s.headD 0) = true := by
      obtain ⟨c, h4, h5⟩ := h3 0 (by omega)
      rw [List.headD_eq_head?_getD, List.head?_eq_getElem?, h4]
      rcases h5 with h5 | ⟨h5, _⟩
      · exact h5
      · exact absurd rfl h5
    have hl : ral (s.getLastD 0) = true := by
      obtain ⟨c, h4, h5⟩ := h3 (s.length - 1) (by omega)
      rw [List.getLastD_eq_getLast?, List.getLast?_eq_getElem?, h4]
      rcases h5 with h5 | ⟨_, h5, _⟩
      · exact h5
      · exact absurd (by omega) h5
    rw [hne, hd, ha, hh, hl, decide_eq_true h2]
    rfl
theorem rhost_not {s : List UInt8} {j : Nat} (hj : j < s.length) (h : ¬ Good s j) : rhost s = false := by
  cases hr : rhost s with
  | false => rfl
  | true => exact absurd ((rhost_iff s).1 hr |>.2.2 j hj) h
end Go.Proofs.YtaiipdjibllodaaDoor.RHostPure

/- Layer 6, the document's own alnum, Host. -/
namespace Go.Proofs.YtaiipdjibllodaaDoor.RHost
open Go.ChangeShapes Go.WideShapes Go.ChangeAt Go.RowKit LexPure Bytes Ret HostPure RHostPure
set_option maxRecDepth 20000
theorem ral_cases (b : UInt8) : ral b = decide ((97 ≤ (b.toNat : Int) ∧ (b.toNat : Int) ≤ 122) ∨ (48 ≤ (b.toNat : Int) ∧ (b.toNat : Int) ≤ 57)) := by
  have := all_bytes (p := fun b => ral b == decide ((97 ≤ (b.toNat : Int) ∧ (b.toNat : Int) ≤ 122) ∨ (48 ≤ (b.toNat : Int) ∧ (b.toNat : Int) ≤ 57))) (by decide +kernel) b
  simpa only [beq_iff_eq] using this
theorem ralnum_any (b : UInt8) (w : World) :
    Calls Tryd.prog 41 #[.int .u8 (b.toNat : Int)] w fun e w' => e = .returned (.bool (ral b)) ∧ w = w' := by
  rw [ral_cases]
  generalize (b.toNat : Int) = c
  go_enter Tryd.func41, Tryd.ntmps41
  go_wp2_with fail
  all_goals
    go_ret
    refine ⟨ret_bool ?_, rfl⟩
  all_goals first
    | rfl
    | exact Eq.symm (decide_eq_true (by omega))
    | exact Eq.symm (decide_eq_false (by omega))
    | (rw [Bool.eq_iff_iff]; simp only [Bool.or_eq_true, Bool.and_eq_true, decide_eq_true_eq]; omega)
    | (rw [Bool.eq_iff_iff]; simp only [Bool.or_eq_true, Bool.and_eq_true, decide_eq_true_eq, Bool.false_eq_true, false_iff]; omega)
    | trace_state
theorem mark_cases (b : UInt8) : (b = 45 ∧ ((b.toNat : Int) != 45) = false ∧ ((b.toNat : Int) == 46) = false ∧ ((b.toNat : Int) != 46) = true) ∨ (b = 46 ∧ ((b.toNat : Int) != 45) = true ∧ ((b.toNat : Int) == 46) = true ∧ ((b.toNat : Int) != 46) = false) ∨ (b ≠ 45 ∧ b ≠ 46 ∧ ((b.toNat : Int) != 45) = true ∧ ((b.toNat : Int) == 46) = false ∧ ((b.toNat : Int) != 46) = true) := by
  have := all_bytes (p := fun b => decide ((b = 45 ∧ ((b.toNat : Int) != 45) = false ∧ ((b.toNat : Int) == 46) = false ∧ ((b.toNat : Int) != 46) = true) ∨ (b = 46 ∧ ((b.toNat : Int) != 45) = true ∧ ((b.toNat : Int) == 46) = true ∧ ((b.toNat : Int) != 46) = false) ∨ (b ≠ 45 ∧ b ≠ 46 ∧ ((b.toNat : Int) != 45) = true ∧ ((b.toNat : Int) == 46) = false ∧ ((b.toNat : Int) != 46) = true))) (by decide +kernel) b
  exact of_decide_eq_true this
set_option maxHeartbeats 1600000 in
theorem rhost_any (s : ByteArray) (hs : s.size ≤ 140737488351232) (w : World) :
    Calls Tryd.prog 28 #[.string s] w fun e w' => e = .returned (.bool (rhost (toL s))) ∧ w = w' := by
  by_cases hlen : 1 ≤ s.size ∧ s.size ≤ 64
  rotate_left
  · have hv : rhost (toL s) = false := by
      cases h : rhost (toL s) with
      | false => rfl
      | true =>
        have := (rhost_iff _).1 h
        rw [toL_length] at this
        exact absurd ⟨this.1, this.2.1⟩ hlen
    rw [hv]
    rcases (show (s.size : Int) < 1 ∨ (1 ≤ (s.size : Int) ∧ 64 < (s.size : Int)) by omega) with h | ⟨h, h2⟩
    all_goals
      clear hv hlen
      go_enter Tryd.func28, Tryd.ntmps28
      go_wp2_with fail
      go_ret
      exact ⟨rfl, rfl⟩
  obtain ⟨hl1, hl2⟩ := hlen
  have i1 : ¬ (s.size : Int) < 1 := by omega
  have i2 : ¬ 64 < (s.size : Int) := by omega
  go_enter Tryd.func28, Tryd.ntmps28
  go_wp2_with fail
  go_loop [3] (fun i => ∃ k : Nat, k ≤ s.size ∧ i = .int .i64 k ∧ Hid (∀ j, j < k → RHostPure.Good (toL s) j)) (fun i => s.size - (intOf i).toNat)
  case atStart => exact ⟨0, Nat.zero_le _, rfl, Lib.hid (fun j hj => by omega)⟩
  case round =>
    obtain ⟨k, hk, rfl, ha⟩ := hrel
    by_cases hlt : k < s.size
    · have hki : (k : Int) < (s.size : Int) := by omega
      have HG := Lib.hid (toL_get s k hlt)
      have HC := Lib.hid (fun w => ralnum_any s[k] w)
      have HN : RHostPure.Good (toL s) k → Hid (∀ j, j < k + 1 → RHostPure.Good (toL s) j) := fun hg => Lib.hid (fun j hj => by
        rcases Nat.lt_or_ge j k with h | h
        · exact ha.out j h
        · obtain rfl : j = k := by omega
          exact hg)
      have HF : ¬ RHostPure.Good (toL s) k → Hid (rhost (toL s) = false) := fun hg => Lib.hid (rhost_not (by rw [toL_length]; exact hlt) hg)
      have hpos : (k = 0 ∧ Hid (k = 0) ∧ ((k : Int) == 0) = true) ∨ (Hid (k ≠ 0 ∧ k + 1 = s.size) ∧ ((k : Int) == 0) = false ∧ ∃ eb : Bool, Hid (eb = true) ∧ ((k : Int) == (s.size : Int) - 1) = eb) ∨ (Hid (k ≠ 0 ∧ k + 1 ≠ s.size) ∧ ((k : Int) == 0) = false ∧ ((k : Int) == (s.size : Int) - 1) = false) := by
        by_cases h0 : k = 0
        · exact .inl ⟨h0, Lib.hid h0, by rw [h0]; rfl⟩
        · have e0 : ((k : Int) == 0) = false := beq_eq_false_iff_ne.2 (by omega)
          by_cases h1 : k + 1 = s.size
          · exact .inr (.inl ⟨Lib.hid ⟨h0, h1⟩, e0, true, Lib.hid rfl, by rw [beq_iff_eq]; omega⟩)
          · exact .inr (.inr ⟨Lib.hid ⟨h0, h1⟩, e0, beq_eq_false_iff_ne.2 (by omega)⟩)
      by_cases hr : ral s[k] = true
      · have HA := HN ⟨s[k], HG.out, .inl hr⟩
        rw [hr] at HC
        clear hr HG HN HF ha
        rcases hpos with ⟨rfl, _, e0⟩ | ⟨_, e0, eb, heb, e1⟩ | ⟨_, e0, e1⟩
        · clear e0
          go_wp2_with fail
          refine (HC.out _).mono ?_
          rintro e w' ⟨rfl, rfl⟩
          go_wp2_with fail
          go_round
          case rel => exact ⟨1, by omega, by go_num, HA⟩
          case measure => simp [intOf]; omega
        · go_wp2_with fail
          clear e1
          obtain rfl := heb.out
          refine (HC.out _).mono ?_
          rintro e w' ⟨rfl, rfl⟩
          go_wp2_with fail
          go_round
          case rel => exact ⟨k + 1, by omega, by go_num, HA⟩
          case measure => simp [intOf]; omega
        · go_wp2_with fail
          refine (HC.out _).mono ?_
          rintro e w' ⟨rfl, rfl⟩
          go_wp2_with fail
          go_round
          case rel => exact ⟨k + 1, by omega, by go_num, HA⟩
          case measure => simp [intOf]; omega
      · have hrf : ral s[k] = false := by simpa using hr
        rcases hpos with ⟨rfl, h0, e0⟩ | ⟨h0, e0, eb, heb, e1⟩ | ⟨h0, e0, e1⟩
        · have HV := HF (by
            rintro ⟨c, hc, h | ⟨h, _⟩⟩
            · rw [HG.out] at hc; exact hr (by rw [Option.some.inj hc]; exact h)
            · exact h h0.out)
          rw [hrf] at HC
          clear hr hrf HG HN HF ha h0
          clear e0
          go_wp2_with (refine (HC.out _).mono ?_; rintro e w' ⟨rfl, rfl⟩)
          go_ret
          exact ⟨ret_bool HV.out.symm, rfl⟩
        · have HV := HF (by
            rintro ⟨c, hc, h | ⟨_, h, _⟩⟩
            · rw [HG.out] at hc; exact hr (by rw [Option.some.inj hc]; exact h)
            · exact h (by rw [toL_length]; exact h0.out.2))
          rw [hrf] at HC
          clear hr hrf HG HN HF ha h0
          go_wp2_with fail
          clear e1
          obtain rfl := heb.out
          refine (HC.out _).mono ?_
          rintro e w' ⟨rfl, rfl⟩
          go_wp2_with fail
          go_ret
          exact ⟨ret_bool HV.out.symm, rfl⟩
        · rcases mark_cases s[k] with ⟨m0, m1, m2, m3⟩ | ⟨m0, m1, m2, m3⟩ | ⟨m0, m4, m1, m2, m3⟩
          · have HA := HN ⟨s[k], HG.out, .inr ⟨h0.out.1, by rw [toL_length]; exact h0.out.2, .inl m0⟩⟩
            rw [hrf] at HC
            clear hr hrf HG HN HF ha h0 m0
            go_wp2_with (refine (HC.out _).mono ?_; rintro e w' ⟨rfl, rfl⟩)
            go_round
            case rel => exact ⟨k + 1, by omega, by go_num, HA⟩
            case measure => simp [intOf]; omega
          · obtain ⟨j, rfl⟩ : ∃ j, k = j + 1 := ⟨k - 1, by have := h0.out.1; omega⟩
            have hj : j < s.size := by omega
            have hji : (j : Int) < (s.size : Int) := by omega
            have GJ := Lib.hid (toL_get s j hj)
            have e2 : ((j : Int) + 1 == 0) = false := beq_eq_false_iff_ne.2 (by omega)
            have e3 : ((j : Int) + 1 == (s.size : Int) - 1) = false := beq_eq_false_iff_ne.2 (fun h => h0.out.2 (by omega))
            have e4 : (j : Int) + 1 < (s.size : Int) := by omega
            have e5 : (0 : Int) ≤ (j : Int) + 1 := by omega
            clear e0 e1 hki
            rcases (show ((s[j].toNat : Int) == 46) = true ∧ s[j] = 46 ∨ ((s[j].toNat : Int) == 46) = false ∧ s[j] ≠ 46 by
              rcases mark_cases s[j] with ⟨n0, _, n2, _⟩ | ⟨n0, _, n2, _⟩ | ⟨_, n0, _, n2, _⟩
              · exact .inr ⟨n2, by rw [n0]; decide⟩
              · exact .inl ⟨n2, n0⟩
              · exact .inr ⟨n2, n0⟩) with ⟨n1, n2⟩ | ⟨n1, n2⟩
            · have HV := HF (by
                rintro ⟨c, hc, h | ⟨_, _, h | ⟨_, h⟩⟩⟩
                · rw [HG.out] at hc; exact hr (by rw [Option.some.inj hc]; exact h)
                · rw [HG.out, m0] at hc
                  rw [← Option.some.inj hc] at h
                  exact absurd h (by decide)
                · exact h (by rw [Nat.add_sub_cancel, GJ.out, n2]))
              rw [hrf] at HC
              clear hr hrf HG HN HF ha h0 m0 n2 GJ
              go_wp2_with (refine (HC.out _).mono ?_; rintro e w' ⟨rfl, rfl⟩)
              go_ret
              exact ⟨ret_bool HV.out.symm, rfl⟩
            · have HA := HN ⟨s[j + 1], HG.out, .inr ⟨h0.out.1, by rw [toL_length]; exact h0.out.2, .inr ⟨m0, by rw [Nat.add_sub_cancel, GJ.out]; exact fun e => n2 (Option.some.inj e)⟩⟩⟩
              rw [hrf] at HC
              clear hr hrf HG HN HF ha h0 m0 n2 GJ
              go_wp2_with (refine (HC.out _).mono ?_; rintro e w' ⟨rfl, rfl⟩)
              go_round
              case rel => exact ⟨j + 1 + 1, by omega, by go_num, HA⟩
              case measure => simp [intOf]; omega
          · have HV := HF (by
              rintro ⟨c, hc, h | ⟨_, _, h | ⟨h, _⟩⟩⟩
              · rw [HG.out] at hc; exact hr (by rw [Option.some.inj hc]; exact h)
              · rw [HG.out] at hc; exact m0 (by rw [Option.some.inj hc]; exact h)
              · rw [HG.out] at hc; exact m4 (by rw [Option.some.inj hc]; exact h))
            rw [hrf] at HC
            clear hr hrf HG HN HF ha h0 m0 m4
            go_wp2_with (refine (HC.out _).mono ?_; rintro e w' ⟨rfl, rfl⟩)
            go_ret
            exact ⟨ret_bool HV.out.symm, rfl⟩
    · have HV : Hid (rhost (toL s) = true) := Lib.hid ((rhost_iff _).2 ⟨by rw [toL_length]; omega, by rw [toL_length]; omega, fun j hj => ha.out j (by rw [toL_length] at hj; omega)⟩)
      clear ha
      go_wp2_with fail
      go_ret
      exact ⟨ret_bool HV.out.symm, rfl⟩
end Go.Proofs.YtaiipdjibllodaaDoor.RHost

/- Layer 4, the document's own Lower. -/
namespace Go.Proofs.YtaiipdjibllodaaDoor.RLower
open Go.ChangeShapes Go.WideShapes Go.ChangeAt Go.RowKit LexPure Bytes Ret Rows1
set_option maxRecDepth 20000
theorem infoB : (Tryd.prog.info? 5).map (fun i => (i.zero, i.size, i.bytes)) = some (some (.int .u8 0), 1, 1) := by kernel_rfl
/-- what is gathered so far -/
def LInv (w : World) (s : ByteArray) (k : Nat) (v : Value) (wr : World) : Prop :=
  wr.ownsRow w.heap.size 5 1 v k (bvs (lower ((toL s).take k))) ∧ Below w.heap.size w wr
theorem small_at {b : UInt8} : (65 ≤ (b.toNat : Int) ∧ (b.toNat : Int) ≤ 90 ∧ (small b).toNat = (b.toNat : Int) - 65 + 97) ∨ (((b.toNat : Int) < 65 ∨ (65 ≤ (b.toNat : Int) ∧ 90 < (b.toNat : Int))) ∧ small b = b) := by
  have := all_bytes (p := fun b => decide ((65 ≤ (b.toNat : Int) ∧ (b.toNat : Int) ≤ 90 ∧ ((small b).toNat : Int) = (b.toNat : Int) - 65 + 97) ∨ (((b.toNat : Int) < 65 ∨ (65 ≤ (b.toNat : Int) ∧ 90 < (b.toNat : Int))) ∧ small b = b))) (by decide +kernel) b
  simpa only [decide_eq_true_eq] using this
theorem rlower_any (s : ByteArray) (hs : s.size ≤ 140737488351232) (w : World) :
    Calls Tryd.prog 16 #[.string s] w fun e w' => e = .returned (.string (ofL (lower (toL s)))) ∧ Below w.heap.size w w' := by
  obtain ⟨i0, hi, hz0, hz1, hz2⟩ := info_parts infoB
  go_enter Tryd.func16, Tryd.ntmps16
  go_wp2_with fail
  go_loopw [3, 4] (fun v i wr => ∃ k : Nat, k ≤ s.size ∧ i = .int .i64 k ∧ Hid (LInv w s k v wr)) (fun _ i _ => s.size - (intOf i).toNat)
  case atStart => exact ⟨0, Nat.zero_le _, rfl, Lib.hid ⟨World.ownsRow_nil _ _ _ _, Below.refl _ _⟩⟩
  case round =>
    obtain ⟨k, hk, rfl, HI⟩ := hrel
    obtain ⟨hrow, hbw⟩ := HI.out
    by_cases hlt : k < s.size
    · have hki : (k : Int) < (s.size : Int) := by omega
      have HT : Hid (lower ((toL s).take (k + 1)) = lower ((toL s).take k) ++ [small s[k]]) := Lib.hid (by
        rw [toL_take_succ s k hlt]
        unfold lower
        rw [List.map_append]
        rfl)
      rcases small_at (b := s[k]) with ⟨h1, h2, h3⟩ | ⟨h1, h2⟩
      · have HV : Hid (bv (small s[k]) = .int .u8 ((s[k].toNat : Int) - 65 + 97)) := Lib.hid (by unfold bv; rw [h3])
        go_wp2_with (at_builtin; refine wpList_append_own _ rfl _ _ 48 rfl w.heap.size 5 i0 (.int .u8 0) 1 1 Tryd.underlying48 hi hz0 hz1 hz2 rfl (by decide) _ _ _ rfl (hrow.alloc _) ⟨wr.heap.size, 0, none⟩ 1 1 [.int .u8 ((s[k].toNat : Int) - 65 + 97)] rfl rfl (cell_one_new _ _ _) (fun x hx => by simp at hx; subst hx; rfl) (by unfold maxLen; omega) (by omega) (by have := hbw.size; simp; omega) ?_; intro v' w3 hown' hgrow3 hnil3)
        have HI3 : Hid (LInv w s (k + 1) v' w3) := Lib.hid ⟨by rw [HT.out, bvs_append]; have h := hown'; rw [← HV.out] at h; exact h, Below.grown (hbw.alloc hbw.size _) hgrow3 (by have := hbw.size; simp; omega) (fun j hj => (hrow.lt _ hj).1)⟩
        clear hown' hgrow3 hnil3
        go_wp2_with fail
        go_roundw
        case rel => exact ⟨k + 1, by omega, by go_num, HI3⟩
        case measure => simp [intOf]; omega
      · rcases h1 with h1 | ⟨h1, h3⟩
        all_goals
          have HV : Hid (bv (small s[k]) = .int .u8 (s[k].toNat : Int)) := Lib.hid (by rw [h2]; rfl)
          go_wp2_with (at_builtin; refine wpList_append_own _ rfl _ _ 48 rfl w.heap.size 5 i0 (.int .u8 0) 1 1 Tryd.underlying48 hi hz0 hz1 hz2 rfl (by decide) _ _ _ rfl (hrow.alloc _) ⟨wr.heap.size, 0, none⟩ 1 1 [.int .u8 (s[k].toNat : Int)] rfl rfl (cell_one_new _ _ _) (fun x hx => by simp at hx; subst hx; rfl) (by unfold maxLen; omega) (by omega) (by have := hbw.size; simp; omega) ?_; intro v' w3 hown' hgrow3 hnil3)
          have HI3 : Hid (LInv w s (k + 1) v' w3) := Lib.hid ⟨by rw [HT.out, bvs_append]; have h := hown'; rw [← HV.out] at h; exact h, Below.grown (hbw.alloc hbw.size _) hgrow3 (by have := hbw.size; simp; omega) (fun j hj => (hrow.lt _ hj).1)⟩
          clear hown' hgrow3 hnil3
          go_wp2_with fail
          go_roundw
          case rel => exact ⟨k + 1, by omega, by go_num, HI3⟩
          case measure => simp [intOf]; omega
    · have HC := own_string (P := Tryd.prog) hrow 48 9 Tryd.underlying48 Tryd.underlying5 Tryd.underlying9
      rw [toL_take_all s (by omega)] at HC
      clear hrow HI
      go_wp2_with fail
      go_ret
      exact ⟨rfl, hbw⟩
end Go.Proofs.YtaiipdjibllodaaDoor.RLower

/- Layer 4, the document's own Decimal. -/
namespace Go.Proofs.YtaiipdjibllodaaDoor.RDecimal
open Go.ChangeShapes Go.WideShapes Go.ChangeAt Go.RowKit LexPure Bytes Ret LexNum RNumber
set_option maxRecDepth 20000
theorem rdecimal_any (s : ByteArray) (hs : s.size ≤ maxLen) (digits : Int) (w : World) :
    Calls Tryd.prog 29 #[.string s, .int .i64 digits] w fun e w' => e = .returned (.tuple #[.int .i64 (numR 10 (min digits 18) (toL s)), .bool (numOk 10 (min digits 18) (toL s))]) ∧ w = w' := by
  have HN := Lib.hid (rnumber_any s hs (min digits 18) 10 (.inl ⟨rfl, Int.min_le_right _ _⟩))
  clear hs
  by_cases h : 18 < digits
  · have hm : min digits 18 = 18 := by omega
    rw [hm] at HN ⊢
    go_enter Tryd.func29, Tryd.ntmps29
    go_wp2_with fail
    refine (HN.out _).mono ?_
    rintro e w' ⟨rfl, rfl⟩
    go_wp2_with fail
    go_ret2
    exact ⟨rfl, rfl⟩
  · have hm : min digits 18 = digits := by omega
    rw [hm] at HN ⊢
    go_enter Tryd.func29, Tryd.ntmps29
    go_wp2_with fail
    refine (HN.out _).mono ?_
    rintro e w' ⟨rfl, rfl⟩
    go_wp2_with fail
    go_ret2
    exact ⟨rfl, rfl⟩
end Go.Proofs.YtaiipdjibllodaaDoor.RDecimal

/- Layer 6, the document's own Authority. -/
namespace Go.Proofs.YtaiipdjibllodaaDoor.RAuth
open Go.ChangeShapes Go.WideShapes Go.ChangeAt Go.RowKit LexPure Bytes Ret CutAt LexNum HostPure RHostPure RHost RLower RDecimal Mem
set_option maxRecDepth 20000
theorem end_none {s : ByteArray} {x : UInt8} {k : Nat} (hk : k = s.size) (ha : ((toL s).take k).all (fun c => c != x) = true) : aheadOf x (toL s) = (toL s).take k ∧ behind x (toL s) = [] ∧ hasB x (toL s) = false := by
  rw [toL_take_all s (by omega)] at ha ⊢
  have h' : ∀ a ∈ toL s, (a != x) = true := List.all_eq_true.1 ha
  refine ⟨?_, ?_, ?_⟩
  · have := List.takeWhile_append_of_pos (l₂ := []) h'
    rw [List.append_nil] at this
    unfold aheadOf
    rw [this]
    simp
  · have := List.dropWhile_append_of_pos (l₂ := []) h'
    rw [List.append_nil] at this
    unfold behind
    rw [this]
    rfl
  · unfold hasB
    rw [List.any_eq_false]
    intro a hm
    simpa using h' a hm
theorem end_some {s : ByteArray} {x : UInt8} {k : Nat} (hk : k < s.size) (hx : s[k] = x) (ha : ((toL s).take k).all (fun c => c != x) = true) : aheadOf x (toL s) = (toL s).take k ∧ behind x (toL s) = (toL s).drop (k + 1) ∧ hasB x (toL s) = true := by
  have h' : ∀ a ∈ (toL s).take k, (a != x) = true := List.all_eq_true.1 ha
  have hs : toL s = (toL s).take k ++ x :: (toL s).drop (k + 1) := by
    have := toL_drop s k hk
    rw [hx] at this
    rw [← this, List.take_append_drop]
  generalize (toL s).take k = A at *
  generalize (toL s).drop (k + 1) = B at *
  rw [hs]
  refine ⟨?_, ?_, ?_⟩
  · unfold aheadOf
    rw [List.takeWhile_append_of_pos h', List.takeWhile_cons]
    simp
  · unfold behind
    rw [List.dropWhile_append_of_pos h', List.dropWhile_cons]
    simp
  · unfold hasB
    simp
theorem numR_ge (b : Nat) (d : Int) (s : List UInt8) : 0 ≤ numR b d s := by
  unfold numR
  split
  · omega
  · exact Int.le_refl _
theorem x_cases (x b : UInt8) : (b = x ∧ ((b.toNat : Int) != (x.toNat : Int)) = false) ∨ (b ≠ x ∧ ((b.toNat : Int) != (x.toNat : Int)) = true) := by
  by_cases h : b = x
  · left; subst h; exact ⟨rfl, by simp⟩
  · right
    refine ⟨h, bne_iff_ne.2 (fun e => h (UInt8.toNat_inj.1 (by exact_mod_cast e)))⟩
def oH : Option (List UInt8 × Int) → List UInt8 | some (h, _) => h | none => []
def oP : Option (List UInt8 × Int) → Int | some (_, p) => p | none => 0
def oE : Option (List UInt8 × Int) → Int | some _ => 0 | none => 61
theorem auth_of (s : List UInt8) : authH s = oH (authO s) ∧ authP s = oP (authO s) ∧ authE s = oE (authO s) := by
  unfold authH authP authE oH oP oE
  cases authO s with
  | none => exact ⟨rfl, rfl, rfl⟩
  | some p => exact ⟨rfl, rfl, rfl⟩
set_option maxHeartbeats 1600000 in
theorem rauth_any (s : ByteArray) (hs : s.size ≤ 140737488351232) (w : World) :
    Calls Tryd.prog 15 #[.string s] w fun e w' => e = .returned (.tuple #[.string (ofL (authH (toL s))), .int .i64 (authP (toL s)), .int .i64 (authE (toL s))]) ∧ Below w.heap.size w w' := by
  obtain ⟨v1, v2, v3⟩ := auth_of (toL s)
  rw [v1, v2, v3]
  clear v1 v2 v3
  obtain ⟨x, hx2⟩ : ∃ x, x = authO (toL s) := ⟨_, rfl⟩
  rw [← hx2]
  have HX := Lib.hid hx2
  clear hx2
  go_enter Tryd.func15, Tryd.ntmps15
  go_wp2_with fail
  go_loop [5] (fun i => ∃ k : Nat, k ≤ s.size ∧ i = .int .i64 k ∧ Hid (((toL s).take k).all (fun c => c != 58) = true)) (fun i => s.size - (intOf i).toNat)
  case atStart => exact ⟨0, Nat.zero_le _, rfl, Lib.hid rfl⟩
  case round =>
    obtain ⟨k, hk, rfl, ha⟩ := hrel
    by_cases hlt : k < s.size
    · have hki : (k : Int) < (s.size : Int) := by omega
      have HT := Lib.hid (toL_take_succ s k hlt)
      rcases x_cases 58 s[k] with ⟨hx, hq⟩ | ⟨hx, hq⟩
      · rw [show ((58 : UInt8).toNat : Int) = 58 from rfl] at hq
        obtain ⟨a1, a2, a3⟩ := end_some hlt hx ha.out
        have HL := Lib.hid (fun w => rlower_any (s.extract 0 k) (by rw [ByteArray.size_extract]; omega) w)
        have HH := Lib.hid (fun w => rhost_any (ofL (lower (aheadOf 58 (toL s)))) (by rw [ofL_size, lower_length, a1, List.length_take, toL_length]; omega) w)
        have HD := Lib.hid (fun w => rdecimal_any (s.extract (k + 1) s.size) (by rw [ByteArray.size_extract]; unfold maxLen; omega) 5 w)
        rw [toL_extract, List.drop_zero, ← a1] at HL
        rw [toL_ofL, rhost_lower, host_lower] at HH
        rw [toL_extract, List.take_of_length_le (by rw [toL_length]; exact Nat.le_refl _), ← a2, show min (5 : Int) 18 = 5 from rfl] at HD
        have ne : ((k : Int) == (s.size : Int)) = false := beq_eq_false_iff_ne.2 (by omega)
        have c1 : (k : Int) + 1 ≤ (s.size : Int) := by omega
        have c2 : (0 : Int) ≤ (k : Int) + 1 := by omega
        have c3 : (k : Int) ≤ (s.size : Int) := by omega
        clear HT hx ha a1 a2
        have HY : Hid (x = if host (aheadOf 58 (toL s)) then (if portOk (behind 58 (toL s)) then some (lower (aheadOf 58 (toL s)), numR 10 5 (behind 58 (toL s))) else none) else none) := Lib.hid (by
          rw [HX.out]
          unfold authO
          rw [a3]
          rfl)
        clear a3 HX
        cases hh : host (aheadOf 58 (toL s))
        · have hr : x = none := by rw [HY.out, hh]; rfl
          rw [hh] at HH
          subst hr
          clear HY hh HD
          generalize ofL (lower (aheadOf 58 (toL s))) = L at *
          go_wp2_with fail
          refine (HL.out _).mono ?_
          rintro e w1 ⟨rfl, hb1⟩
          go_wp2_with fail
          refine (HH.out _).mono ?_
          rintro e w2 ⟨rfl, rfl⟩
          go_wp2_with fail
          go_ret3
          exact ⟨rfl, hb1⟩
        · rw [hh] at HH
          cases hp : portOk (behind 58 (toL s))
          · have hr : x = none := by rw [HY.out, hh, hp]; rfl
            subst hr
            have hc : numOk 10 5 (behind 58 (toL s)) = false ∨ (numOk 10 5 (behind 58 (toL s)) = true ∧ numR 10 5 (behind 58 (toL s)) = 0) ∨ (numOk 10 5 (behind 58 (toL s)) = true ∧ (numR 10 5 (behind 58 (toL s)) == 0) = false ∧ 65535 < numR 10 5 (behind 58 (toL s))) := by
              have hge := numR_ge 10 5 (behind 58 (toL s))
              unfold portOk at hp
              cases h : numOk 10 5 (behind 58 (toL s))
              · exact .inl rfl
              · right
                rw [h] at hp
                rcases Int.lt_or_le (numR 10 5 (behind 58 (toL s))) 1 with h2 | h2
                · exact .inl ⟨rfl, by omega⟩
                · rcases Int.lt_or_le 65535 (numR 10 5 (behind 58 (toL s))) with h3 | h3
                  · exact .inr ⟨rfl, beq_eq_false_iff_ne.2 (by omega), h3⟩
                  · rw [decide_eq_true h2, decide_eq_true h3] at hp
                    cases hp
            clear HY hh hp
            rcases hc with h1 | ⟨h1, h2⟩ | ⟨h1, h2, h3⟩
            · rw [h1] at HD
              clear h1
              generalize ofL (lower (aheadOf 58 (toL s))) = L at *
              generalize numR 10 5 (behind 58 (toL s)) = n at *
              go_wp2_with fail
              refine (HL.out _).mono ?_
              rintro e w1 ⟨rfl, hb1⟩
              go_wp2_with fail
              refine (HH.out _).mono ?_
              rintro e w2 ⟨rfl, rfl⟩
              go_wp2_with fail
              refine (HD.out _).mono ?_
              rintro e w3 ⟨rfl, rfl⟩
              go_wp2_with fail
              go_ret3
              exact ⟨rfl, hb1⟩
            · rw [h1, h2] at HD
              clear h1 h2
              generalize ofL (lower (aheadOf 58 (toL s))) = L at *
              go_wp2_with fail
              refine (HL.out _).mono ?_
              rintro e w1 ⟨rfl, hb1⟩
              go_wp2_with fail
              refine (HH.out _).mono ?_
              rintro e w2 ⟨rfl, rfl⟩
              go_wp2_with fail
              refine (HD.out _).mono ?_
              rintro e w3 ⟨rfl, rfl⟩
              go_wp2_with fail
              go_ret3
              exact ⟨rfl, hb1⟩
            · rw [h1] at HD
              clear h1
              generalize ofL (lower (aheadOf 58 (toL s))) = L at *
              generalize numR 10 5 (behind 58 (toL s)) = n at *
              go_wp2_with fail
              refine (HL.out _).mono ?_
              rintro e w1 ⟨rfl, hb1⟩
              go_wp2_with fail
              refine (HH.out _).mono ?_
              rintro e w2 ⟨rfl, rfl⟩
              go_wp2_with fail
              refine (HD.out _).mono ?_
              rintro e w3 ⟨rfl, rfl⟩
              go_wp2_with fail
              go_ret3
              exact ⟨rfl, hb1⟩
          · have hr : x = some (lower (aheadOf 58 (toL s)), numR 10 5 (behind 58 (toL s))) := by rw [HY.out, hh, hp]; rfl
            subst hr
            unfold portOk at hp
            simp only [Bool.and_eq_true, decide_eq_true_eq] at hp
            obtain ⟨⟨p1, p2⟩, p3⟩ := hp
            rw [p1] at HD
            have p4 : (numR 10 5 (behind 58 (toL s)) == 0) = false := beq_eq_false_iff_ne.2 (by omega)
            clear HY hh p1
            go_wp2_with fail
            refine (HL.out _).mono ?_
            rintro e w1 ⟨rfl, hb1⟩
            go_wp2_with fail
            refine (HH.out _).mono ?_
            rintro e w2 ⟨rfl, rfl⟩
            go_wp2_with fail
            refine (HD.out _).mono ?_
            rintro e w3 ⟨rfl, rfl⟩
            go_wp2_with fail
            go_ret3
            exact ⟨rfl, hb1⟩
      · rw [show ((58 : UInt8).toNat : Int) = 58 from rfl] at hq
        have HA : Hid (((toL s).take (k + 1)).all (fun c => c != 58) = true) := Lib.hid (by rw [HT.out, List.all_append, ha.out]; simp [hx])
        clear HT ha hx
        go_wp2_with fail
        go_round
        case rel => exact ⟨k + 1, by omega, by go_num, HA⟩
        case measure => simp [intOf]; omega
    · obtain ⟨a1, a2, a3⟩ := end_none (s := s) (x := 58) (k := k) (by omega) ha.out
      have HL := Lib.hid (fun w => rlower_any (s.extract 0 k) (by rw [ByteArray.size_extract]; omega) w)
      have HH := Lib.hid (fun w => rhost_any (ofL (lower (aheadOf 58 (toL s)))) (by rw [ofL_size, lower_length, a1, List.length_take, toL_length]; omega) w)
      rw [toL_extract, List.drop_zero, ← a1] at HL
      rw [toL_ofL, rhost_lower, host_lower] at HH
      have HKS : Hid (k = s.size) := Lib.hid (by omega)
      obtain ⟨eb, heb, e1⟩ : ∃ eb : Bool, Hid (eb = true) ∧ ((k : Int) == (s.size : Int)) = eb := ⟨true, Lib.hid rfl, by rw [beq_iff_eq]; omega⟩
      have c3 : (k : Int) ≤ (s.size : Int) := by omega
      have c4 : ¬ (k : Int) < (s.size : Int) := by omega
      have HY : Hid (x = if host (aheadOf 58 (toL s)) then some (lower (aheadOf 58 (toL s)), 0) else none) := Lib.hid (by
        rw [HX.out]
        unfold authO
        rw [a3]
        rfl)
      clear a1 a2 a3 ha hlt HKS
      cases hh : host (aheadOf 58 (toL s))
      · have hr : x = none := by rw [HY.out, hh]; rfl
        rw [hh] at HH
        subst hr
        clear HY hh HX
        go_wp2_with fail
        refine (HL.out _).mono ?_
        rintro e w1 ⟨rfl, hb1⟩
        go_wp2_with fail
        refine (HH.out _).mono ?_
        rintro e w2 ⟨rfl, rfl⟩
        go_wp2_with fail
        go_ret3
        exact ⟨rfl, hb1⟩
      · have hr : x = some (lower (aheadOf 58 (toL s)), 0) := by rw [HY.out, hh]; rfl
        rw [hh] at HH
        subst hr
        clear HY hh HX
        go_wp2_with fail
        refine (HL.out _).mono ?_
        rintro e w1 ⟨rfl, hb1⟩
        go_wp2_with fail
        refine (HH.out _).mono ?_
        rintro e w2 ⟨rfl, rfl⟩
        obtain rfl := heb.out
        go_wp2_with fail
        go_ret3
        exact ⟨rfl, hb1⟩
end Go.Proofs.YtaiipdjibllodaaDoor.RAuth
