/- A normal form is its own normal form, has no empty piece, no dots as a piece, and no escape of a plain byte in it: PathFixed returns true, for what comes in of bulk at most 1048576. -/
import Derived.Test.YtlhpjinajaociaaDoorPathAnchor
import Derived.Test.YtlhpjinajaociaaDoorPathMore
import Derived.Test.YtlhpjinajaociaaDoorPathLen
import Derived.Laws.DeepStrings4
namespace Go.Proofs.YtlhpjinajaociaaDoor.PathFixedW
open Go.ChangeShapes Go.WideShapes Go.ChangeAt Go.RowKit LexPure Bytes PathPure PathForm PathMore PathLen RPlain REscapes RNormal PathObj PUnder PathAnchor Mem
set_option linter.unusedVariables false
/-- behind k bytes, the last slash ahead of f -/
structure LI (p : ByteArray) (k f : Nat) : Prop where
  le : f ≤ k
  in_ : k ≤ p.size → f ≤ p.size
  out_ : p.size < k → p.size < f
  no : noSlash (((toL p).drop f).take (k - f)) = true
  pre : ∃ D, cuts (toL p).tail = D ++ RNormal.rest p f
theorem LI.step {p : ByteArray} {k f : Nat} (I : LI p k f) (hk : k ≤ p.size) (hcut : k = p.size ∨ (∃ h : k < p.size, p[k] = 47)) : RNormal.rest p f = ((toL p).drop f).take (k - f) :: RNormal.rest p (k + 1) := by
  rcases hcut with h | ⟨h, hc⟩
  · subst h
    rw [rest_end (I.in_ hk) I.no, rest_none (by omega)]
  · exact rest_cut I.le h I.no hc
theorem LI.next {p : ByteArray} {k f : Nat} (I : LI p k f) (hk : k ≤ p.size) (hcut : k = p.size ∨ (∃ h : k < p.size, p[k] = 47)) : LI p (k + 1) (k + 1) := by
  obtain ⟨D, hD⟩ := I.pre
  exact ⟨Nat.le_refl _, fun h => h, fun h => h, by rw [Nat.sub_self]; rfl, ⟨D ++ [((toL p).drop f).take (k - f)], by rw [hD, I.step hk hcut, List.append_assoc]; rfl⟩⟩
/-- a piece of a form: no dots, and empty only as the last -/
theorem piece_ok {kept D R : List (List UInt8)} {X : List UInt8} {tr : Bool} (hc : ∀ p ∈ kept, CleanP p) (h : D ++ X :: R = kept ++ (if tr then [[]] else [])) : X ≠ [46] ∧ X ≠ [46, 46] ∧ (X = [] → R = []) := by
  have hm : X ∈ kept ++ (if tr then [[]] else []) := by rw [← h]; simp
  have hk : X ∈ kept ∨ X = [] := by
    rw [List.mem_append] at hm
    rcases hm with hm | hm
    · exact .inl hm
    · cases tr <;> simp at hm
      exact .inr hm
  refine ⟨fun e => ?_, fun e => ?_, fun e => ?_⟩
  · rcases hk with hk | hk
    · have := (hc X hk).dot
      rw [e] at this
      exact absurd this (by decide)
    · rw [e] at hk; cases hk
  · rcases hk with hk | hk
    · have := (hc X hk).up
      rw [e] at this
      exact absurd this (by decide)
    · rw [e] at hk; cases hk
  · have hlen := congrArg List.length h
    simp only [List.length_append, List.length_cons] at hlen
    have ht : (if tr then ([[]] : List (List UInt8)) else []).length ≤ 1 := by cases tr <;> simp
    rcases Nat.lt_or_ge D.length kept.length with hl | hl
    · have h1 : (D ++ X :: R)[D.length]? = some X := by simp
      rw [h, List.getElem?_append_left hl] at h1
      have hx : X ∈ kept := List.mem_of_getElem? h1
      have := (hc X hx).dot
      rw [e] at this
      exact absurd this (by decide)
    · exact List.length_eq_zero_iff.1 (by omega)
set_option maxHeartbeats 4000000 in
theorem walk (s : ByteArray) (w0 : s.size ≤ maxLen) (z0 : s.size ≤ 1048576) (w : World) (hsh : w.ShapedOpen Tryd.prog) :
    Calls Tryd.prog 4 #[.string s] w fun e w' => e = .returned (.bool true) ∧ Below w.heap.size w w' := by
  have HM := Lib.hid (MaxInt.of_shape hsh)
  clear hsh
  have U0 := Lib.hid (fun w hm => normal_any s (by omega) w hm)
  cases hn : normal (toL s) with
  | none =>
    rw [(norm_none hn).1, (norm_none hn).2] at U0
    clear w0 z0 hn
    go_enter Tryd.func4, Tryd.ntmps4
    go_wp2_with fail
    refine (anchor_any _ HM.out).mono ?_
    rintro e w1 ⟨rfl, hb1⟩
    go_wp2_with fail
    refine (U0.out _ (HM.out.below hb1)).mono ?_
    rintro e w2 ⟨rfl, hb2⟩
    replace hb1 := below_chain hb1 hb2
    clear hb2
    go_wp2_with fail
    go_ret
    exact ⟨rfl, hb1⟩
  | some P =>
    rw [(norm_some hn).1, (norm_some hn).2] at U0
    have hlen : P.length ≤ 1048576 := by
      have := normal_len (fun u hu => ⟨escapes_pos hu, escapes_len hu⟩) hn
      rw [toL_length] at this
      omega
    obtain ⟨kept, tr, rfl, hf, hc⟩ := normal_form hn
    have hfix := norm_some (normal_fixed (tr := tr) hf hc)
    obtain ⟨p, hp⟩ : ∃ p, p = ofL (form kept tr) := ⟨_, rfl⟩
    rw [← hp] at U0 hfix
    have hps : toL p = form kept tr := by rw [hp, toL_ofL]
    have hpl : p.size ≤ 1048576 := by rw [hp, ofL_size]; exact hlen
    have U1 := Lib.hid (fun w hm => normal_any p (by omega) w hm)
    rw [hps, hfix.1, hfix.2] at U1
    have hcuts : cuts (toL p).tail = kept ++ (if tr then [[]] else []) := by rw [hps]; exact cuts_form kept tr hf hc
    have henc : Enc (toL p) := by rw [hps]; exact form_enc hc
    obtain ⟨t, ht⟩ := form_head kept tr hf
    have hp1 : 1 ≤ p.size := by rw [← toL_length, hps, ht]; simp
    have h0 : p[0]'(by omega) = 47 := by
      have h := toL_get p 0 (by omega)
      rw [hps, ht] at h
      simpa using h.symm
    have hq0 : (((p[0]'(by omega)).toNat : Int) != 47) = false := by rw [h0]; rfl
    have hqe : (p.toList == p.toList) = true := beq_self_eq_true _
    have hne : ¬ p.toList = [] := fun h => by
      rw [ByteArray.toList_eq] at h
      have := toL_length p
      rw [show toL p = [] from h] at this
      simp at this
      omega
    have hne2 : p.toList.isEmpty = false := by
      cases h : p.toList with
      | nil => exact absurd h hne
      | cons => rfl
    have HPO := Lib.hid (fun D X R h => piece_ok (D := D) (X := X) (R := R) (tr := tr) hc h)
    have HCU := Lib.hid hcuts
    have HEN := Lib.hid henc
    have I0 : Hid (LI p 1 1) := Lib.hid ⟨Nat.le_refl _, fun h => h, fun h => h, by rw [Nat.sub_self]; rfl, ⟨[], by unfold RNormal.rest; rw [if_pos hp1, List.drop_one]; rfl⟩⟩
    clear w0 z0 hn hf hc hlen hps hp hfix hcuts henc ht h0
    go_enter Tryd.func4, Tryd.ntmps4
    go_wp2_with fail
    refine (anchor_any _ HM.out).mono ?_
    rintro e w1 ⟨rfl, hb1⟩
    go_wp2_with fail
    refine (U0.out _ (HM.out.below hb1)).mono ?_
    rintro e w2 ⟨rfl, hb2⟩
    replace hb1 := below_chain hb1 hb2
    clear hb2
    go_wp2_with fail
    refine (U1.out _ (HM.out.below hb1)).mono ?_
    rintro e w3 ⟨rfl, hb3⟩
    replace hb1 := below_chain hb1 hb3
    clear hb3
    go_wp2_with fail
    clear U0 U1 hqe hq0 hne hne2
    go_loop [7, 8] (fun fv i => ∃ k : Nat, k ≤ p.size + 1 ∧ i = .int .i64 k ∧ ∃ f : Nat, fv = .int .i64 f ∧ Hid (LI p k f)) (fun _ i => p.size + 1 - (intOf i).toNat)
    case atStart => exact ⟨1, by omega, rfl, 1, rfl, I0⟩
    case round =>
      obtain ⟨k, hk, rfl, f, rfl, HI⟩ := hrel
      clear I0
      have I := HI.out
      have hfk := I.le
      by_cases hle : k ≤ p.size
      · have hki : (k : Int) ≤ (p.size : Int) := by omega
        by_cases hcut : k = p.size ∨ (∃ h : k < p.size, p[k] = 47)
        · obtain ⟨D, hD⟩ := I.pre
          rw [I.step hle hcut] at hD
          obtain ⟨n1, n2, n3⟩ := HPO.out D _ _ (hD.symm.trans HCU.out)
          have HN := Lib.hid (I.next hle hcut)
          have hET : (p.extract f k).toList = ((toL p).drop f).take (k - f) := by
            rw [ByteArray.toList_eq]
            have := toL_extract p f k
            rw [List.drop_take] at this
            exact this
          have hfi : (f : Int) ≤ (k : Int) := by omega
          have hfs := I.in_ hle
          have t1 : ((p.extract f k).toList == [46]) = false := by rw [hET, beq_eq_false_iff_ne]; exact n1
          have t2 : ((p.extract f k).toList == [46, 46]) = false := by rw [hET, beq_eq_false_iff_ne]; exact n2
          have t3 : (p.extract f k).toList = [] → k = p.size := fun h => by
            rw [hET] at h
            have hr := n3 h
            rcases Nat.lt_or_ge k p.size with hl | hl
            · unfold RNormal.rest at hr
              rw [if_pos (by omega)] at hr
              exact absurd hr (cuts_ne _)
            · omega
          have hx : (k = p.size ∧ ¬ (k : Int) < (p.size : Int)) ∨ (∃ h : k < p.size, (k : Int) < (p.size : Int) ∧ ((p[k].toNat : Int) != 47) = false ∧ (p.extract f k).toList.isEmpty = false ∧ ¬ (p.extract f k).toList = []) := by
            rcases Nat.lt_or_ge k p.size with hl | hl
            · rcases hcut with h | ⟨h, hc⟩
              · omega
              · refine .inr ⟨h, by omega, by rw [hc]; rfl, ?_, fun h2 => by have := t3 h2; omega⟩
                cases he : (p.extract f k).toList with
                | nil => have := t3 he; omega
                | cons => rfl
            · exact .inl ⟨by omega, by omega⟩
          clear hET n1 n2 n3 hD I HI hcut t3
          rcases hx with ⟨hke, hq⟩ | ⟨hlt, hq, hq2, hq3, hq4⟩
          · subst hke
            go_wp2_with fail
            all_goals
              go_round
              case rel => exact ⟨p.size + 1, by omega, by go_num, p.size + 1, by go_num, HN⟩
              case measure => first | (simp [intOf]; done) | (simp [intOf]; omega)
          · go_wp2_with fail
            go_round
            case rel => exact ⟨k + 1, by omega, by go_num, k + 1, by go_num, HN⟩
            case measure => simp [intOf]; omega
        · have hlt : k < p.size := by
            rcases Nat.lt_or_ge k p.size with h | h
            · exact h
            · exact absurd (.inl (by omega)) hcut
          have hki2 : (k : Int) < (p.size : Int) := by omega
          have h47 : ¬ p[k] = 47 := fun h => hcut (.inr ⟨hlt, h⟩)
          have hq := slash_ne h47
          have HN : Hid (LI p (k + 1) f) := Lib.hid ⟨by omega, fun _ => I.in_ hle, fun h => by omega, by
            rw [show k + 1 - f = k - f + 1 by omega, List.take_add_one, List.getElem?_drop, show f + (k - f) = k by omega, toL_get p k hlt]
            have := I.no
            unfold noSlash at *
            rw [List.all_append, this]
            simp [bne, h47], I.pre⟩
          clear I HI hcut h47
          go_wp2_with fail
          go_round
          case rel => exact ⟨k + 1, by omega, by go_num, f, rfl, HN⟩
          case measure => simp [intOf]; omega
      · have hki : ¬ (k : Int) ≤ (p.size : Int) := by omega
        clear I HI HPO HCU
        go_wp2_with fail
        go_loop [88] (fun i => ∃ j : Nat, j ≤ p.size ∧ i = .int .i64 j) (fun i => p.size - (intOf i).toNat)
        case atStart => exact ⟨0, Nat.zero_le _, rfl⟩
        case round =>
          obtain ⟨j, hj, rfl⟩ := hrel
          by_cases hlt : j < p.size
          · have hji : (j : Int) < (p.size : Int) := by omega
            by_cases h37 : p[j] = 37
            · have hq : ((p[j].toNat : Int) == 37) = true := by rw [h37]; rfl
              obtain ⟨n, r, hn, hpn, hd⟩ := enc_at HEN.out j (by rw [toL_get p j hlt, h37])
              have hat : atL ((toL p).drop j) = (n : Int) := by
                obtain ⟨x1, x2, x3⟩ := hx_dig hn
                rw [hd]
                show (if (isHex (hx (n / 16)) && isHex (hx (n % 16))) = true then (two (hx (n / 16)) (hx (n % 16)) : Int) else -1) = _
                rw [x1, x2, x3]
                rfl
              have HA := Lib.hid (fun w => rat_any p (by omega) j hlt w)
              rw [hat] at HA
              have HP := Lib.hid (fun w => rplain_any n hn w)
              rw [hpn] at HP
              have hnb : (n : Int) ≤ 255 := by omega
              clear hn hpn hd hat h37
              go_wp2_with fail
              refine (HA.out _).mono ?_
              rintro e w' ⟨rfl, rfl⟩
              go_wp2_with fail
              refine (HP.out _).mono ?_
              rintro e w' ⟨rfl, rfl⟩
              go_wp2_with fail
              go_round
              case rel => exact ⟨j + 1, by omega, by go_num⟩
              case measure => simp [intOf]; omega
            · have hq : ((p[j].toNat : Int) == 37) = false := by
                have := all_bytes (p := fun b => (((b.toNat : Int) == 37) == (b == 37))) (by decide +kernel) p[j]
                rw [beq_iff_eq] at this
                rw [this, beq_eq_false_iff_ne]
                exact h37
              clear h37
              go_wp2_with fail
              go_round
              case rel => exact ⟨j + 1, by omega, by go_num⟩
              case measure => simp [intOf]; omega
          · go_wp2_with fail
            go_ret
            exact ⟨rfl, hb1⟩
end Go.Proofs.YtlhpjinajaociaaDoor.PathFixedW
