/- Layer 4, the document's own Trim. -/
import Derived.Test.YtclecgopmegjeaaDoorLexPure
import Derived.Test.YtclecgopmegjeaaDoorLawBase
import Derived.Test.YtclecgopmegjeaaDoorRet
import Derived.Lib.Hide
import Derived.Below
import Derived.Outline
import Derived.LoopTactic
import Derived.Test.YtclecgopmegjeaaDoorRBlank
import Derived.Laws.DeepStrings4
namespace Go.Proofs.YtclecgopmegjeaaDoor.RTrim
open Go.ChangeShapes Go.WideShapes Go.ChangeAt Go.RowKit LexPure Bytes Ret RBlank
set_option maxRecDepth 20000
theorem drop_at (s : ByteArray) (k : Nat) (h : k < s.size) : ((toL s).drop k).dropWhile blankB = if blankB s[k] then ((toL s).drop (k + 1)).dropWhile blankB else (toL s).drop k := by
  rw [toL_drop s k h, List.dropWhile_cons]
theorem last_at (D : List UInt8) (j : Nat) (c : UInt8) (h : D[j]? = some c) : (D.take (j + 1)).reverse.dropWhile blankB = if blankB c then (D.take j).reverse.dropWhile blankB else (D.take (j + 1)).reverse := by
  rw [List.take_add_one, h]
  simp only [Option.toList_some, List.reverse_append, List.reverse_cons, List.reverse_nil, List.nil_append, List.cons_append]
  rw [List.dropWhile_cons]
theorem rtrim_any (s : ByteArray) (hs : s.size ≤ maxLen) (w : World) :
    Calls Tryd.prog 35 #[.string s] w fun e w' => e = .returned (.string (ofL (trim (toL s)))) ∧ w = w' := by
  unfold maxLen at hs
  go_enter Tryd.func35, Tryd.ntmps35
  go_wp2_with fail
  go_loop [3] (fun f => ∃ k : Nat, k ≤ s.size ∧ f = .int .i64 k ∧ Hid ((toL s).dropWhile blankB = ((toL s).drop k).dropWhile blankB)) (fun f => s.size - (intOf f).toNat)
  case atStart => exact ⟨0, Nat.zero_le _, rfl, Lib.hid rfl⟩
  case round =>
    obtain ⟨k, hk, rfl, ha⟩ := hrel
    by_cases hgo : ∃ h : k < s.size, blankB s[k] = true
    · obtain ⟨hlt, hb⟩ := hgo
      have hki : (k : Int) < (s.size : Int) := by omega
      have HA : Hid ((toL s).dropWhile blankB = ((toL s).drop (k + 1)).dropWhile blankB) := Lib.hid (by rw [ha.out, drop_at s k hlt, if_pos hb])
      have HB := Lib.hid hb
      clear hb
      go_wp2_with fail
      refine (rblank_any _ _).mono ?_
      rintro e w' ⟨rfl, rfl⟩
      rw [HB.out]
      go_wp2_with fail
      go_round
      case rel => exact ⟨k + 1, by omega, by go_num, HA⟩
      case measure => simp [intOf]; omega
    · have HD : Hid ((toL s).dropWhile blankB = (toL s).drop k) := Lib.hid (by
        rw [ha.out]
        by_cases hlt : k < s.size
        · rw [drop_at s k hlt, if_neg (fun hb => hgo ⟨hlt, hb⟩)]
        · rw [List.drop_eq_nil_of_le (by rw [toL_length]; omega)]
          rfl)
      have HL : Hid (((toL s).drop k).length = s.size - k) := Lib.hid (by rw [List.length_drop, toL_length])
      have hx : (∃ h : k < s.size, (k : Int) < (s.size : Int) ∧ Hid (blankB s[k] = false)) ∨ (¬ (k : Int) < (s.size : Int)) := by
        by_cases hlt : k < s.size
        · refine .inl ⟨hlt, by omega, Lib.hid ?_⟩
          cases h : blankB s[k] with
          | true => exact absurd ⟨hlt, h⟩ hgo
          | false => rfl
        · exact .inr (by omega)
      clear hgo ha
      rcases hx with ⟨hlt, hki, HB⟩ | hki
      rotate_left
      · have ek : k = s.size := by omega
        subst ek
        have HV : Hid (ByteArray.empty = ofL (trim (toL s))) := Lib.hid (by
          refine toL_inj ?_
          rw [toL_ofL]
          unfold trim
          rw [HD.out, List.drop_eq_nil_of_le (by rw [toL_length]; omega)]
          rfl)
        go_wp2_with fail
        go_loop [4] (fun t => t = .int .i64 (s.size : Nat)) (fun _ => 0)
        case atStart => rfl
        case round =>
          subst hrel
          go_wp2_with fail
          go_ret
          exact ⟨ret_string HV.out, rfl⟩
      · go_wp2_with fail
        refine (rblank_any _ _).mono ?_
        rintro e w' ⟨rfl, rfl⟩
        rw [HB.out]
        go_wp2_with fail
        go_loop [4] (fun t => ∃ m : Nat, k ≤ m ∧ m ≤ s.size ∧ t = .int .i64 m ∧ Hid (((toL s).drop k).reverse.dropWhile blankB = (((toL s).drop k).take (m - k)).reverse.dropWhile blankB)) (fun t => (intOf t).toNat)
        case atStart => exact ⟨s.size, hk, Nat.le_refl _, rfl, Lib.hid (by rw [List.take_of_length_le (by rw [HL.out]; omega)])⟩
        case round =>
          obtain ⟨m, hm1, hm2, rfl, hb⟩ := hrel
          by_cases hlt2 : k < m
          · obtain ⟨j, rfl⟩ : ∃ j, m = j + 1 := ⟨m - 1, by omega⟩
            have hji : (k : Int) < ((j + 1 : Nat) : Int) := by omega
            have HE : Hid (((toL s).drop k)[j - k]? = some s[j]) := Lib.hid (by rw [List.getElem?_drop, show k + (j - k) = j by omega]; exact toL_get s j (by omega))
            have HLA := Lib.hid (last_at _ _ _ HE.out)
            by_cases hbl : blankB s[j] = true
            · have HB2 := Lib.hid hbl
              have HA : Hid (((toL s).drop k).reverse.dropWhile blankB = (((toL s).drop k).take (j - k)).reverse.dropWhile blankB) := Lib.hid (by
                rw [hb.out, show j + 1 - k = j - k + 1 by omega, HLA.out, if_pos hbl])
              clear hbl HLA HE
              go_wp2_with fail
              refine (rblank_any _ _).mono ?_
              rintro e w' ⟨rfl, rfl⟩
              rw [HB2.out]
              go_wp2_with fail
              go_round
              case rel => exact ⟨j, by omega, by omega, rfl, HA⟩
              case measure => simp [intOf]
            · have hbl : blankB s[j] = false := by simpa using hbl
              have HB2 := Lib.hid hbl
              have HV : Hid (s.extract k (j + 1) = ofL (trim (toL s))) := Lib.hid (by
                refine toL_inj ?_
                rw [toL_extract, toL_ofL]
                unfold trim
                rw [HD.out, hb.out, show j + 1 - k = j - k + 1 by omega, HLA.out, if_neg (by rw [hbl]; decide), List.reverse_reverse, List.drop_take, show j + 1 - k = j - k + 1 by omega])
              clear hbl HLA HE
              go_wp2_with fail
              refine (rblank_any _ _).mono ?_
              rintro e w' ⟨rfl, rfl⟩
              rw [HB2.out]
              go_wp2_with fail
              go_ret
              exact ⟨ret_string HV.out, rfl⟩
          · have em : m = k := by omega
            subst em
            have HV : Hid (ByteArray.empty = ofL (trim (toL s))) := Lib.hid (by
              refine toL_inj ?_
              rw [toL_ofL]
              unfold trim
              rw [HD.out, hb.out, Nat.sub_self]
              rfl)
            go_wp2_with fail
            go_ret
            exact ⟨ret_string HV.out, rfl⟩
end Go.Proofs.YtclecgopmegjeaaDoor.RTrim
