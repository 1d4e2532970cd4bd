/- Texts of this seat, one behind another: ChunkDress, RBlank, RTrim. -/
import Derived.Test.YtlgohmghjffiaaaDoorChunkText
import Derived.Test.YtlgohmghjffiaaaDoorHeadCut
import Derived.Test.YtlgohmghjffiaaaDoorLexPure
import Derived.Test.YtlgohmghjffiaaaDoorLawBase
import Derived.Test.YtlgohmghjffiaaaDoorRet
import Derived.Lib.Hide
import Derived.Below
import Derived.Outline
import Derived.LoopTactic
import Derived.Laws.DeepStrings4
/- Layer 10: noughts, extensions and trailers change nothing. No program is named. -/
namespace Go.Proofs.YtlgohmghjffiaaaDoor.ChunkDress
open Bytes LexPure LexNum HeadPure ChunkPure ChunkHex ChunkText
set_option maxRecDepth 20000
/-- what is written so far, A, is the body B -/
def Dr (A B : List UInt8) : Prop := ∀ most : Int, (B.length : Int) ≤ most → run (at_ most 0) A = (at_ most B.length, B, A.length)
theorem Dr.start : Dr [] [] := fun _ _ => rfl
def sizeLine (z e t : List UInt8) : List UInt8 := z ++ hexN t.length ++ (59 :: e)
theorem ext_plain {e : List UInt8} (he : e.all extB = true) : plainL e := fun c hc => by
  have h := List.all_eq_true.1 he c hc
  have := all_bytes (p := fun c => !extB c || decide (c ≠ 13 ∧ c ≠ 10)) (by decide +kernel) c
  rw [h] at this
  simpa using this
theorem Dr.more {A B z e t : List UInt8} (h : Dr A B) (hz : ∀ c ∈ z, c = 48) (hz4 : z.length ≤ 4) (he : e.all extB = true) (he40 : e.length ≤ 40) (ht : t ≠ []) (ht2 : t.length ≤ 4095) :
    Dr (A ++ (sizeLine z e t ++ [13, 10] ++ t ++ [13, 10])) (B ++ t) := by
  intro most hm
  rw [List.length_append] at hm
  have hx := hexN_len 2 t.length (by omega)
  have hs : sizeL (sizeLine z e t) = t.length := size_hex hz (.inr ⟨e, rfl⟩) (by omega)
  have hp : plainL (sizeLine z e t) := fun c hc => by
    unfold sizeLine at hc
    simp only [List.mem_append, List.mem_cons] at hc
    rcases hc with (hc | hc) | hc | hc
    · rw [hz c hc]; decide
    · exact hex_plain _ c hc
    · rw [hc]; decide
    · exact ext_plain he c hc
  have hl : fitL .size [] (sizeLine z e t) = true := fit_size hz (.inr ⟨e, rfl, he⟩) (by omega) (by rw [List.length_cons]; omega)
  rw [run_append, h most (by omega)]
  simp only
  rw [run_chunk hp hl hs ht (by omega)]
  simp
/-- a trailer -/
def trailer (e : List UInt8) : List UInt8 := [84, 58, 32] ++ trim e
theorem ext_value {e : List UInt8} (he : e.all extB = true) : (trim e).all plainB = true := by
  rw [List.all_eq_true]
  intro c hc
  have hm : c ∈ e := by
    unfold trim at hc
    have h1 := List.mem_reverse.1 hc
    have h2 := (List.dropWhile_sublist _).subset h1
    exact (List.dropWhile_sublist _).subset (List.mem_reverse.1 h2)
  have h := List.all_eq_true.1 he c hm
  have := all_bytes (p := fun c => !extB c || plainB c) (by decide +kernel) c
  rw [h] at this
  simpa using this
theorem trailer_field {e : List UInt8} (he : e.all extB = true) : (field8 (trailer e)).2 = 0 := by
  have hn : nameB (trailer e) = [84] := by
    unfold trailer nameB
    rfl
  have hd : (trailer e).drop 2 = 32 :: trim e := rfl
  have ht : trim (32 :: trim e) = trim e := by
    have : trim (32 :: trim e) = trim (trim e) := rfl
    rw [this, trim_trim]
  unfold field8
  rw [hn]
  rw [if_pos]
  refine ⟨by unfold trailer; simp, by decide, ?_⟩
  show value (trim ((trailer e).drop 2)) = true
  rw [hd, ht]
  have := HeadCut.value_trim' (trim e)
  rw [trim_trim] at this
  rw [this]
  exact ext_value he
theorem trailer_plain {e : List UInt8} (he : e.all extB = true) : plainL (trailer e) := fun c hc => by
  unfold trailer at hc
  rw [List.mem_append] at hc
  rcases hc with hc | hc
  · have : ∀ c ∈ ([84, 58, 32] : List UInt8), c ≠ 13 ∧ c ≠ 10 := by decide
    exact this c hc
  · have h := List.all_eq_true.1 (ext_value he) c hc
    have := all_bytes (p := fun c => !plainB c || decide (c ≠ 13 ∧ c ≠ 10)) (by decide +kernel) c
    rw [h] at this
    simpa using this
theorem trailer_len (e : List UInt8) : (trailer e).length ≤ e.length + 3 := by
  unfold trailer
  have := trim_length e
  simp only [List.length_append, List.length_cons, List.length_nil]
  omega
theorem trailer_fit {e : List UInt8} (he : e.all extB = true) (hl : e.length ≤ 40) (j : Nat) : fitL (.trail j) [] (trailer e) = true := by
  have hb := trim_length e
  have h1 : fitL (.trail j) [] [84, 58, 32] = true := by unfold fitL fitL fitL fitL fits; dsimp only; decide
  unfold trailer
  rw [fitL_append, h1, fit_value j (trim e) _ (by decide) (ext_value he) (by simp only [List.length_append, List.length_cons, List.length_nil]; omega)]
  rfl
theorem run_trailer {most : Int} {n j : Nat} {e : List UInt8} (he : e.all extB = true) (hl : e.length ≤ 40) (hj : j < 32) :
    run ⟨most, n, .trail j, [], false⟩ (trailer e ++ [13, 10]) = (⟨most, n, .trail (j + 1), [], false⟩, [], (trailer e).length + 2) := by
  have hb := trailer_len e
  rw [run_whole ⟨.inr (.inr ⟨j, rfl⟩), rfl⟩ (trailer_plain he) rfl (trailer_fit he hl j)]
  have : endLine ⟨most, n, .trail j, trailer e, false⟩ = ⟨most, n, .trail (j + 1), [], false⟩ := by
    unfold endLine goOn
    simp only
    rw [if_neg (by unfold trailer; simp), if_neg]
    rintro (h | h)
    · exact h (trailer_field he)
    · omega
  show (endLine ⟨most, n, .trail j, trailer e, false⟩, ([] : List UInt8), (trailer e).length + 2) = _
  rw [this]
/-- j trailers -/
def trailers (e : List UInt8) : Nat → List UInt8
  | 0 => []
  | j + 1 => trailers e j ++ (trailer e ++ [13, 10])
theorem run_trailers {most : Int} {n : Nat} {e : List UInt8} (he : e.all extB = true) (hl : e.length ≤ 40) : ∀ j, j ≤ 32 → run ⟨most, n, .trail 0, [], false⟩ (trailers e j) = (⟨most, n, .trail j, [], false⟩, [], (trailers e j).length)
  | 0, _ => rfl
  | j + 1, h => by
    unfold trailers
    rw [run_append, run_trailers he hl j (by omega)]
    simp only
    rw [run_trailer he hl (by omega)]
    simp
/-- ChunkDressed: all is read -/
theorem dressed_say {A B e : List UInt8} {j : Nat} (h : Dr A B) (he : e.all extB = true) (hl : e.length ≤ 40) (hj : j ≤ 32) :
    ans (begin_ B.length) (A ++ [48, 13, 10] ++ trailers e j ++ [13, 10]) = (B, (A ++ [48, 13, 10] ++ trailers e j).length + 2, true, 0) ∧ (next (begin_ B.length) (A ++ [48, 13, 10] ++ trailers e j ++ [13, 10])).size = B.length ∧ good (next (begin_ B.length) (A ++ [48, 13, 10] ++ trailers e j ++ [13, 10])) = true := by
  have h1 : run (at_ (B.length : Int) B.length) [48, 13, 10] = (⟨B.length, B.length, .trail 0, [], false⟩, [], 3) := by
    have := run_whole (at_line (B.length : Int) B.length) (l := [48]) (by intro c hc; rw [List.mem_singleton] at hc; subst hc; decide) rfl (show fitL .size [] [48] = true by decide)
    rw [show ([48] : List UInt8) ++ [13, 10] = [48, 13, 10] from rfl] at this
    rw [this]
    have hs : sizeL [48] = 0 := by decide
    unfold endLine at_ goOn
    simp only [hs]
    rw [if_neg (by decide), if_neg (by omega), if_pos trivial]
    rfl
  have h2 : run ⟨(B.length : Int), B.length, .trail j, [], false⟩ [13, 10] = (⟨B.length, B.length, .done, [], false⟩, [], 2) := by
    rw [run_end ⟨.inr (.inr ⟨j, rfl⟩), rfl⟩ rfl]
    rfl
  have hr : run (begin_ B.length) (A ++ [48, 13, 10] ++ trailers e j ++ [13, 10]) = (⟨B.length, B.length, .done, [], false⟩, B, (A ++ [48, 13, 10] ++ trailers e j).length + 2) := by
    rw [run_append, run_append, run_append]
    rw [show begin_ B.length = at_ B.length 0 from rfl, h B.length (Int.le_refl _)]
    simp only
    rw [h1]
    simp only
    rw [run_trailers he hl j hj]
    simp only
    rw [h2]
    simp
    omega
  unfold ans next good
  rw [hr]
  exact ⟨rfl, rfl, rfl⟩
end Go.Proofs.YtlgohmghjffiaaaDoor.ChunkDress

/- Layer 4, the document's own Blank. -/
namespace Go.Proofs.YtlgohmghjffiaaaDoor.RBlank
open Go.ChangeShapes Go.WideShapes Go.ChangeAt Go.RowKit LexPure Bytes Ret
set_option maxRecDepth 20000
theorem rblank_any (c : UInt8) (w : World) :
    Calls Tryd.prog 20 #[.int .u8 (c.toNat : Int)] w fun e w' => e = .returned (.bool (blankB c)) ∧ w = w' := by
  rw [← blank_eq]
  generalize (c.toNat : Int) = c
  go_enter Tryd.func20, Tryd.ntmps20
  go_wp2_with fail
  all_goals
    go_ret
    refine ⟨ret_bool ?_, rfl⟩
    first
      | exact Eq.symm (decide_eq_true (by omega))
      | exact Eq.symm (decide_eq_false (by omega))
      | (rw [Bool.decide_or]; rfl)
end Go.Proofs.YtlgohmghjffiaaaDoor.RBlank

/- Layer 4, the document's own Trim. -/
namespace Go.Proofs.YtlgohmghjffiaaaDoor.RTrim
open Go.ChangeShapes Go.WideShapes Go.ChangeAt Go.RowKit LexPure Bytes Ret RBlank
set_option maxRecDepth 20000
theorem drop_at (s : ByteArray) (k : Nat) (h : k < s.size) : ((toL s).drop k).dropWhile blankB = if blankB s[k] then ((toL s).drop (k + 1)).dropWhile blankB else (toL s).drop k := by
  rw [toL_drop s k h, List.dropWhile_cons]
theorem last_at (D : List UInt8) (j : Nat) (c : UInt8) (h : D[j]? = some c) : (D.take (j + 1)).reverse.dropWhile blankB = if blankB c then (D.take j).reverse.dropWhile blankB else (D.take (j + 1)).reverse := by
  rw [List.take_add_one, h]
  simp only [Option.toList_some, List.reverse_append, List.reverse_cons, List.reverse_nil, List.nil_append, List.cons_append]
  rw [List.dropWhile_cons]
theorem rtrim_any (s : ByteArray) (hs : s.size ≤ maxLen) (w : World) :
    Calls Tryd.prog 13 #[.string s] w fun e w' => e = .returned (.string (ofL (trim (toL s)))) ∧ w = w' := by
  unfold maxLen at hs
  go_enter Tryd.func13, Tryd.ntmps13
  go_wp2_with fail
  go_loop [3] (fun f => ∃ k : Nat, k ≤ s.size ∧ f = .int .i64 k ∧ Hid ((toL s).dropWhile blankB = ((toL s).drop k).dropWhile blankB)) (fun f => s.size - (intOf f).toNat)
  case atStart => exact ⟨0, Nat.zero_le _, rfl, Lib.hid rfl⟩
  case round =>
    obtain ⟨k, hk, rfl, ha⟩ := hrel
    by_cases hgo : ∃ h : k < s.size, blankB s[k] = true
    · obtain ⟨hlt, hb⟩ := hgo
      have hki : (k : Int) < (s.size : Int) := by omega
      have HA : Hid ((toL s).dropWhile blankB = ((toL s).drop (k + 1)).dropWhile blankB) := Lib.hid (by rw [ha.out, drop_at s k hlt, if_pos hb])
      have HB := Lib.hid hb
      clear hb
      go_wp2_with fail
      refine (rblank_any _ _).mono ?_
      rintro e w' ⟨rfl, rfl⟩
      rw [HB.out]
      go_wp2_with fail
      go_round
      case rel => exact ⟨k + 1, by omega, by go_num, HA⟩
      case measure => simp [intOf]; omega
    · have HD : Hid ((toL s).dropWhile blankB = (toL s).drop k) := Lib.hid (by
        rw [ha.out]
        by_cases hlt : k < s.size
        · rw [drop_at s k hlt, if_neg (fun hb => hgo ⟨hlt, hb⟩)]
        · rw [List.drop_eq_nil_of_le (by rw [toL_length]; omega)]
          rfl)
      have HL : Hid (((toL s).drop k).length = s.size - k) := Lib.hid (by rw [List.length_drop, toL_length])
      have hx : (∃ h : k < s.size, (k : Int) < (s.size : Int) ∧ Hid (blankB s[k] = false)) ∨ (¬ (k : Int) < (s.size : Int)) := by
        by_cases hlt : k < s.size
        · refine .inl ⟨hlt, by omega, Lib.hid ?_⟩
          cases h : blankB s[k] with
          | true => exact absurd ⟨hlt, h⟩ hgo
          | false => rfl
        · exact .inr (by omega)
      clear hgo ha
      rcases hx with ⟨hlt, hki, HB⟩ | hki
      rotate_left
      · have ek : k = s.size := by omega
        subst ek
        have HV : Hid (ByteArray.empty = ofL (trim (toL s))) := Lib.hid (by
          refine toL_inj ?_
          rw [toL_ofL]
          unfold trim
          rw [HD.out, List.drop_eq_nil_of_le (by rw [toL_length]; omega)]
          rfl)
        go_wp2_with fail
        go_loop [4] (fun t => t = .int .i64 (s.size : Nat)) (fun _ => 0)
        case atStart => rfl
        case round =>
          subst hrel
          go_wp2_with fail
          go_ret
          exact ⟨ret_string HV.out, rfl⟩
      · go_wp2_with fail
        refine (rblank_any _ _).mono ?_
        rintro e w' ⟨rfl, rfl⟩
        rw [HB.out]
        go_wp2_with fail
        go_loop [4] (fun t => ∃ m : Nat, k ≤ m ∧ m ≤ s.size ∧ t = .int .i64 m ∧ Hid (((toL s).drop k).reverse.dropWhile blankB = (((toL s).drop k).take (m - k)).reverse.dropWhile blankB)) (fun t => (intOf t).toNat)
        case atStart => exact ⟨s.size, hk, Nat.le_refl _, rfl, Lib.hid (by rw [List.take_of_length_le (by rw [HL.out]; omega)])⟩
        case round =>
          obtain ⟨m, hm1, hm2, rfl, hb⟩ := hrel
          by_cases hlt2 : k < m
          · obtain ⟨j, rfl⟩ : ∃ j, m = j + 1 := ⟨m - 1, by omega⟩
            have hji : (k : Int) < ((j + 1 : Nat) : Int) := by omega
            have HE : Hid (((toL s).drop k)[j - k]? = some s[j]) := Lib.hid (by rw [List.getElem?_drop, show k + (j - k) = j by omega]; exact toL_get s j (by omega))
            have HLA := Lib.hid (last_at _ _ _ HE.out)
            by_cases hbl : blankB s[j] = true
            · have HB2 := Lib.hid hbl
              have HA : Hid (((toL s).drop k).reverse.dropWhile blankB = (((toL s).drop k).take (j - k)).reverse.dropWhile blankB) := Lib.hid (by
                rw [hb.out, show j + 1 - k = j - k + 1 by omega, HLA.out, if_pos hbl])
              clear hbl HLA HE
              go_wp2_with fail
              refine (rblank_any _ _).mono ?_
              rintro e w' ⟨rfl, rfl⟩
              rw [HB2.out]
              go_wp2_with fail
              go_round
              case rel => exact ⟨j, by omega, by omega, rfl, HA⟩
              case measure => simp [intOf]
            · have hbl : blankB s[j] = false := by simpa using hbl
              have HB2 := Lib.hid hbl
              have HV : Hid (s.extract k (j + 1) = ofL (trim (toL s))) := Lib.hid (by
                refine toL_inj ?_
                rw [toL_extract, toL_ofL]
                unfold trim
                rw [HD.out, hb.out, show j + 1 - k = j - k + 1 by omega, HLA.out, if_neg (by rw [hbl]; decide), List.reverse_reverse, List.drop_take, show j + 1 - k = j - k + 1 by omega])
              clear hbl HLA HE
              go_wp2_with fail
              refine (rblank_any _ _).mono ?_
              rintro e w' ⟨rfl, rfl⟩
              rw [HB2.out]
              go_wp2_with fail
              go_ret
              exact ⟨ret_string HV.out, rfl⟩
          · have em : m = k := by omega
            subst em
            have HV : Hid (ByteArray.empty = ofL (trim (toL s))) := Lib.hid (by
              refine toL_inj ?_
              rw [toL_ofL]
              unfold trim
              rw [HD.out, hb.out, Nat.sub_self]
              rfl)
            go_wp2_with fail
            go_ret
            exact ⟨ret_string HV.out, rfl⟩
end Go.Proofs.YtlgohmghjffiaaaDoor.RTrim
