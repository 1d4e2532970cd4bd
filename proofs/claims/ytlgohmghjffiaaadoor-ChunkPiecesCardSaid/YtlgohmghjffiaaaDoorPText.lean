/- Layer 4 of the program: Value. -/
import Derived.Test.YtlgohmghjffiaaaDoorPOfValue
import Derived.Test.YtlgohmghjffiaaaDoorPTrim
import Derived.Test.YtlgohmghjffiaaaDoorPLibT
import Derived.Test.YtlgohmghjffiaaaDoorPToken
import Derived.Outline
import Derived.LoopTactic
import Derived.Handy
namespace Go.Proofs.YtlgohmghjffiaaaDoor.PText
open Go.ChangeShapes Go.WideShapes Go.ChangeAt Go.RowKit LexPure Bytes Ret LexSplit PLibT PTrim POfValue
set_option maxRecDepth 20000
/-- a value, as the program asks it -/
theorem value_trim (s : List UInt8) : value s = (s.all plainB && decide (trim s = s)) := by
  unfold value
  cases h : s.all plainB with
  | false => rfl
  | true =>
    rw [Bool.true_and, Bool.true_and]
    cases hs : s with
    | nil => rfl
    | cons c r =>
      have h2 : (c :: r).getLastD 0 = ((c :: r).reverse).headD 0 := by
        rw [List.headD_eq_head?_getD, List.head?_reverse, List.getLastD_eq_getLast?]
      rw [h2]
      rw [Bool.eq_iff_iff]
      simp only [List.isEmpty_cons, Bool.false_or, Bool.and_eq_true, Bool.not_eq_true', List.headD_cons, decide_eq_true_eq]
      constructor
      · rintro ⟨h1, h3⟩
        refine trim_id (fun a t e => ?_) (fun a t e => ?_)
        · injection e with e1 e2
          rw [← e1]; exact h1
        · rw [e] at h3; exact h3
      · intro e
        refine ⟨trim_head (s := c :: r) c r e, ?_⟩
        cases hr : (c :: r).reverse with
        | nil => simp at hr
        | cons a t => exact trim_last (s := c :: r) a t (by rw [e]; exact hr)
theorem pvalue_any (s : ByteArray) (hs : s.size ≤ maxLen) (w : World) :
    Calls Tryd.prog 37 #[.string s] w fun e w' => e = .returned (.bool (value (toL s))) ∧ Below w.heap.size w w' := by
  have HT := Lib.hid (fun w => ptrim_any s hs w)
  unfold maxLen at hs
  go_enter Tryd.func37, Tryd.ntmps37
  go_wp2_with fail
  go_loop [6] (fun i => ∃ k : Nat, k ≤ s.size ∧ i = .int .i64 k ∧ Hid (((toL s).take k).all plainB = true)) (fun i => s.size - (intOf i).toNat)
  case atStart => exact ⟨0, Nat.zero_le _, rfl, Lib.hid rfl⟩
  case round =>
    obtain ⟨k, hk, rfl, ha⟩ := hrel
    by_cases hlt : k < s.size
    · have hki : (k : Int) < (s.size : Int) := by omega
      have HS := Lib.hid (toL_take_succ s k hlt)
      have HG := Lib.hid (toL_get s k hlt)
      have HC := Lib.hid (fun w => pofvalue_any s[k] w)
      clear HT
      by_cases hm : plainB s[k] = true
      · have HA : Hid (((toL s).take (k + 1)).all plainB = true) := Lib.hid (by rw [HS.out, List.all_append, ha.out]; simp [hm])
        rw [hm] at HC
        clear hm HS HG
        go_wp2_with (refine (HC.out _).mono ?_; rintro e w' ⟨rfl, rfl⟩)
        go_round
        case rel => exact ⟨k + 1, by omega, by go_num, HA⟩
        case measure => simp [intOf]; omega
      · have hmf : plainB s[k] = false := by simpa using hm
        have HV : Hid (value (toL s) = false) := Lib.hid (by
          unfold value
          rw [Bool.and_eq_false_iff]
          left
          rw [List.all_eq_false]
          exact ⟨s[k], List.mem_of_getElem? HG.out, hm⟩)
        rw [hmf] at HC
        clear hm HS HG hmf
        go_wp2_with (refine (HC.out _).mono ?_; rintro e w' ⟨rfl, rfl⟩)
        go_ret
        exact ⟨by rw [HV.out]; rfl, Below.refl _ _⟩
    · have hall : (toL s).take k = toL s := toL_take_all s (by omega)
      have HQ : Hid (value (toL s) = ((ofL (trim (toL s))).toList == s.toList)) := Lib.hid (by
        rw [value_trim, ← hall, ha.out, hall, Bool.true_and, ByteArray.toList_eq, ByteArray.toList_eq, show (ofL (trim (toL s))).data.toList = trim (toL s) from toL_ofL _]
        by_cases h : trim (toL s) = toL s
        · rw [decide_eq_true h, h]; exact (beq_self_eq_true _).symm
        · rw [decide_eq_false h]; exact (beq_eq_false_iff_ne.2 h).symm)
      clear ha hall
      go_wp2_with fail
      refine (HT.out _).mono ?_
      rintro e w1 ⟨rfl, hb1⟩
      go_wp2_with fail
      go_ret
      exact ⟨by rw [HQ.out]; rfl, hb1⟩
end Go.Proofs.YtlgohmghjffiaaaDoor.PText
