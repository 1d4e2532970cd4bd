/- Layer 4, the document's own Elements. -/
import Derived.Test.YtgkmkkgneipabaaDoorLexPure
import Derived.Test.YtgkmkkgneipabaaDoorLawBase
import Derived.Test.YtgkmkkgneipabaaDoorRet
import Derived.Lib.Hide
import Derived.Below
import Derived.Outline
import Derived.LoopTactic
import Derived.Test.YtgkmkkgneipabaaDoorRTrim
import Derived.Test.YtgkmkkgneipabaaDoorLexList
import Derived.Test.YtgkmkkgneipabaaDoorTexts
import Derived.Maps.AppendAt
import Derived.Laws.DeepStrings4
namespace Go.Proofs.YtgkmkkgneipabaaDoor.RElements
open Go.ChangeShapes Go.WideShapes Go.ChangeAt Go.RowKit LexPure Bytes Ret RTrim LexList Rows1 Texts
set_option maxRecDepth 20000
def rest (s : ByteArray) (f : Nat) : List (List UInt8) := if f ≤ s.size then elements ((toL s).drop f) else []
/-- behind k bytes, the last comma ahead of f -/
structure EInv (w : World) (s : ByteArray) (k f : Nat) (v : Value) (G : List (List UInt8)) (wr : World) : Prop where
  row : wr.ownsRow w.heap.size 9 1 v G.length (strs G)
  below : Below w.heap.size w wr
  all_ : elements (toL s) = G ++ rest s f
  le : f ≤ k
  in_ : k ≤ s.size → f ≤ s.size
  out_ : s.size < k → s.size < f
  no : noComma (((toL s).drop f).take (k - f)) = true
  few : G.length ≤ k
theorem rest_end {s : ByteArray} {f : Nat} (hf : f ≤ s.size) (h : noComma (((toL s).drop f).take (s.size - f)) = true) : rest s f = one (((toL s).drop f).take (s.size - f)) := by
  unfold rest
  have e : ((toL s).drop f).take (s.size - f) = (toL s).drop f := List.take_of_length_le (by rw [List.length_drop, toL_length]; omega)
  rw [if_pos hf]
  rw [e] at h ⊢
  exact elements_plain h
theorem rest_cut {s : ByteArray} {f k : Nat} (hf : f ≤ k) (hk : k < s.size) (h : noComma (((toL s).drop f).take (k - f)) = true) (hc : s[k] = 44) : rest s f = one (((toL s).drop f).take (k - f)) ++ rest s (k + 1) := by
  unfold rest
  rw [if_pos (by omega), if_pos (by omega)]
  have e : (toL s).drop f = ((toL s).drop f).take (k - f) ++ 44 :: (toL s).drop (k + 1) := by
    have h1 := List.take_append_drop (k - f) ((toL s).drop f)
    rw [List.drop_drop, show f + (k - f) = k by omega, toL_drop s k hk, hc] at h1
    exact h1.symm
  conv => lhs; rw [e]
  exact elements_cut h
theorem piece_eq (s : ByteArray) (f k : Nat) : toL (s.extract f k) = ((toL s).drop f).take (k - f) := by
  rw [toL_extract, List.drop_take]
set_option maxHeartbeats 1600000 in
theorem relements_any (s : ByteArray) (hs : s.size ≤ 8796093022206) (w : World) :
    Calls Tryd.prog 34 #[.string s] w fun e w' => ∃ v, e = .returned v ∧ w'.ownsRow w.heap.size 9 1 v (elements (toL s)).length (strs (elements (toL s))) ∧ Below w.heap.size w w' := by
  obtain ⟨i0, hi, hz0, hz1, hz2⟩ := info_parts infoS
  go_enter Tryd.func34, Tryd.ntmps34
  go_wp2_with fail
  go_loopw [3, 4, 5] (fun v f i wr => ∃ k : Nat, k ≤ s.size + 1 ∧ i = .int .i64 k ∧ ∃ j : Nat, f = .int .i64 j ∧ Hid (∃ G, EInv w s k j v G wr)) (fun _ _ i _ => s.size + 1 - (intOf i).toNat)
  case atStart => exact ⟨0, Nat.zero_le _, rfl, 0, rfl, Lib.hid ⟨[], World.ownsRow_nil _ _ _ _, Below.refl _ _, by simp [rest], Nat.le_refl _, fun _ => Nat.zero_le _, fun h => h, rfl, Nat.le_refl _⟩⟩
  case round =>
    obtain ⟨k, hk, rfl, f, rfl, HI⟩ := hrel
    obtain ⟨G, I⟩ := HI.out
    have hfk := I.le
    by_cases hle : k ≤ s.size
    · have hki : (k : Int) ≤ (s.size : Int) := by omega
      have hfs := I.in_ hle
      by_cases hcut : k = s.size ∨ (∃ h : k < s.size, s[k] = 44)
      · have hE : elements (toL s) = (G ++ one (((toL s).drop f).take (k - f))) ++ rest s (k + 1) := by
          rcases hcut with h | ⟨h, hc⟩
          · subst h
            rw [I.all_, rest_end hfs I.no, show rest s (s.size + 1) = [] by unfold rest; rw [if_neg (by omega)]]
            simp
          · rw [I.all_, rest_cut hfk h I.no hc, List.append_assoc]
        have hsz : (s.extract f k).size ≤ maxLen := by
          have := toL_length (s.extract f k)
          rw [piece_eq, List.length_take, List.length_drop, toL_length] at this
          unfold maxLen
          omega
        have HT := Lib.hid (rtrim_any (s.extract f k) hsz)
        rw [piece_eq] at HT
        clear hsz
        generalize hX : ((toL s).drop f).take (k - f) = X at *
        have hrow := I.row
        have hbw := I.below
        have hfew := I.few
        have hfi : (f : Int) ≤ (k : Int) := by omega
        have hx : (((k : Int) == (s.size : Int)) = true) ∨ (∃ h : k < s.size, ((k : Int) == (s.size : Int)) = false ∧ (k : Int) < (s.size : Int) ∧ ((s[k].toNat : Int) == 44) = true) := by
          rcases hcut with h | ⟨h, hc⟩
          · exact .inl (by rw [h]; exact beq_self_eq_true _)
          · exact .inr ⟨h, beq_eq_false_iff_ne.2 (by omega), by omega, by rw [hc]; rfl⟩
        have HNE : Hid (∀ G' v' wr', wr'.ownsRow w.heap.size 9 1 v' G'.length (strs G') → Below w.heap.size w wr' → G' = G ++ one X → Hid (∃ G, EInv w s (k + 1) (k + 1) v' G wr')) := Lib.hid (fun G' v' wr' h1 h2 h3 => Lib.hid ⟨G', h1, h2, by rw [h3]; exact hE, Nat.le_refl _, fun h => h, fun h => h, by rw [Nat.sub_self]; rfl, by
          have := one_length X
          rw [h3, List.length_append]
          omega⟩)
        clear hE HI I hX hcut
        rcases hx with hq | ⟨hlt, hq, hki2, hc⟩
        all_goals
          go_wp2_with fail
          refine (HT.out _).mono ?_
          rintro e w' ⟨rfl, rfl⟩
          by_cases hem : (trim X).isEmpty = true
          · have h1 : one X = [] := by unfold one; rw [if_pos hem]
            have h2 : (ofL (trim X)).size = 0 := by rw [ofL_size, List.isEmpty_iff.1 hem]; rfl
            have HR := HNE.out G u3 wr hrow hbw (by rw [h1, List.append_nil])
            clear HNE HT h1 hem hrow
            generalize ofL (trim X) = E at *
            go_wp2_with fail
            go_roundw
            case rel => exact ⟨k + 1, by omega, by go_num, k + 1, by go_num, HR⟩
            case measure => simp [intOf]; omega
          · have h1 : one X = [trim X] := by unfold one; rw [if_neg hem]
            have h2 : 0 < (ofL (trim X)).size := by
              rw [ofL_size]
              cases h : trim X with
              | nil => rw [h] at hem; exact absurd rfl hem
              | cons => simp
            rw [h1] at HNE
            have hbase : w.heap.size ≤ wr.heap.size := hbw.size
            have HNF : Hid (∀ v' wr', wr'.ownsRow w.heap.size 9 1 v' (G.length + 1) (strs G ++ [.string (ofL (trim X))]) → Below w.heap.size w wr' → Hid (∃ G, EInv w s (k + 1) (k + 1) v' G wr')) := Lib.hid (fun v' wr' h1 h2 => HNE.out (G ++ [trim X]) v' wr' (by rw [List.length_append, strs_append]; exact h1) h2 rfl)
            clear HNE HT h1 hem
            generalize ofL (trim X) = E at *
            go_wp2_with (at_builtin; refine wpList_append_own _ rfl _ _ 30 rfl w.heap.size 9 i0 (.string ByteArray.empty) 1 16 Tryd.underlying30 hi hz0 hz1 hz2 rfl (by decide) _ _ _ rfl (hrow.alloc _) ⟨wr.heap.size, 0, none⟩ 1 1 [.string E] rfl rfl (cell_one_new _ _ _) (fun x hx => by simp at hx; subst hx; rfl) (by unfold maxLen; omega) (by omega) (by simp; omega) ?_; intro v' w3 hown' hgrow3 hnil3)
            have HR := HNF.out v' w3 hown' (Below.grown (hbw.alloc hbw.size _) hgrow3 (by simp; omega) (fun j hj => (hrow.lt _ hj).1))
            clear hown' hgrow3 hnil3 HNF hrow
            go_wp2_with fail
            go_roundw
            case rel => exact ⟨k + 1, by omega, by go_num, k + 1, by go_num, HR⟩
            case measure => simp [intOf]; omega
      · have hlt : k < s.size := by
          rcases Nat.lt_or_ge k s.size with h | h
          · exact h
          · exact absurd (.inl (by omega)) hcut
        have hcb : (s[k] == 44) = false := by
          rw [beq_eq_false_iff_ne]
          exact fun h => hcut (.inr ⟨hlt, h⟩)
        have hcd : ((s[k].toNat : Int) == 44) = false := by
          have := all_bytes (p := fun b => (((b.toNat : Int) == 44) == (b == 44))) (by decide +kernel) s[k]
          rw [beq_iff_eq] at this
          rw [this]
          exact hcb
        have hq : ((k : Int) == (s.size : Int)) = false := beq_eq_false_iff_ne.2 (by omega)
        have hki2 : (k : Int) < (s.size : Int) := by omega
        have HR : Hid (∃ G, EInv w s (k + 1) f u3 G wr) := Lib.hid ⟨G, I.row, I.below, I.all_, by omega, fun _ => hfs, fun h => by omega, by
          rw [show k + 1 - f = k - f + 1 by omega, List.take_add_one, List.getElem?_drop, show f + (k - f) = k by omega, toL_get s k hlt]
          exact noComma_snoc I.no hcb, by have := I.few; omega⟩
        clear hcut hcb HI I
        go_wp2_with fail
        go_roundw
        case rel => exact ⟨k + 1, by omega, by go_num, f, rfl, HR⟩
        case measure => simp [intOf]; omega
    · have hrow := I.row
      have hbw := I.below
      have hG : G = elements (toL s) := by
        rw [I.all_]
        have hf := I.out_ (by omega)
        have : rest s f = [] := by unfold rest; rw [if_neg (by omega)]
        rw [this, List.append_nil]
      rw [hG] at hrow
      clear I HI
      go_wp2_with fail
      go_ret
      exact ⟨_, rfl, hrow, hbw⟩
end Go.Proofs.YtgkmkkgneipabaaDoor.RElements
