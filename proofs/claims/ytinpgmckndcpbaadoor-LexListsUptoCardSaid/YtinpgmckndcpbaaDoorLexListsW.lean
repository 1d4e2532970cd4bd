/- The elements of any text are the document's, and joined again they have the same elements: LexLists returns true, for what comes in of bulk at most 1048576. -/
import Derived.Test.YtinpgmckndcpbaaDoorLexAnchor
import Derived.Test.YtinpgmckndcpbaaDoorPElements
import Derived.Test.YtinpgmckndcpbaaDoorRSame
import Derived.Test.YtinpgmckndcpbaaDoorRElements
import Derived.Test.YtinpgmckndcpbaaDoorLexFlat
import Derived.JoinedCond
namespace Go.Proofs.YtinpgmckndcpbaaDoor.LexListsW
open Go.ChangeShapes Go.WideShapes Go.ChangeAt Go.RowKit LexPure Bytes LexObj LexAnchor Texts RElements RSame LexList LexFlat Mem PLib PElements
set_option linter.unusedVariables false
/-- ahead of a round: the list lies as it did, and the text so far -/
def LInv (W : World) (v : Value) (G : List (List UInt8)) (k : Nat) (tv : Value) (wr : World) : Prop :=
  tv = .string (ofL (flat (G.take k))) ∧ Texts wr v G ∧ Below W.heap.size W wr
set_option maxHeartbeats 4000000 in
theorem walk (s : ByteArray) (w0 : s.size ≤ maxLen) (z0 : s.size ≤ 1048576) (W : World) (hsh : W.ShapedOpen Tryd.prog) :
    Calls Tryd.prog 4 #[.string s] W fun e w' => e = .returned (.bool true) ∧ Below W.heap.size W w' := by
  have HX := Lib.hid (MaxInt.of_shape hsh)
  clear hsh
  have HE := Lib.hid (fun w (hm : MaxInt w) => pelements_any s (by omega) w hm)
  have HR := Lib.hid (fun w => relements_any s (by omega) w)
  have hG : ∀ e ∈ elements (toL s), e.isEmpty = false ∧ trim e = e ∧ noComma e = true := fun e he => ⟨(elements_mem he).1, (elements_mem he).2, elements_noComma he⟩
  have hS : ∀ e ∈ elements (toL s), e.length ≤ 1048576 := fun e he => by have := elements_short he; rw [toL_length] at this; omega
  have hN : (elements (toL s)).length ≤ 1048577 := by have := elements_count (toL s); rw [toL_length] at this; omega
  have HFl : Hid ((flat (elements (toL s))).length ≤ 5242884) := Lib.hid (by have := elements_total (toL s); rw [toL_length] at this; omega)
  generalize elements (toL s) = G at *
  have HG := Lib.hid hG
  have HS := Lib.hid hS
  have qs : (G == G) = true := beq_self_eq_true _
  clear hG hS w0 z0
  go_enter Tryd.func4, Tryd.ntmps4
  go_wp2_with fail
  refine (anchor_any _).mono ?_
  rintro e w1 ⟨rfl, hb1⟩
  go_wp2_with fail
  refine (HE.out _ (HX.out.below hb1)).mono ?_
  rintro e w2 ⟨v1, rfl, r1, hb2⟩
  have T1 := texts_of r1
  replace hb1 := below_chain hb1 hb2
  have HT1 := Lib.hid T1
  clear r1 hb2 T1
  go_wp2_with fail
  refine (HR.out _).mono ?_
  rintro e w3 ⟨v2, rfl, r2, hb3⟩
  have HT2 := Lib.hid (texts_of r2)
  replace HT1 := Lib.hid (HT1.out.below hb3)
  replace hb1 := below_chain hb1 hb3
  clear r2 hb3
  go_wp2_with fail
  refine (rsame_any _ _ _ _ _ HT1.out HT2.out).mono ?_
  rintro e w4 ⟨rfl, m, rfl⟩
  rw [qs]
  have I0 : Hid (LInv W v1 G 0 (.string ByteArray.empty) (w3.drewN m)) := Lib.hid ⟨rfl, HT1.out, ⟨hb1.os, hb1.tape, hb1.output, hb1.size, hb1.block⟩⟩
  obtain ⟨p, cap, rfl, hn1, _⟩ := HT1.out
  clear HT1 HT2 hb1
  generalize (w3.drewN m) = w4 at *
  go_wp2_with fail
  go_loopw [4, 18] (fun tv i wr => ∃ k : Nat, k ≤ G.length ∧ i = .int .i64 k ∧ Hid (LInv W (.slice p G.length cap) G k tv wr)) (fun _ i _ => G.length - (intOf i).toNat)
  case atStart => exact ⟨0, Nat.zero_le _, rfl, I0⟩
  case round =>
    obtain ⟨k, hk, rfl, hI⟩ := hrel
    obtain ⟨rfl, hT, hb⟩ := hI.out
    clear hI I0
    by_cases hlt : k < G.length
    · have hki : (k : Int) < (G.length : Int) := by omega
      have HT := Lib.hid hT
      obtain ⟨p', cap', hv, _, hc⟩ := hT
      injection hv with hv1 hv2 hv3
      subst hv1
      subst hv3
      obtain ⟨g, o, rfl, hg, hcell⟩ := hc (by omega)
      have cx := hcell k hlt
      have hm : G[k] ∈ G := List.getElem_mem hlt
      obtain ⟨e1, e2, e3⟩ := HG.out _ hm
      have e4 := HS.out _ hm
      have HF : Hid (flat (G.take (k + 1)) = flat (G.take k) ++ dress G[k]) := Lib.hid (by rw [List.take_add_one, List.getElem?_eq_getElem hlt]; exact flat_snoc _ _)
      have HTr : Hid (∀ w, Calls Tryd.prog 13 #[.string (ofL G[k])] w fun e w' => e = .returned (.string (ofL G[k])) ∧ Below w.heap.size w w') := Lib.hid (fun w => by
        have h := trim_any (ofL G[k]) (by rw [ofL_size]; omega) w
        rw [toL_ofL, e2] at h
        exact h)
      have hEs : (ofL G[k]).size ≤ 1048576 := by rw [ofL_size]; exact e4
      have hE0 : 0 < (ofL G[k]).size := by
        rw [ofL_size]
        cases h : G[k] with
        | nil => rw [h] at e1; simp at e1
        | cons => simp
      have hE1 : ¬ (ofL G[k]).toList = [] := fun h => by
        rw [ByteArray.toList_eq] at h
        have h2 := toL_length (ofL G[k])
        rw [show toL (ofL G[k]) = [] from h] at h2
        simp at h2
        omega
      have hE2 : (ofL G[k]).toList.isEmpty = false := by
        cases h : (ofL G[k]).toList with
        | nil => exact absurd h hE1
        | cons => rfl
      have hq : ((ofL G[k]).toList == (ofL G[k]).toList) = true := beq_self_eq_true _
      have hFs : (ofL (flat (G.take k))).size ≤ 5242884 := by
        rw [ofL_size]
        have h1 := flat_take G k
        have h2 := HFl.out
        omega
      have HF2 : Hid (ofL (flat (G.take k)) ++ (((⟨#[32, 44]⟩ : ByteArray) ++ ofL G[k]) ++ ⟨#[9, 44]⟩) = ofL (flat (G.take (k + 1)))) := Lib.hid (by
        rw [HF.out]
        refine toL_inj ?_
        rw [toL_append, toL_append, toL_append, toL_ofL, toL_ofL, toL_ofL]
        rfl)
      clear hc hcell hm e1 e2 e3 e4 HF
      generalize ofL G[k] = E at *
      generalize ofL (flat (G.take k)) = F at *
      go_wp2_with fail
      refine (HTr.out _).mono ?_
      rintro e w5 ⟨rfl, hb5⟩
      have HR2 : Hid (LInv W (.slice (some ⟨g, o, none⟩) G.length cap) G (k + 1) (.string (F ++ (((⟨#[32, 44]⟩ : ByteArray) ++ E) ++ ⟨#[9, 44]⟩))) w5) := Lib.hid ⟨by rw [HF2.out], HT.out.below hb5, below_chain hb hb5⟩
      clear hb5 hb HT HF2 HTr
      go_wp2_with fail
      go_roundw
      case rel => exact ⟨k + 1, by omega, by go_num, HR2⟩
      case measure => simp [intOf]; omega
    · have hF : Hid (elements (toL (ofL (flat (G.take k)))) = G) := Lib.hid (by
        rw [toL_ofL, List.take_of_length_le (by omega)]
        exact elements_flat HG.out)
      have hFs : (ofL (flat (G.take k))).size ≤ 5242884 := by
        rw [ofL_size]
        have h1 := flat_take G k
        have h2 := HFl.out
        omega
      have HE2 := Lib.hid (fun w (hm : MaxInt w) => pelements_any (ofL (flat (G.take k))) (by omega) w hm)
      rw [hF.out] at HE2
      have HT := Lib.hid hT
      clear hF hFs hT
      generalize ofL (flat (G.take k)) = F at *
      go_wp2_with fail
      refine (HE2.out _ (HX.out.below hb)).mono ?_
      rintro e w5 ⟨v5, rfl, r5, hb5⟩
      have HT5 := Lib.hid (texts_of r5)
      have HT6 := Lib.hid (HT.out.below hb5)
      have hb6 := below_chain hb hb5
      clear r5 hb5 hb HT HE2
      go_wp2_with fail
      refine (rsame_any _ _ _ _ _ HT5.out HT6.out).mono ?_
      rintro e w7 ⟨rfl, m7, rfl⟩
      rw [qs]
      go_wp2_with fail
      go_ret
      exact ⟨rfl, ⟨hb6.os, hb6.tape, hb6.output, hb6.size, hb6.block⟩⟩

end Go.Proofs.YtinpgmckndcpbaaDoor.LexListsW
