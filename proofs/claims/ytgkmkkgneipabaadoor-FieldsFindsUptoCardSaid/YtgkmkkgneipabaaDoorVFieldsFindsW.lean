/- Check, Get, Elements and Has over any fields are the document's: FieldsFinds returns true, for what comes in of bulk at most 1048576. -/
import Derived.Test.YtgkmkkgneipabaaDoorFLaw
import Derived.Test.YtgkmkkgneipabaaDoorPCheck7
import Derived.Test.YtgkmkkgneipabaaDoorQFieldsFinds
import Derived.JoinedCond
namespace Go.Proofs.YtgkmkkgneipabaaDoor.FieldsFindsW
open Go.ChangeShapes Go.WideShapes Go.ChangeAt Go.RowKit LexPure Bytes Ret Rows1 Texts FieldsPure Flds R7Get R7Remove PLib FLaw FAnchor Mem
set_option maxRecDepth 100000
set_option linter.unusedVariables false
set_option maxHeartbeats 4000000 in
theorem walk {H : Type} {enc : TypeId × Value → H} {W : World} {base : Nat} (v : Value) (d : DataW H) (p : List MemPlace) (hv : Value.okWide Tryd.prog W .any base 22 v)
    (hd : DataW.Trod enc Tryd.prog W 0 (fun _ => true) true 22 v d p) (hl : ∀ x ∈ p, x.block < W.heap.size) (hb : Rows.uptoBulk d ≤ 1048576)
    (nm : ByteArray) (w1 : nm.size ≤ maxLen) (z1 : nm.size ≤ 1048576) (el : ByteArray) (w2 : el.size ≤ maxLen) (z2 : el.size ≤ 1048576) (hsh : W.ShapedOpen Tryd.prog) :
    Calls Tryd.prog 3 #[v, .string nm, .string el] W fun e w' => e = .returned (.bool true) ∧ Below W.heap.size W w' := by
  have HM := Lib.hid (MaxInt.of_shape hsh)
  obtain ⟨G, hF, hG, hle, hN⟩ := FArg.fields_arg hv hd hb
  clear hv hd hl hb hsh
  have HF := Lib.hid hF
  have HG := Lib.hid hG
  have HN := Lib.hid hN
  obtain ⟨p, cap, rfl, hle2, _⟩ := hF
  clear hG hN
  go_enter Tryd.func3, Tryd.ntmps3
  go_wp2_with fail
  refine (anchor_any _ HM.out).mono ?_
  rintro e w1 ⟨rfl, hb1⟩
  have HF1 := Lib.hid (HF.out.below hb1)
  have hF1 := HF1.out.below ((Below.refl w1.heap.size w1).alloc (Nat.le_refl _) (.cells #[] 38))
  have hsz : w1.heap.size ≤ (w1.alloc (.cells #[] 38)).heap.size := by simp
  replace HM := Lib.hid (HM.out.below hb1)
  have HB := Lib.hid hb1
  clear hb1 HF
  go_wp2_with (at_builtin; refine wpList_append_list rfl _ _ rfl w1.heap.size _ 0 [] rfl (owns_none w1 _ _ (Nat.le_refl _)) _ G rfl hF1 HN.out (by omega) hsz ?_; intro v4 w4 hown4 hg4)
  obtain ⟨hrow, hb4⟩ := copied hown4 hg4
  have HV := Lib.hid (fl_of hrow (by omega))
  replace HB := Lib.hid (below_chain HB.out hb4)
  replace HM := Lib.hid (HM.out.below hb4)
  have HL := Lib.hid (HF1.out.below hb4)
  clear hrow hb4 hown4 hg4 hF1 hsz HF1 HN
  have gs : (G == G) = true := beq_self_eq_true _
  have es : (elems G (toL nm) == elems G (toL nm)) = true := beq_self_eq_true _
  have P1 := Lib.hid (fun w h => PGet.pget_any v4 G nm HG.out w h)
  have P2 := Lib.hid (fun w h => rget_any (.slice p G.length cap) G nm z1 HG.out w h)
  have P3 := Lib.hid (fun w h => PCheck7.pcheck_any v4 G HG.out hle w h)
  have P4 := Lib.hid (fun w h => R7Check.r7check_any (.slice p G.length cap) G HG.out w h)
  have P5 := Lib.hid (fun w m h => PElems7.pelems_any v4 G nm HG.out hle w m h)
  have P6 := Lib.hid (fun w h => R7Elements.r7elements_any (.slice p G.length cap) G nm z1 HG.out hle w h)
  have P7 := Lib.hid (fun w m h => PHas7.phas_any v4 G nm el HG.out w m h)
  have P8 := Lib.hid (fun w h => R7Has.r7has_any (.slice p G.length cap) G nm el z1 z2 HG.out hle w h)
  generalize ofL (getV G (toL nm)) = X at *
  generalize ((getN G (toL nm) : Nat) : Int) = Y at *
  generalize check G = C at *
  generalize hasE G (toL nm) (toL el) = B at *
  have xs : (X.toList == X.toList) = true := beq_self_eq_true _
  refine (P1.out _ HV.out).mono ?_
  rintro e w5 ⟨rfl, hb5⟩
  replace HV := Lib.hid (HV.out.below hb5)
  replace HL := Lib.hid (HL.out.below hb5)
  replace HM := Lib.hid (HM.out.below hb5)
  replace HB := Lib.hid (below_chain HB.out hb5)
  clear hb5 P1
  go_wp2_with fail
  refine (P2.out _ HL.out).mono ?_
  rintro e w6 ⟨rfl, hb5⟩
  replace HV := Lib.hid (HV.out.below hb5)
  replace HL := Lib.hid (HL.out.below hb5)
  replace HM := Lib.hid (HM.out.below hb5)
  replace HB := Lib.hid (below_chain HB.out hb5)
  clear hb5 P2
  go_wp2_with fail
  refine (P3.out _ HV.out).mono ?_
  rintro e w7 ⟨rfl, hb5⟩
  replace HV := Lib.hid (HV.out.below hb5)
  replace HL := Lib.hid (HL.out.below hb5)
  replace HM := Lib.hid (HM.out.below hb5)
  replace HB := Lib.hid (below_chain HB.out hb5)
  clear hb5 P3
  go_wp2_with fail
  refine (P4.out _ HL.out).mono ?_
  rintro e w8 ⟨rfl, hb5⟩
  replace HV := Lib.hid (HV.out.below hb5)
  replace HL := Lib.hid (HL.out.below hb5)
  replace HM := Lib.hid (HM.out.below hb5)
  replace HB := Lib.hid (below_chain HB.out hb5)
  clear hb5 P4
  go_wp2_with fail
  refine (P5.out _ HM.out HV.out).mono ?_
  rintro e w9 ⟨t1, rfl, r1, hb5⟩
  have HT1 := Lib.hid (texts_of r1)
  replace HV := Lib.hid (HV.out.below hb5)
  replace HL := Lib.hid (HL.out.below hb5)
  replace HM := Lib.hid (HM.out.below hb5)
  replace HB := Lib.hid (below_chain HB.out hb5)
  clear hb5 P5 r1
  go_wp2_with fail
  refine (P6.out _ HL.out).mono ?_
  rintro e w10 ⟨t2, rfl, r2, hb5⟩
  have HT2 := Lib.hid (texts_of r2)
  replace HT1 := Lib.hid (HT1.out.below hb5)
  replace HV := Lib.hid (HV.out.below hb5)
  replace HL := Lib.hid (HL.out.below hb5)
  replace HM := Lib.hid (HM.out.below hb5)
  replace HB := Lib.hid (below_chain HB.out hb5)
  clear hb5 P6 r2
  go_wp2_with fail
  refine (RSame.rsame_any _ _ _ _ _ HT1.out HT2.out).mono ?_
  rintro e w11 ⟨rfl, m, rfl⟩
  rw [es]
  replace HV : Hid (FL (w10.drewN m) v4 G) := Lib.hid HV.out
  replace HL : Hid (FL (w10.drewN m) (.slice p G.length cap) G) := Lib.hid HL.out
  replace HM : Hid (MaxInt (w10.drewN m)) := Lib.hid HM.out
  have hB := HB.out
  replace HB : Hid (Below W.heap.size W (w10.drewN m)) := Lib.hid ⟨hB.os, hB.tape, hB.output, hB.size, hB.block⟩
  clear hB HT1 HT2
  generalize w10.drewN m = w11 at *
  go_wp2_with fail
  refine (P7.out _ HM.out HV.out).mono ?_
  rintro e w12 ⟨rfl, hb5⟩
  replace HV := Lib.hid (HV.out.below hb5)
  replace HL := Lib.hid (HL.out.below hb5)
  replace HB := Lib.hid (below_chain HB.out hb5)
  clear hb5 P7 HM
  go_wp2_with fail
  refine (P8.out _ HL.out).mono ?_
  rintro e w13 ⟨rfl, hb5⟩
  replace HV := Lib.hid (HV.out.below hb5)
  replace HL := Lib.hid (HL.out.below hb5)
  replace HB := Lib.hid (below_chain HB.out hb5)
  clear hb5 P8
  have bs : (B == B) = true := beq_self_eq_true _
  go_wp2_with fail
  refine (R7Same.r7same_any _ _ _ _ _ HV.out HL.out).mono ?_
  rintro e w14 ⟨rfl, m2, rfl⟩
  rw [gs]
  have hB := HB.out
  go_wp2_with fail
  go_ret
  exact ⟨rfl, hB.os, hB.tape, hB.output, hB.size, hB.block⟩
end Go.Proofs.YtgkmkkgneipabaaDoor.FieldsFindsW
