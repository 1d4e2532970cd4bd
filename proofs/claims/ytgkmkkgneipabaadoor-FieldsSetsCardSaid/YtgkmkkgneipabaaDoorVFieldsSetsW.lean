/- Behind Set a name is there once, with its value, at the end, and every other name is as it was; behind Remove it isn't there: FieldsSets returns true. -/
import Derived.Test.YtgkmkkgneipabaaDoorFLaw
import Derived.Test.YtgkmkkgneipabaaDoorQFieldsSets
import Derived.Test.YtgkmkkgneipabaaDoorRLower
namespace Go.Proofs.YtgkmkkgneipabaaDoor.FieldsSetsW
open Go.ChangeShapes Go.WideShapes Go.ChangeAt Go.RowKit LexPure Bytes Ret Rows1 Texts FieldsPure Flds R7Get R7Remove R7Same PLib PValsW PGetW FLaw FAnchor Mem
set_option maxRecDepth 100000
set_option linter.unusedVariables false
theorem drewN_below {W w : World} (h : Below W.heap.size W w) (m : Nat) : Below W.heap.size W (w.drewN m) := ⟨h.os, h.tape, h.output, h.size, h.block⟩
/-- a list, as an argument that is nil or not, behind a change of newer blocks -/
theorem fl_front {w : World} {p : Option Addr} {cap : Nat} {G : List HField} {f : HField} (h : FL w (.slice p (G.length + 1) cap) (G ++ [f])) (cap' : Nat) : FL w (.slice p G.length cap') G := by
  obtain ⟨p', c', hv, hle, hc⟩ := h
  injection hv with e1 _ _
  subst e1
  have hl : (G ++ [f]).length = G.length + 1 := by simp
  refine ⟨p, cap', rfl, by omega, fun h0 => ?_⟩
  obtain ⟨g, o, rfl, hlt, hcell⟩ := hc (by omega)
  refine ⟨g, o, rfl, hlt, fun j hj => ?_⟩
  have := hcell j (by omega)
  rw [List.getElem_append_left hj] at this
  exact this
set_option maxHeartbeats 4000000 in
theorem walk {H : Type} {enc : TypeId × Value → H} {W : World} {base : Nat} (v : Value) (d : DataW H) (p : List MemPlace) (hv : Value.okWide Tryd.prog W .any base 22 v)
    (hd : DataW.Trod enc Tryd.prog W 0 (fun _ => true) true 22 v d p) (hl : ∀ x ∈ p, x.block < W.heap.size) (hb : (d.weights Tryd.prog 22).all (· ≤ reachBytes) = true)
    (nm : ByteArray) (w1 : nm.size ≤ maxLen) (z1 : nm.size ≤ 140737488351232) (el : ByteArray) (w2 : el.size ≤ maxLen) (z2 : el.size ≤ 140737488351232) (ot : ByteArray) (w3 : ot.size ≤ maxLen) (z3 : ot.size ≤ 140737488351232) (hsh : W.ShapedOpen Tryd.prog) :
    Calls Tryd.prog 7 #[v, .string nm, .string el, .string ot] W fun e w' => e = .returned (.bool true) ∧ Below W.heap.size W w' := by
  have HM := Lib.hid (MaxInt.of_shape hsh)
  obtain ⟨G, hF, hG, hle, hN⟩ := FArg.fields_arg_wide hv hd hb
  clear hv hd hl hb hsh
  have HF := Lib.hid hF
  have HG := Lib.hid hG
  have HN := Lib.hid hN
  obtain ⟨p, cap, rfl, hle2, _⟩ := hF
  have lr := remove_len G (toL nm)
  have hgr := get_remove G (toL nm)
  obtain ⟨hgs1, hgs2⟩ := get_set G (toL nm) (toL el)
  have hor := get_other_remove G (toL nm) (toL ot)
  have hos := get_other_set G (toL nm) (toL el) (toL ot)
  have HSL : Hid (setF G (toL nm) (toL el) = remove G (toL nm) ++ [(toL nm, toL el)]) := Lib.hid rfl
  have hfr : Wide (remove G (toL nm)) := fun j hj => wide_all hG _ (List.mem_filter.1 (List.getElem_mem hj)).1
  have hfs : Wide (setF G (toL nm) (toL el)) := fun j hj => by
    have hm : (setF G (toL nm) (toL el))[j] ∈ remove G (toL nm) ++ [(toL nm, toL el)] := List.getElem_mem hj
    rcases List.mem_append.1 hm with h | h
    · exact wide_all hG _ (List.mem_filter.1 h).1
    · rw [List.mem_singleton.1 h]
      exact ⟨by rw [toL_length]; omega, by rw [toL_length]; omega⟩
  have HFr := Lib.hid hfr
  have HFs := Lib.hid hfs
  clear hG hN hfr hfs
  go_enter Tryd.func7, Tryd.ntmps7
  go_wp2_with fail
  refine (anchor_any _ HM.out).mono ?_
  rintro e w1 ⟨rfl, hb1⟩
  have HF1 := Lib.hid (HF.out.below hb1)
  have hF1 := HF1.out.below ((Below.refl w1.heap.size w1).alloc (Nat.le_refl _) (.cells #[] 38))
  have hsz : w1.heap.size ≤ (w1.alloc (.cells #[] 38)).heap.size := by simp
  replace HM := Lib.hid (HM.out.below hb1)
  have HB := Lib.hid hb1
  clear hb1 HF
  go_wp2_with (at_builtin; refine wpList_append_list rfl _ _ rfl w1.heap.size _ 0 [] rfl (owns_none w1 _ _ (Nat.le_refl _)) _ G rfl hF1 HN.out (by omega) hsz ?_; intro v4 w4 hown4 hg4)
  obtain ⟨hrow, hb4⟩ := copied hown4 hg4
  have HV := Lib.hid (fl_of hrow (by omega))
  replace HB := Lib.hid (below_chain HB.out hb4)
  replace HM := Lib.hid (HM.out.below hb4)
  have HL := Lib.hid (HF1.out.below hb4)
  clear hrow hb4 hown4 hg4 hF1 hsz HF1
  refine (PSetW.pset_any v4 G nm el HG.out (by omega) w4 HV.out).mono ?_
  rintro e w5 ⟨s, rfl, r1, hb5⟩
  rw [HSL.out, List.length_append, List.length_singleton] at r1
  obtain ⟨ps, cs, rfl, hps⟩ := row_form r1
  have HS : Hid (FL w5 (.slice ps ((remove G (toL nm)).length + 1) cs) (remove G (toL nm) ++ [(toL nm, toL el)])) := Lib.hid (by
    have := fl_of (G := remove G (toL nm) ++ [(toL nm, toL el)]) (by rw [List.length_append, List.length_singleton]; exact r1) (by rw [List.length_append, List.length_singleton]; omega)
    exact this)
  obtain ⟨gs, rfl, _⟩ := hps (by omega)
  have hcap : (remove G (toL nm)).length + 1 ≤ cs ∧ cs ≤ 9223372036854775807 := by
    rcases r1.2 with ⟨h, _⟩ | ⟨g, c, cur, h, _, _, h2, h3, _⟩
    · cases h
    · injection h with _ _ h
      subst h
      exact ⟨h2, h3⟩
  obtain ⟨hcap, hcap2⟩ := hcap
  replace HL := Lib.hid (HL.out.below hb5)
  replace HM := Lib.hid (HM.out.below hb5)
  replace HB := Lib.hid (below_chain HB.out hb5)
  have hF5 := HL.out.below ((Below.refl w5.heap.size w5).alloc (Nat.le_refl _) (.cells #[] 38))
  have hsz5 : w5.heap.size ≤ (w5.alloc (.cells #[] 38)).heap.size := by simp
  clear hb5 r1 HV hps
  go_wp2_with (at_builtin; refine wpList_append_list rfl _ _ rfl w5.heap.size _ 0 [] rfl (owns_none w5 _ _ (Nat.le_refl _)) _ G rfl hF5 HN.out (by omega) hsz5 ?_; intro v6 w6 hown4 hg4)
  obtain ⟨hrow, hb5⟩ := copied hown4 hg4
  have HV := Lib.hid (fl_of hrow (by omega))
  replace HS := Lib.hid (HS.out.below hb5)
  replace HL := Lib.hid (HL.out.below hb5)
  replace HM := Lib.hid (HM.out.below hb5)
  replace HB := Lib.hid (below_chain HB.out hb5)
  clear hrow hb5 hown4 hg4 hF5 hsz5 HN
  refine (PRemoveW.premove_any v6 G nm HG.out (by omega) w6 HV.out).mono ?_
  rintro e w7 ⟨d, rfl, r1, hb5⟩
  have HD := Lib.hid (fl_of r1 (by omega))
  replace HS := Lib.hid (HS.out.below hb5)
  replace HL := Lib.hid (HL.out.below hb5)
  replace HM := Lib.hid (HM.out.below hb5)
  replace HB := Lib.hid (below_chain HB.out hb5)
  clear hb5 r1 HV
  have P1 := Lib.hid (fun w h => pget_any (.slice (some ⟨gs, 0, none⟩) ((remove G (toL nm)).length + 1) cs) (remove G (toL nm) ++ [(toL nm, toL el)]) nm HFs.out w h)
  have P2 := Lib.hid (fun w h => pget_any d (remove G (toL nm)) nm HFr.out w h)
  have P3 := Lib.hid (fun w h => pget_any (.slice p G.length cap) G ot HG.out w h)
  have P4 := Lib.hid (fun w h => pget_any (.slice (some ⟨gs, 0, none⟩) ((remove G (toL nm)).length + 1) cs) (remove G (toL nm) ++ [(toL nm, toL el)]) ot HFs.out w h)
  have P5 := Lib.hid (fun w h => pget_any d (remove G (toL nm)) ot HFr.out w h)
  rw [HSL.out] at hgs1 hgs2 hos
  rw [hgs1, hgs2, ofL_toL] at P1
  rw [hgr] at P2
  generalize ofL (getV (remove G (toL nm)) (toL nm)) = X2 at *
  clear hgs1 hgs2 hgr HSL HFr HFs
  have hRle : (remove G (toL nm)).length ≤ 4398046511103 := by omega
  generalize remove G (toL nm) = R at *
  clear lr
  go_wp2_with fail
  refine (P1.out _ HS.out).mono ?_
  rintro e w8 ⟨rfl, hb5⟩
  replace HS := Lib.hid (HS.out.below hb5)
  replace HD := Lib.hid (HD.out.below hb5)
  replace HL := Lib.hid (HL.out.below hb5)
  replace HM := Lib.hid (HM.out.below hb5)
  replace HB := Lib.hid (below_chain HB.out hb5)
  clear hb5 P1
  have cl : w8.cell? ⟨gs, R.length * 2, none⟩ = some (.string nm) ∧ w8.cell? ⟨gs, R.length * 2 + 1, none⟩ = some (.string el) := by
    obtain ⟨_, _, hv, _, hc⟩ := HS.out
    injection hv with e1 _ _
    have hl : (R ++ [(toL nm, toL el)]).length = R.length + 1 := by simp
    obtain ⟨g, o, e2, _, hcell⟩ := hc (by omega)
    rw [← e1] at e2
    injection e2 with e2
    injection e2 with a1 a2 _
    subst a1 a2
    have := hcell R.length (by omega)
    rw [List.getElem_append_right (Nat.le_refl _)] at this
    simp only [Nat.sub_self, List.getElem_cons_zero, ofL_toL, Nat.zero_add] at this
    exact this
  obtain ⟨cl1, cl2⟩ := cl
  have hnq : ∀ w, (binOp .neq 38 (.agg #[.string nm, .string el]) (.agg #[.string nm, .string el])).run Tryd.prog w = .ok (.bool false) w := fun w => neqF nm el nm el true true (beq_self_eq_true _) (beq_self_eq_true _) w
  have es : (el.toList == el.toList) = true := beq_self_eq_true _
  have hRi : (R.length : Int) ≤ 4398046511103 := by omega
  go_wp2_with fail
  clear cl1 cl2 hnq
  refine (P2.out _ HD.out).mono ?_
  rintro e w9 ⟨rfl, hb5⟩
  replace HS := Lib.hid (HS.out.below hb5)
  replace HD := Lib.hid (HD.out.below hb5)
  replace HL := Lib.hid (HL.out.below hb5)
  replace HM := Lib.hid (HM.out.below hb5)
  replace HB := Lib.hid (below_chain HB.out hb5)
  clear hb5 P2
  have hci : (R.length : Int) ≤ (cs : Int) := by omega
  have hci2 : (cs : Int) ≤ 9223372036854775807 := by omega
  have rs : (R == R) = true := beq_self_eq_true _
  go_wp2_with fail
  refine (r7same_any _ _ _ _ _ (fl_front HS.out cs) HD.out).mono ?_
  rintro e w10 ⟨rfl, m, rfl⟩
  rw [rs]
  replace HS : Hid (FL (w9.drewN m) (.slice (some ⟨gs, 0, none⟩) (R.length + 1) cs) (R ++ [(toL nm, toL el)])) := Lib.hid HS.out
  replace HD : Hid (FL (w9.drewN m) d R) := Lib.hid HD.out
  replace HL : Hid (FL (w9.drewN m) (.slice p G.length cap) G) := Lib.hid HL.out
  replace HB : Hid (Below W.heap.size W (w9.drewN m)) := Lib.hid (drewN_below HB.out m)
  clear HM
  generalize w9.drewN m = w10 at *
  have PA := Lib.hid (fun w => RLower.rlower_any ot (by omega) w)
  have PB := Lib.hid (fun w => RLower.rlower_any nm (by omega) w)
  have hsame := same_ofL (lower (toL ot)) (lower (toL nm))
  cases hal : alike (toL nm) (toL ot)
  · obtain ⟨ho1, ho2⟩ := hor hal
    obtain ⟨ht1, ht2⟩ := hos hal
    have hne : (lower (toL ot) == lower (toL nm)) = false := by
      unfold alike at hal
      rw [beq_eq_false_iff_ne] at hal ⊢
      exact fun h => hal h.symm
    rw [hne] at hsame
    rw [ho1, ho2] at P5
    rw [ht1, ht2] at P4
    clear ho1 ho2 ht1 ht2 hor hos hne hal
    generalize ofL (getV G (toL ot)) = Y at *
    generalize ((getN G (toL ot) : Nat) : Int) = Z at *
    generalize ofL (lower (toL ot)) = A at *
    generalize ofL (lower (toL nm)) = B at *
    have ys : (Y.toList == Y.toList) = true := beq_self_eq_true _
    have zs : (Z == Z) = true := beq_self_eq_true _
    go_wp2_with fail
    refine (PA.out _).mono ?_
    rintro e w11 ⟨rfl, hb5⟩
    replace HS := Lib.hid (HS.out.below hb5)
    replace HD := Lib.hid (HD.out.below hb5)
    replace HL := Lib.hid (HL.out.below hb5)
    replace HB := Lib.hid (below_chain HB.out hb5)
    clear hb5 PA
    go_wp2_with fail
    refine (PB.out _).mono ?_
    rintro e w12 ⟨rfl, hb5⟩
    replace HS := Lib.hid (HS.out.below hb5)
    replace HD := Lib.hid (HD.out.below hb5)
    replace HL := Lib.hid (HL.out.below hb5)
    replace HB := Lib.hid (below_chain HB.out hb5)
    clear hb5 PB
    go_wp2_with fail
    refine (P3.out _ HL.out).mono ?_
    rintro e w13 ⟨rfl, hb5⟩
    replace HS := Lib.hid (HS.out.below hb5)
    replace HD := Lib.hid (HD.out.below hb5)
    replace HB := Lib.hid (below_chain HB.out hb5)
    clear hb5 P3 HL
    go_wp2_with fail
    refine (P4.out _ HS.out).mono ?_
    rintro e w14 ⟨rfl, hb5⟩
    replace HD := Lib.hid (HD.out.below hb5)
    replace HB := Lib.hid (below_chain HB.out hb5)
    clear hb5 P4 HS
    go_wp2_with fail
    refine (P5.out _ HD.out).mono ?_
    rintro e w15 ⟨rfl, hb5⟩
    replace HB := Lib.hid (below_chain HB.out hb5)
    clear hb5 P5 HD
    go_wp2_with fail
    go_ret
    exact ⟨rfl, HB.out⟩
  · have hne : (lower (toL ot) == lower (toL nm)) = true := by
      unfold alike at hal
      rw [beq_iff_eq] at hal ⊢
      exact hal.symm
    rw [hne] at hsame
    clear hor hos hne hal P3 P4 P5 HS HD HL
    generalize ofL (lower (toL ot)) = A at *
    generalize ofL (lower (toL nm)) = B at *
    go_wp2_with fail
    refine (PA.out _).mono ?_
    rintro e w11 ⟨rfl, hb5⟩
    replace HB := Lib.hid (below_chain HB.out hb5)
    clear hb5 PA
    go_wp2_with fail
    refine (PB.out _).mono ?_
    rintro e w12 ⟨rfl, hb5⟩
    replace HB := Lib.hid (below_chain HB.out hb5)
    clear hb5 PB
    go_wp2_with fail
    go_ret
    exact ⟨rfl, HB.out⟩
end Go.Proofs.YtgkmkkgneipabaaDoor.FieldsSetsW
