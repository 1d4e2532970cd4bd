/- Nothing that concerns one connection alone goes on, what is left is in its old order, and stripping again changes nothing: FieldsStripped returns true, for what comes in of bulk at most 1048576. -/
import Derived.Test.YtgkmkkgneipabaaDoorFLaw
import Derived.Test.YtgkmkkgneipabaaDoorR7Same
import Derived.JoinedCond
namespace Go.Proofs.YtgkmkkgneipabaaDoor.FieldsStrippedW
open Go.ChangeShapes Go.WideShapes Go.ChangeAt Go.RowKit LexPure Bytes Ret Rows1 Texts FieldsPure Flds R7Get R7Remove R7Elements PLib PGet PElems7 PStrip FLaw FAnchor Mem
set_option maxRecDepth 100000
set_option linter.unusedVariables false
theorem drewN_below {W w : World} (h : Below W.heap.size W w) (m : Nat) : Below W.heap.size W (w.drewN m) := ⟨h.os, h.tape, h.output, h.size, h.block⟩
theorem eqlF (a b c d : ByteArray) (p q : Bool) (h1 : (a.toList == c.toList) = p) (h2 : (b.toList == d.toList) = q) (w : World) : (binOp .eql 38 (.agg #[.string a, .string b]) (.agg #[.string c, .string d])).run Tryd.prog w = .ok (.bool (p && q)) w := by
  have u9 := Tryd.underlying9
  have a9 := Tryd.isAgg9
  have z9 := Tryd.sizeOf9
  have hS : Tryd.prog.underlying 38 = some (.struct (Tryd.prog.fieldsOf 38)) := by kernel_rfl
  have hp : Tryd.prog.stoodInHeld 38 = false := by kernel_rfl
  rw [run_eql_struct, show (10000 : Nat) = 9999 + 1 from rfl, run_equalIn_agg w 9999 38 _ _ hS hp]
  simp only [Program.fieldsOf, Tryd.underlying38]
  cases p
  · go_simp
  · cases q
    · go_simp
    · go_simp
theorem strip_few {G : List HField} (h : Few G) : Few (strip G) := fun j hj => by
  have hm : (strip G)[j] ∈ G := (List.mem_filter.1 (List.getElem_mem hj)).1
  exact few_all h _ hm
theorem strip_len (G : List HField) : (strip G).length ≤ G.length := List.length_filter_le _ _
def fixedCells : List Value := [.string ⟨#[99, 111, 110, 110, 101, 99, 116, 105, 111, 110]⟩, .string ⟨#[107, 101, 101, 112, 45, 97, 108, 105, 118, 101]⟩, .string ⟨#[112, 114, 111, 120, 121, 45, 99, 111, 110, 110, 101, 99, 116, 105, 111, 110]⟩, .string ⟨#[116, 101]⟩, .string ⟨#[116, 114, 97, 105, 108, 101, 114]⟩, .string ⟨#[116, 114, 97, 110, 115, 102, 101, 114, 45, 101, 110, 99, 111, 100, 105, 110, 103]⟩, .string ⟨#[117, 112, 103, 114, 97, 100, 101]⟩]
theorem fixed_strs : strs fixed = fixedCells := by rfl
/-- what is held against: what the fields named, and the seven -/
def named (G : List HField) : List (List UInt8) := elems G (toL ⟨#[67, 111, 110, 110, 101, 99, 116, 105, 111, 110]⟩) ++ fixed
theorem named_gone (G : List HField) (k : Nat) (h : k < (named G).length) : getN (strip G) (named G)[k] = 0 := by
  refine strip_none G _ ?_
  have hm : (named G)[k] ∈ named G := List.getElem_mem h
  generalize (named G)[k] = x at hm ⊢
  unfold named at hm
  rcases List.mem_append.1 hm with hm | hm
  · rw [elems_congr alikeConn] at hm
    exact one_named G hm
  · exact one_fixed G hm
set_option maxHeartbeats 4000000 in
theorem walk {H : Type} {enc : TypeId × Value → H} {W : World} {base : Nat} (v : Value) (d : DataW H) (p : List MemPlace) (hv : Value.okWide Tryd.prog W .any base 22 v)
    (hd : DataW.Trod enc Tryd.prog W 0 (fun _ => true) true 22 v d p) (hl : ∀ x ∈ p, x.block < W.heap.size) (hb : Rows.uptoBulk d ≤ 1048576) (hsh : W.ShapedOpen Tryd.prog) :
    Calls Tryd.prog 5 #[v] W fun e w' => e = .returned (.bool true) ∧ Below W.heap.size W w' := by
  obtain ⟨i0, hi, hz0, hz1, hz2⟩ := info_parts infoS
  have HM := Lib.hid (MaxInt.of_shape hsh)
  obtain ⟨G, hF, hG, hle, hN⟩ := FArg.fields_arg hv hd hb
  clear hv hd hl hb hsh
  have HF := Lib.hid hF
  have HG := Lib.hid hG
  have HN := Lib.hid hN
  obtain ⟨p, cap, rfl, hle2, _⟩ := hF
  have lp := strip_len G
  have HS := Lib.hid (strip_few hG)
  have hng := named_gone G
  have hel : (elems G (toL ⟨#[67, 111, 110, 110, 101, 99, 116, 105, 111, 110]⟩)).length ≤ 1099512676352 := by
    have := elems_len G (toL ⟨#[67, 111, 110, 110, 101, 99, 116, 105, 111, 110]⟩) 1048577 (fun f hf => Nat.succ_le_succ (few_all hG f hf).2)
    have h3 := Nat.mul_le_mul_right 1048577 hle
    omega
  have HNm : Hid (named G = elems G (toL ⟨#[67, 111, 110, 110, 101, 99, 116, 105, 111, 110]⟩) ++ fixed) := Lib.hid rfl
  have HNl : Hid ((named G).length = (elems G (toL ⟨#[67, 111, 110, 110, 101, 99, 116, 105, 111, 110]⟩)).length + 7) := Lib.hid (by unfold named; rw [List.length_append]; rfl)
  clear hG hN
  go_enter Tryd.func5, Tryd.ntmps5
  go_wp2_with fail
  refine (anchor_any _ HM.out).mono ?_
  rintro e w1 ⟨rfl, hb1⟩
  have HF1 := Lib.hid (HF.out.below hb1)
  have hF1 := HF1.out.below ((Below.refl w1.heap.size w1).alloc (Nat.le_refl _) (.cells #[] 38))
  have hsz : w1.heap.size ≤ (w1.alloc (.cells #[] 38)).heap.size := by simp
  replace HM := Lib.hid (HM.out.below hb1)
  have HB := Lib.hid hb1
  clear hb1 HF
  go_wp2_with (at_builtin; refine wpList_append_list rfl _ _ rfl w1.heap.size _ 0 [] rfl (owns_none w1 _ _ (Nat.le_refl _)) _ G rfl hF1 HN.out (by omega) hsz ?_; intro v4 w4 hown4 hg4)
  obtain ⟨hrow, hb4⟩ := copied hown4 hg4
  have HV := Lib.hid (fl_of hrow (by omega))
  replace HB := Lib.hid (below_chain HB.out hb4)
  replace HM := Lib.hid (HM.out.below hb4)
  have HL := Lib.hid (HF1.out.below hb4)
  clear hrow hb4 hown4 hg4 hF1 hsz HF1 HN
  have P1 := Lib.hid (fun w m h => PStrip.pstrip_any v4 G HG.out hle w m h)
  have P2 := Lib.hid (fun w m h => PElems7.pelems_any (.slice p G.length cap) G ⟨#[67, 111, 110, 110, 101, 99, 116, 105, 111, 110]⟩ HG.out hle w m h)
  refine (P1.out _ HM.out HV.out).mono ?_
  rintro e w5 ⟨s, rfl, r1, hb5⟩
  obtain ⟨ps, cs, rfl, _⟩ := row_form r1
  have HT := Lib.hid (fl_of r1 (by omega))
  replace HL := Lib.hid (HL.out.below hb5)
  replace HM := Lib.hid (HM.out.below hb5)
  replace HB := Lib.hid (below_chain HB.out hb5)
  clear hb5 P1 r1 HV
  go_wp2_with fail
  refine (P2.out _ HM.out HL.out).mono ?_
  rintro e w6 ⟨t, rfl, r2, hb6⟩
  have Hb6 := Lib.hid hb6
  have hrow2 := row_below r2 ((Below.refl w6.heap.size w6).alloc (Nat.le_refl _) (.cells #[.string ⟨#[99, 111, 110, 110, 101, 99, 116, 105, 111, 110]⟩, .string ⟨#[107, 101, 101, 112, 45, 97, 108, 105, 118, 101]⟩, .string ⟨#[112, 114, 111, 120, 121, 45, 99, 111, 110, 110, 101, 99, 116, 105, 111, 110]⟩, .string ⟨#[116, 101]⟩, .string ⟨#[116, 114, 97, 105, 108, 101, 114]⟩, .string ⟨#[116, 114, 97, 110, 115, 102, 101, 114, 45, 101, 110, 99, 111, 100, 105, 110, 103]⟩, .string ⟨#[117, 112, 103, 114, 97, 100, 101]⟩] 9))
  have HNw := Lib.hid (World.news_of_block (heap_alloc_new w6 (.cells #[.string ⟨#[99, 111, 110, 110, 101, 99, 116, 105, 111, 110]⟩, .string ⟨#[107, 101, 101, 112, 45, 97, 108, 105, 118, 101]⟩, .string ⟨#[112, 114, 111, 120, 121, 45, 99, 111, 110, 110, 101, 99, 116, 105, 111, 110]⟩, .string ⟨#[116, 101]⟩, .string ⟨#[116, 114, 97, 105, 108, 101, 114]⟩, .string ⟨#[116, 114, 97, 110, 115, 102, 101, 114, 45, 101, 110, 99, 111, 100, 105, 110, 103]⟩, .string ⟨#[117, 112, 103, 114, 97, 100, 101]⟩] 9)))
  have hsz6 : w5.heap.size ≤ (w6.alloc (.cells #[.string ⟨#[99, 111, 110, 110, 101, 99, 116, 105, 111, 110]⟩, .string ⟨#[107, 101, 101, 112, 45, 97, 108, 105, 118, 101]⟩, .string ⟨#[112, 114, 111, 120, 121, 45, 99, 111, 110, 110, 101, 99, 116, 105, 111, 110]⟩, .string ⟨#[116, 101]⟩, .string ⟨#[116, 114, 97, 105, 108, 101, 114]⟩, .string ⟨#[116, 114, 97, 110, 115, 102, 101, 114, 45, 101, 110, 99, 111, 100, 105, 110, 103]⟩, .string ⟨#[117, 112, 103, 114, 97, 100, 101]⟩] 9)).heap.size := by have := hb6.size; simp; omega
  clear hb6 P2 r2
  go_wp2_with (at_builtin; refine wpList_append_own_at _ rfl _ _ 30 rfl w5.heap.size 9 i0 (.string ByteArray.empty) 1 16 Tryd.underlying30 hi hz0 hz1 hz2 rfl (by omega) _ _ _ rfl hrow2 ⟨w6.heap.size, 0, none⟩ 7 7 fixedCells rfl rfl HNw.out (by intro u hu; rw [← fixed_strs] at hu; exact strs_cells _ u hu) (by simp only [maxLen]; omega) (by omega) hsz6 ?_; intro v7 w7 hown7 hg7 _ hat7; obtain ⟨p7, cap7, rfl, _⟩ := row_form hown7)
  have hr7 : w7.ownsRow w5.heap.size 9 1 (.slice p7 ((elems G (toL ⟨#[67, 111, 110, 110, 101, 99, 116, 105, 111, 110]⟩)).length + 7) cap7) (named G).length (strs (named G)) := by
    rw [HNl.out, HNm.out, strs_append, fixed_strs]
    exact hown7
  have HTx := Lib.hid (texts_of hr7)
  have hlt2 := fun j (hj : t.ownBlock = some j) => (hrow2.lt j hj).1
  have hb7 : Below w5.heap.size w5 w7 := (Hb6.out.alloc Hb6.out.size (.cells #[.string ⟨#[99, 111, 110, 110, 101, 99, 116, 105, 111, 110]⟩, .string ⟨#[107, 101, 101, 112, 45, 97, 108, 105, 118, 101]⟩, .string ⟨#[112, 114, 111, 120, 121, 45, 99, 111, 110, 110, 101, 99, 116, 105, 111, 110]⟩, .string ⟨#[116, 101]⟩, .string ⟨#[116, 114, 97, 105, 108, 101, 114]⟩, .string ⟨#[116, 114, 97, 110, 115, 102, 101, 114, 45, 101, 110, 99, 111, 100, 105, 110, 103]⟩, .string ⟨#[117, 112, 103, 114, 97, 100, 101]⟩] 9)).grown hg7 hsz6 hlt2
  replace HL := Lib.hid (HL.out.below hb7)
  replace HT := Lib.hid (HT.out.below hb7)
  replace HM := Lib.hid (HM.out.below hb7)
  replace HB := Lib.hid (below_chain HB.out hb7)
  have hNl := HNl.out
  clear hb7 hlt2 hr7 hown7 hg7 hat7 hsz6 HNw hrow2 Hb6 HNl HNm
  generalize named G = N at *
  rw [← hNl]
  have hNi : (((elems G (toL ⟨#[67, 111, 110, 110, 101, 99, 116, 105, 111, 110]⟩)).length : Nat) : Int) + 7 = ((N.length : Nat) : Int) := by omega
  try rw [hNi]
  clear hNi hNl
  generalize (elems G (toL ⟨#[67, 111, 110, 110, 101, 99, 116, 105, 111, 110]⟩)).length = e7 at *
  have HX := Lib.hid (strip_sub G)
  have HY := Lib.hid (strip_strip G)
  generalize strip G = S at *
  have HNg := Lib.hid hng
  have hNle : N.length ≤ 9223372036854775807 := by obtain ⟨_, _, _, h, _⟩ := HTx.out; exact h
  clear hng hel
  have HB7 := Lib.hid (Below.refl w7.heap.size w7)
  go_loopw [24] (fun i wr => ∃ k : Nat, k ≤ N.length ∧ i = .int .i64 k ∧ Hid (Below w7.heap.size w7 wr)) (fun i _ => N.length - (intOf i).toNat)
  case atStart => exact ⟨0, Nat.zero_le _, rfl, HB7⟩
  case round =>
    obtain ⟨k, hk, rfl, HBr⟩ := hrel
    clear HB7
    by_cases hlt : k < N.length
    · have hki : (k : Int) < (N.length : Int) := by omega
      obtain ⟨p', c', hv', _, hc⟩ := HTx.out.below HBr.out
      injection hv' with e1 _ e3
      subst e1 e3
      obtain ⟨g, o, rfl, hgl, hcell⟩ := hc (by omega)
      have c1 := hcell k hlt
      have HP := Lib.hid (PGet.pget_any (.slice ps S.length cs) S (ofL N[k]) HS.out wr (HT.out.below HBr.out))
      rw [toL_ofL, HNg.out k hlt] at HP
      generalize ofL (getV S N[k]) = X at *
      generalize ofL N[k] = E at *
      clear hc hcell
      go_wp2_with fail
      refine HP.out.mono ?_
      rintro e w8 ⟨rfl, hb8⟩
      have HB8 := Lib.hid (below_chain HBr.out hb8)
      clear hb8 HP HBr c1
      go_wp2_with fail
      go_roundw
      case rel => exact ⟨k + 1, by omega, by go_num, HB8⟩
      case measure => simp [intOf]; omega
    · replace HL := Lib.hid (HL.out.below HBr.out)
      replace HT := Lib.hid (HT.out.below HBr.out)
      replace HM := Lib.hid (HM.out.below HBr.out)
      replace HB := Lib.hid (below_chain HB.out HBr.out)
      clear HBr HTx HNg
      generalize wr = wz at *
      go_wp2_with fail
      have HB0 := Lib.hid (Below.refl wz.heap.size wz)
      go_loopw [9, 39] (fun a i wq => ∃ i0 : Nat, ∃ j : Nat, i0 ≤ G.length ∧ j ≤ S.length ∧ i = .int .i64 i0 ∧ a = .int .i64 j ∧ Hid ((S.drop j).Sublist (G.drop i0)) ∧ Hid (Below wz.heap.size wz wq)) (fun _ i _ => G.length - (intOf i).toNat)
      case atStart => exact ⟨0, 0, Nat.zero_le _, Nat.zero_le _, rfl, rfl, HX, HB0⟩
      case round =>
        obtain ⟨i1, j, hi1, hj1, rfl, rfl, hsub, HBq⟩ := hrel
        clear HB0
        by_cases hlt2 : i1 < G.length
        · obtain ⟨_, _, hv1, _, hc1⟩ := HL.out.below HBq.out
          injection hv1 with a1 _ a3
          subst a1 a3
          obtain ⟨g1, o1, rfl, hg1, hcell1⟩ := hc1 (by omega)
          obtain ⟨c1, c2⟩ := hcell1 i1 hlt2
          have hki : (i1 : Int) < (G.length : Int) := by omega
          obtain ⟨hs1, hs2⟩ := greedy_step (s := S) (l := G) (k := j) (i := i1) (f := G[i1]) (List.getElem?_eq_getElem hlt2) hsub.out
          have d := (Has.new wr 38 #[.string (ofL G[i1].1), .string (ofL G[i1].2)]).cell
          have d0 := d 0
          have d1 := d 1
          have HBa := Lib.hid (HBq.out.alloc HBq.out.size (.cells #[.string (ofL G[i1].1), .string (ofL G[i1].2)] 38))
          clear hcell1 hc1 d
          by_cases hj2 : j < S.length
          · obtain ⟨_, _, hv2, _, hc2⟩ := HT.out.below HBa.out
            injection hv2 with a1 _ a3
            subst a1 a3
            obtain ⟨g2, o2, rfl, hg2, hcell2⟩ := hc2 (by omega)
            obtain ⟨f1, f2⟩ := hcell2 j hj2
            have hkj : (j : Int) < (S.length : Int) := by omega
            have hkj2 : decide ((j : Int) < (S.length : Int)) = true := decide_eq_true hkj
            have he0 := List.getElem?_eq_getElem hj2
            clear hc2 hcell2
            by_cases he : S[j] = G[i1]
            · have HS2 := Lib.hid (hs1 (by rw [he0, he]))
              have hnq := fun w => eqlF (ofL S[j].1) (ofL S[j].2) (ofL G[i1].1) (ofL G[i1].2) true true (by rw [he]; exact beq_self_eq_true _) (by rw [he]; exact beq_self_eq_true _) w
              clear he hs1 hs2 he0
              generalize ofL G[i1].1 = s1 at *
              generalize ofL G[i1].2 = s2 at *
              generalize ofL S[j].1 = s3 at *
              generalize ofL S[j].2 = s4 at *
              go_wp2_with fail
              go_quiet (fail)
              have HBd := Lib.hid (drewN_below HBa.out nq)
              generalize ((wr.alloc (.cells #[.string s1, .string s2] 38)).drewN nq) = wf at *
              go_wp2_with fail
              go_roundw
              case rel => exact ⟨i1 + 1, j + 1, by omega, by omega, by go_num, by go_num, HS2, HBd⟩
              case measure => simp [intOf]; omega
            · have HS2 := Lib.hid (hs2 (by rw [he0]; intro h; exact he (Option.some.inj h)))
              have hd : (((ofL S[j].1).toList == (ofL G[i1].1).toList) && ((ofL S[j].2).toList == (ofL G[i1].2).toList)) = false := by
                rw [same_ofL, same_ofL]
                exact beq_eq_false_iff_ne.2 he
              have hnq : ∀ w, (binOp .eql 38 (.agg #[.string (ofL S[j].1), .string (ofL S[j].2)]) (.agg #[.string (ofL G[i1].1), .string (ofL G[i1].2)])).run Tryd.prog w = .ok (.bool false) w := fun w => by
                have := eqlF (ofL S[j].1) (ofL S[j].2) (ofL G[i1].1) (ofL G[i1].2) _ _ rfl rfl w
                rw [hd] at this
                exact this
              clear he hs1 hs2 he0 hd
              generalize ofL G[i1].1 = s1 at *
              generalize ofL G[i1].2 = s2 at *
              generalize ofL S[j].1 = s3 at *
              generalize ofL S[j].2 = s4 at *
              go_wp2_with fail
              go_quiet (fail)
              have HBd := Lib.hid (drewN_below HBa.out nq)
              generalize ((wr.alloc (.cells #[.string s1, .string s2] 38)).drewN nq) = wf at *
              go_wp2_with fail
              go_roundw
              case rel => exact ⟨i1 + 1, j, by omega, by omega, by go_num, rfl, HS2, HBd⟩
              case measure => simp [intOf]; omega
          · have HS2 := Lib.hid (hs2 (by rw [List.getElem?_eq_none (by omega)]; intro h; cases h))
            have hkj : ¬ ((j : Int) < (S.length : Int)) := by omega
            have hkj2 : decide ((j : Int) < (S.length : Int)) = false := decide_eq_false hkj
            clear hs1 hs2
            generalize ofL G[i1].1 = s1 at *
            generalize ofL G[i1].2 = s2 at *
            go_wp2_with fail
            go_quiet (fail)
            have HBd := Lib.hid (drewN_below HBa.out nq)
            generalize ((wr.alloc (.cells #[.string s1, .string s2] 38)).drewN nq) = wf at *
            go_wp2_with fail
            go_roundw
            case rel => exact ⟨i1 + 1, j, by omega, by omega, by go_num, rfl, HS2, HBd⟩
            case measure => simp [intOf]; omega
        · have hG : G.drop i1 = [] := List.drop_of_length_le (by omega)
          have hjl : j = S.length := by
            have h := hsub.out
            rw [hG] at h
            have := List.drop_eq_nil_iff.1 (List.sublist_nil.1 h)
            omega
          subst hjl
          replace HT := Lib.hid (HT.out.below HBq.out)
          replace HM := Lib.hid (HM.out.below HBq.out)
          replace HB := Lib.hid (below_chain HB.out HBq.out)
          have HP := Lib.hid (PStrip.pstrip_any (.slice ps S.length cs) S HS.out (by omega) wr HM.out HT.out)
          rw [HY.out] at HP
          clear hG hsub HBq
          go_wp2_with fail
          refine HP.out.mono ?_
          rintro e w9 ⟨s9, rfl, r9, hb9⟩
          have HT9 := Lib.hid (fl_of r9 (by omega))
          replace HT := Lib.hid (HT.out.below hb9)
          replace HB := Lib.hid (below_chain HB.out hb9)
          have ss : (S == S) = true := beq_self_eq_true _
          clear r9 hb9 HP
          go_wp2_with fail
          refine (R7Same.r7same_any _ _ _ _ _ HT9.out HT.out).mono ?_
          rintro e w10 ⟨rfl, m, rfl⟩
          rw [ss]
          have hB := drewN_below HB.out m
          go_wp2_with fail
          go_ret
          exact ⟨rfl, hB⟩
end Go.Proofs.YtgkmkkgneipabaaDoor.FieldsStrippedW
