/- Layer 8 of the program: readFields. -/
import Derived.Test.YtclecgopmegjeaaDoorPNext
import Derived.Test.YtclecgopmegjeaaDoorPField8
import Derived.Test.YtclecgopmegjeaaDoorKeptRow
namespace Go.Proofs.YtclecgopmegjeaaDoor.PFlds8
open Go.ChangeShapes Go.WideShapes Go.ChangeAt Go.RowKit LexPure Bytes Ret Rows1 FieldsPure Flds HeadPure HBox Mem KeptRow PNext PField8
set_option maxRecDepth 20000
theorem ret_fields {W w : World} {R : Res} {v : Value} {n e : Int} {l : List HField} (h2 : (resN R : Int) = n) (h3 : resE R = e) (h4 : (resH R).fields = l) (hf : RowF W w.heap.size v l) (hb : Below w.heap.size w W) :
    ∃ u, Ending.returned (.tuple #[v, .int .i64 n, .int .i64 e]) = .returned (.tuple #[u, .int .i64 (resN R), .int .i64 (resE R)]) ∧ RowF W w.heap.size u (resH R).fields ∧ Below w.heap.size w W :=
  ⟨v, by rw [h2, h3], by rw [h4]; exact hf, hb⟩
theorem field_err (l : List UInt8) : (field8 l).2 = 0 ∨ (field8 l).2 = 70 := by
  unfold field8
  split
  · exact .inl rfl
  · exact .inr rfl
theorem whole_most {most k : Nat} {over : Int} {D : List UInt8} (h : scan most over 0 D = .whole k) : k ≤ most := by
  obtain ⟨l, q, e, hk, _, hm⟩ := scan_whole _ _ _ _ _ h
  omega
theorem whole_len {most k : Nat} {over : Int} {D : List UInt8} (h : scan most over 0 D = .whole k) : k + 2 ≤ D.length := by
  obtain ⟨l, q, e, hk, _, _⟩ := scan_whole _ _ _ _ _ h
  have := congrArg List.length e
  rw [List.length_append, List.length_cons, List.length_cons] at this
  omega
set_option maxHeartbeats 1600000 in
theorem pfields_any (s : ByteArray) (hs : s.size ≤ 4611686018427387904) (w : World) :
    Calls Tryd.prog 38 #[.string s] w fun e w' => ∃ v, e = .returned (.tuple #[v, .int .i64 (resN (fields8 zero8 32 [] 0 (toL s))), .int .i64 (resE (fields8 zero8 32 [] 0 (toL s)))]) ∧ RowF w' w.heap.size v (resH (fields8 zero8 32 [] 0 (toL s))).fields ∧ Below w.heap.size w w' := by
  obtain ⟨i0, hi, hz0, hz1, hz2⟩ := info_parts infoF
  obtain ⟨X, hX⟩ : ∃ X, X = fields8 zero8 32 [] 0 (toL s) := ⟨_, rfl⟩
  rw [← hX]
  replace hX := Lib.hid hX
  have HK := Lib.hid (Kept.start w)
  go_enter Tryd.func38, Tryd.ntmps38
  go_wp2_with fail
  go_loopw [5, 6] (fun f sz wr => ∃ (a : Nat) (acc : List HField), a ≤ s.size ∧ acc.length ≤ 32 ∧ sz = .int .i64 a ∧ Hid (Kept w acc f wr) ∧ Hid (X = fields8 zero8 (32 - acc.length) acc a ((toL s).drop a))) (fun _ sz _ => s.size - (intOf sz).toNat)
  case atStart => exact ⟨0, [], Nat.zero_le _, by decide, rfl, HK, hX⟩
  case round =>
    obtain ⟨a, acc, ha, hac, rfl, HI, HR⟩ := hrel
    clear HK hX
    obtain ⟨p, cap, hv, _, _⟩ := fl_of HI.out.row (by omega)
    subst hv
    have hai : (a : Int) ≤ (s.size : Int) := by omega
    obtain ⟨D, hD⟩ : ∃ D, D = s.extract a s.size := ⟨_, rfl⟩
    have eD : toL D = (toL s).drop a := by rw [hD, toL_extract, toL_take_all s (Nat.le_refl _)]
    have lD : D.size = s.size - a := by rw [hD, ByteArray.size_extract]; omega
    have HN := Lib.hid (fun w => pnext_any D (by omega) 512 83 w)
    rw [← eD] at HR
    have hF : X = match scan 512 83 0 (toL D) with
      | .wait => .wait
      | .bad e => .bad e
      | .whole k => if k = 0 then .done { zero8 with fields := acc } (a + 2) else
        match 32 - acc.length with
        | 0 => .bad 83
        | m + 1 => if (field8 ((toL D).take k)).2 = 0 then fields8 zero8 m (acc ++ [(field8 ((toL D).take k)).1]) (a + k + 2) ((toL D).drop (k + 2)) else .bad 70 := by
      rw [HR.out]
      conv => lhs; unfold fields8
      rfl
    clear HR
    cases hsc : scan 512 83 0 (toL D) with
    | wait =>
      rw [hsc] at HN hF
      have HV : X = .wait := hF
      subst HV
      unfold lineT lineB lineE at HN
      rw [hD] at HN
      clear hF hsc eD lD hD
      go_wp2_with fail
      refine (HN.out _).mono ?_
      rintro e w' ⟨rfl, rfl⟩
      go_wp2_with fail
      go_ret3
      exact ret_fields (R := .wait) rfl rfl rfl (row_none _ _) HI.out.below
    | bad er =>
      rw [hsc] at HN hF
      have HV : X = .bad er := hF
      subst HV
      unfold lineT lineB lineE at HN
      rw [hD] at HN
      clear hF hsc eD lD hD
      go_wp2_with fail
      refine (HN.out _).mono ?_
      rintro e w' ⟨rfl, rfl⟩
      go_wp2_with fail
      go_ret3
      exact ret_fields (R := .bad er) rfl rfl rfl (row_none _ _) HI.out.below
    | whole k =>
      have hkl := whole_len hsc
      have hkm := whole_most hsc
      rw [toL_length] at hkl
      rw [hsc] at HN hF
      unfold lineT lineB lineE at HN
      dsimp only at hF HN
      by_cases hk0 : k = 0
      · rw [if_pos hk0] at hF
        subst hF
        subst hk0
        rw [hD, show ofL ((toL (s.extract a s.size)).take 0) = ⟨#[]⟩ from rfl] at HN
        have ha2 : (a : Int) + 2 ≤ (s.size : Int) := by omega
        have HL := Lib.hid (show RowF wr w.heap.size (.slice p acc.length cap) acc from ⟨HI.out.row, hac⟩)
        clear hsc eD lD hD hkl
        go_wp2_with fail
        refine (HN.out _).mono ?_
        rintro e w' ⟨rfl, rfl⟩
        go_wp2_with fail
        go_ret3
        exact ret_fields (R := .done { zero8 with fields := acc } (a + 2)) (by show ((a + 2 : Nat) : Int) = _; omega) rfl rfl HL.out HI.out.below
      · rw [if_neg hk0] at hF
        obtain ⟨LN, hLN⟩ : ∃ LN, LN = ofL ((toL D).take k) := ⟨_, rfl⟩
        have lLN : LN.size = k := by rw [hLN, ofL_size, List.length_take, toL_length]; omega
        have tLN : toL LN = (toL D).take k := by rw [hLN, toL_ofL]
        rw [← hLN, hD] at HN
        have n1 : ¬ (LN.toList = []) := by
          rw [ByteArray.toList_eq]
          intro h
          have := congrArg List.length h
          rw [show LN.data.toList.length = LN.size from toL_length LN] at this
          rw [List.length_nil] at this
          omega
        have n2 : LN.toList.isEmpty = false := by
          cases hx : LN.toList with
          | nil => exact absurd hx n1
          | cons => rfl
        have ha2 : (a : Int) + ((LN.size : Int) + 2) ≤ (s.size : Int) := by omega
        have hsi : (s.size : Int) ≤ 4611686018427387904 := by omega
        by_cases h32 : acc.length = 32
        · have HV : X = .bad 83 := by rw [hF, h32]; rfl
          subst HV
          have hj : ((acc.length : Int) == 32) = true := by rw [h32]; rfl
          clear hF hsc eD lD hD hkl hLN tLN h32
          go_wp2_with fail
          refine (HN.out _).mono ?_
          rintro e w' ⟨rfl, rfl⟩
          go_wp2_with fail
          go_ret3
          exact ret_fields (R := .bad 83) rfl rfl rfl (row_none _ _) HI.out.below
        · have hj : ((acc.length : Int) == 32) = false := beq_eq_false_iff_ne.2 (by omega)
          obtain ⟨m, hm⟩ : ∃ m, 32 - acc.length = m + 1 := ⟨31 - acc.length, by omega⟩
          rw [hm] at hF
          dsimp only at hF
          have HP := Lib.hid (fun w => pfield_any LN (by omega) w)
          rw [tLN] at HP
          have hfe := field_err ((toL D).take k)
          generalize field8 ((toL D).take k) = y at *
          obtain ⟨⟨f1, f2⟩, er⟩ := y
          dsimp only at hF
          unfold frv fv at HP
          dsimp only at HP
          replace hm := Lib.hid hm
          by_cases h9 : er = 0
          · rw [if_pos h9] at hF
            subst h9
            have tD : ((toL D).drop (k + 2)) = (toL s).drop (a + k + 2) := by rw [eD, List.drop_drop, Nat.add_assoc]
            rw [tD] at hF
            replace hF := Lib.hid hF
            clear hsc eD lD hD hLN tLN h32 hfe tD
            go_wp2_with fail
            refine (HN.out _).mono ?_
            rintro e w' ⟨rfl, rfl⟩
            go_wp2_with fail
            refine (HP.out _).mono ?_
            rintro e w3 ⟨rfl, hb3⟩
            have HK1 := Lib.hid (((HI.out.call hb3).alloc (.cells #[.string (ofL f1), .string (ofL f2)] 37)).alloc (.cells #[.string (ofL f1), .string (ofL f2)] 37))
            have HW := World.news_of_block (heap_alloc_new (w3.alloc (.cells #[.string (ofL f1), .string (ofL f2)] 37)) (.cells #[.string (ofL f1), .string (ofL f2)] 37))
            rw [show (w3.alloc (.cells #[.string (ofL f1), .string (ofL f2)] 37)).heap.size = w3.heap.size + 1 by simp] at HW
            replace HW := Lib.hid HW
            have hrow := HK1.out.row
            have hsz := HK1.out.below.size
            clear hb3
            go_wp2_with (at_builtin; refine wpList_append_own_at _ rfl (.tmp 42) (.tmp 44) 23 rfl w.heap.size 37 i0 _ 2 32 Tryd.underlying23 hi hz0 hz1 hz2 rfl (by omega) _ _ _ rfl hrow ⟨w3.heap.size + 1, 0, none⟩ 1 1 (encF (f1, f2)) rfl rfl HW.out (by simp [encF, Value.oneCell']) (by simp only [maxLen]; omega) (by omega) hsz ?_; intro v4 w4 hown4 hg4 _ hat4)
            have HK3 : Hid (Kept w (acc ++ [(f1, f2)]) v4 w4) := Lib.hid (by
              refine ⟨?_, Below.grown HK1.out.below hg4 HK1.out.below.size HK1.out.lt⟩
              rw [encFs_append, List.length_append]
              exact hown4)
            clear hown4 hg4 hat4 hrow
            go_wp2_with fail
            go_roundw
            case rel => exact ⟨a + k + 2, acc ++ [(f1, f2)], by omega, by rw [List.length_append, List.length_singleton]; have := hm.out; omega, by go_num, HK3, Lib.hid (by rw [hF.out, List.length_append, List.length_singleton, show 32 - (acc.length + 1) = m by have := hm.out; omega])⟩
            case measure => simp [intOf]; omega
          · rw [if_neg h9] at hF
            have h7 : (er != 0) = true := bne_iff_ne.2 h9
            have h70 : er = 70 := hfe.resolve_left h9
            subst h70
            subst hF
            clear hsc eD lD hD hkl hLN tLN h32 h9 hfe
            go_wp2_with fail
            refine (HN.out _).mono ?_
            rintro e w' ⟨rfl, rfl⟩
            go_wp2_with fail
            refine (HP.out _).mono ?_
            rintro e w3 ⟨rfl, hb3⟩
            go_wp2_with fail
            go_ret3
            exact ret_fields (R := .bad 70) rfl rfl rfl (row_none _ _) (below_chain (below_chain HI.out.below hb3) ((Below.refl _ _).alloc (Nat.le_refl _) _))
end Go.Proofs.YtclecgopmegjeaaDoor.PFlds8
