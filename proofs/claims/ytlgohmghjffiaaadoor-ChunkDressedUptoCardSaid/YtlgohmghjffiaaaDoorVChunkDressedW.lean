/- Noughts ahead of a size, extensions and trailers change nothing of the body that is read: ChunkDressed returns true. -/
import Derived.Test.YtlgohmghjffiaaaDoorChAnchor
import Derived.Test.YtlgohmghjffiaaaDoorSArg
import Derived.Test.YtlgohmghjffiaaaDoorR10Enc
import Derived.Test.YtlgohmghjffiaaaDoorQChunkDressed
import Derived.Deep.QuietTactic
import Derived.BigQuiet
import Derived.Laws.DeepStrings4
namespace Go.Proofs.YtlgohmghjffiaaaDoor.ChunkDressedW
open Go.ChangeShapes Go.WideShapes Go.ChangeAt Go.RowKit Bytes LexPure Ret Rows1 Texts ChunkPure ChunkHex ChunkText ChunkObj Held10 ChAnchor SArg R10Enc ChunkDress RTrim Mem Step
set_option maxRecDepth 100000
theorem ext_at (c : UInt8) : (extB c = true ∧ ((c.toNat : Int) = 9 ∨ (¬ (c.toNat : Int) = 9 ∧ ¬ (c.toNat : Int) < 32 ∧ ¬ 126 < (c.toNat : Int)))) ∨ (extB c = false ∧ ¬ (c.toNat : Int) = 9 ∧ ((c.toNat : Int) < 32 ∨ (¬ (c.toNat : Int) < 32 ∧ 126 < (c.toNat : Int)))) := by
  have := all_bytes (p := fun c => decide ((extB c = true ∧ ((c.toNat : Int) = 9 ∨ (¬ (c.toNat : Int) = 9 ∧ ¬ (c.toNat : Int) < 32 ∧ ¬ 126 < (c.toNat : Int)))) ∨ (extB c = false ∧ ¬ (c.toNat : Int) = 9 ∧ ((c.toNat : Int) < 32 ∨ (¬ (c.toNat : Int) < 32 ∧ 126 < (c.toNat : Int)))))) (by decide +kernel) c
  exact of_decide_eq_true this
theorem trailers_len (e : List UInt8) : ∀ j, (trailers e j).length ≤ j * (e.length + 5)
  | 0 => Nat.zero_le _
  | j + 1 => by
    unfold trailers
    have h1 := trailers_len e j
    have h2 := trailer_len e
    rw [List.length_append, List.length_append, Nat.succ_mul]
    simp only [List.length_cons, List.length_nil]
    omega
/-- what is written so far -/
structure DrS (A B : ByteArray) : Prop where
  dr : Dr (toL A) (toL B)
  b : B.size ≤ 24095
  a : A.size ≤ 53 * B.size
theorem DrS.start : DrS ⟨#[]⟩ ⟨#[]⟩ := ⟨Dr.start, Nat.zero_le _, Nat.le_refl _⟩
set_option maxHeartbeats 6400000 in
theorem walkIn (v : Value) (T : List (List UInt8)) (hT : ∀ t ∈ T, t.length ≤ 1048576) (nn : Int) (ext : ByteArray) (hext : ext.size ≤ 1048576) (nt : Int) (w : World) (hV : Texts w v T) (hm : Fit w) :
    Calls Tryd.prog 6 #[v, .int .i64 nn, .string ext, .int .i64 nt] w fun e w' => e = .returned (.bool true) ∧ Below w.heap.size w w' := by
  have HA := Lib.hid (anchor_any w hm)
  have HM := Lib.hid hm
  obtain ⟨p, cap, rfl, hle, hcl⟩ := hV
  replace hcl := Lib.hid hcl
  replace hT := Lib.hid hT
  clear hm
  go_enter Tryd.func6, Tryd.ntmps6
  go_wp2_with fail
  refine HA.out.mono ?_
  rintro e w1 ⟨rfl, hb1⟩
  have HB := Lib.hid hb1
  clear HA hb1
  go_wp2_with fail
  have HX : Hid (((toL ext).take 0).all extB = true ∧ Below w.heap.size w w1) := Lib.hid ⟨rfl, HB.out⟩
  clear HB
  go_loopw [25] (fun i wr => ∃ k : Nat, k ≤ ext.size ∧ i = .int .i64 k ∧ Hid (((toL ext).take k).all extB = true ∧ Below w.heap.size w wr)) (fun i _ => ext.size - (intOf i).toNat)
  case atStart => exact ⟨0, Nat.zero_le _, rfl, HX⟩
  case round =>
    obtain ⟨k, hk, rfl, HI⟩ := hrel
    clear HX
    by_cases hlt : k < ext.size
    · have hki : (k : Int) < (ext.size : Int) := by omega
      have hs := toL_take_succ ext k hlt
      rcases ext_at ext[k] with ⟨h1, h2⟩ | ⟨h1, h2, h3⟩
      · have HJ : Hid (((toL ext).take (k + 1)).all extB = true ∧ Below w.heap.size w wr) := Lib.hid ⟨by rw [hs, List.all_append, HI.out.1]; simp [h1], HI.out.2⟩
        clear hs h1 HI
        rcases h2 with h2 | ⟨h2, h3, h4⟩
        · go_wp2_with fail
          exact ⟨⟨k + 1, by omega, by go_num, HJ⟩, by simp [intOf]; omega⟩
        · go_wp2_with fail
          exact ⟨⟨k + 1, by omega, by go_num, HJ⟩, by simp [intOf]; omega⟩
      · have HB := Lib.hid HI.out.2
        clear hs h1 HI
        rcases h3 with h3 | ⟨h3, h4⟩
        · go_wp2_with fail
          go_ret
          exact ⟨rfl, HB.out⟩
        · go_wp2_with fail
          go_ret
          exact ⟨rfl, HB.out⟩
    · have hki : ¬ (k : Int) < (ext.size : Int) := by omega
      obtain ⟨hall, hbw⟩ := HI.out
      rw [toL_take_all ext (by omega)] at hall
      have HB := Lib.hid hbw
      have HX := Lib.hid hall
      clear HI hall hbw
      rcases Int.lt_or_le nn 0 with n1 | n1
      · go_wp2_with fail
        go_ret
        exact ⟨rfl, HB.out⟩
      rcases Int.lt_or_le 4 nn with n2 | n2
      · go_wp2_with fail
        go_ret
        exact ⟨rfl, HB.out⟩
      rcases Int.lt_or_le 40 (ext.size : Int) with n3 | n3
      · go_wp2_with fail
        go_ret
        exact ⟨rfl, HB.out⟩
      rcases Int.lt_or_le nt 0 with n4 | n4
      · go_wp2_with fail
        go_ret
        exact ⟨rfl, HB.out⟩
      rcases Int.lt_or_le 32 nt with n5 | n5
      · go_wp2_with fail
        go_ret
        exact ⟨rfl, HB.out⟩
      obtain ⟨z, rfl⟩ : ∃ z : Nat, nn = z := ⟨nn.toNat, by omega⟩
      obtain ⟨y, rfl⟩ : ∃ y : Nat, nt = y := ⟨nt.toNat, by omega⟩
      go_wp2_with fail
      have HY : Hid (DrS ⟨#[]⟩ ⟨#[]⟩ ∧ Below w.heap.size w wr) := Lib.hid ⟨DrS.start, HB.out⟩
      clear HB n1 n4 hk hlt hki hext
      go_loopw [10, 11, 66] (fun a b i wr => ∃ (k : Nat) (A B : ByteArray), k ≤ T.length ∧ i = .int .i64 k ∧ a = .string A ∧ b = .string B ∧ Hid (DrS A B ∧ Below w.heap.size w wr)) (fun _ _ i _ => T.length - (intOf i).toNat)
      case atStart => exact ⟨0, ⟨#[]⟩, ⟨#[]⟩, Nat.zero_le _, rfl, rfl, rfl, HY⟩
      case round =>
        obtain ⟨k, A, B, hk, rfl, rfl, rfl, HI⟩ := hrel
        clear HY
        by_cases hlt : k < T.length
        · obtain ⟨gp, o, rfl, hgl, hcell⟩ := hcl.out (by omega)
          have hki : (k : Int) < (T.length : Int) := by omega
          have htk := hT.out T[k] (List.getElem_mem hlt)
          obtain ⟨hW, hbw⟩ := HI.out
          have d1 := (hbw.cell (p := ⟨gp, o + k, none⟩) hgl).trans (hcell k hlt)
          obtain ⟨V, hV⟩ : ∃ V, V = ofL T[k] := ⟨_, rfl⟩
          have tV : toL V = T[k] := by rw [hV, toL_ofL]
          have sV : V.size = T[k].length := by rw [hV, ofL_size]
          rw [← hV] at d1
          clear hcell
          by_cases h0 : T[k] = []
          · have : V = ⟨#[]⟩ := by rw [hV, h0]; rfl
            subst this
            clear hV tV sV htk h0 hW hbw
            go_wp2_with fail
            exact ⟨⟨k + 1, A, B, by omega, by go_num, rfl, rfl, HI⟩, by simp [intOf]; omega⟩
          have e1 : ¬ (V.toList = []) := by
            rw [ByteArray.toList_eq, show V.data.toList = T[k] from tV]
            exact h0
          have e2 : V.toList.isEmpty = false := by
            cases hx : V.toList with
            | nil => exact absurd hx e1
            | cons => rfl
          have e3 : (V.toList == []) = false := beq_eq_false_iff_ne.2 e1
          by_cases h4 : 4095 < V.size
          · have h4i : (4095 : Int) < (V.size : Int) := by omega
            clear hV tV sV htk h0 hW hbw h4
            go_wp2_with fail
            exact ⟨⟨k + 1, A, B, by omega, by go_num, rfl, rfl, HI⟩, by simp [intOf]; omega⟩
          have h4i : ¬ (4095 : Int) < (V.size : Int) := by omega
          by_cases h2 : 20000 < B.size
          · have h2i : (20000 : Int) < (B.size : Int) := by omega
            clear hV tV sV htk h0 hW hbw h4 h2
            go_wp2_with fail
            exact ⟨⟨k + 1, A, B, by omega, by go_num, rfl, rfl, HI⟩, by simp [intOf]; omega⟩
          have h2i : ¬ (20000 : Int) < (B.size : Int) := by omega
          have HR := Lib.hid (r10enc_any V (by omega) wr)
          rw [tV] at HR
          clear hV htk h4 h2
          go_wp2_with fail
          refine HR.out.mono ?_
          rintro e w2 ⟨v2, rfl, hrow, hb2⟩
          have HB2 := Lib.hid (below_chain hbw hb2)
          obtain ⟨C, hC⟩ : ∃ C, C = ofL (enc T[k]) := ⟨_, rfl⟩
          have hconv : (Go.convert 31 9 v2).run Tryd.prog w2 = .ok (.string C) w2 := by rw [hC]; exact own_string (P := Tryd.prog) hrow 31 9 Tryd.underlying31 Tryd.underlying5 Tryd.underlying9
          obtain ⟨h, hh⟩ : ∃ h, h = (hexN T[k].length).length := ⟨_, rfl⟩
          have hh3 : h ≤ 3 := by rw [hh]; exact hexN_len 2 _ (by omega)
          have eC : enc T[k] = hexN T[k].length ++ ([13, 10] ++ T[k] ++ [13, 10]) := by unfold enc; rw [if_neg h0]; simp
          have cC : C.size = h + V.size + 4 := by
            rw [hC, ofL_size, eC, hh, sV]
            simp only [List.length_append, List.length_cons, List.length_nil]
            omega
          obtain ⟨H, hH⟩ : ∃ H, C.extract 0 h = H := ⟨_, rfl⟩
          have tH : toL H = hexN T[k].length := by
            rw [← hH, toL_extract, hC, toL_ofL, eC, List.drop_zero, hh, List.take_left]
          have sH : H.size = h := by rw [← toL_length, tH, hh]
          obtain ⟨Z, hZ⟩ : ∃ Z, (⟨#[48, 48, 48, 48]⟩ : ByteArray).extract 0 z = Z := ⟨_, rfl⟩
          have tZ : toL Z = ([48, 48, 48, 48] : List UInt8).take z := by
            rw [← hZ, toL_extract, List.drop_zero]
          have sZ : Z.size ≤ 4 := by rw [← toL_length, tZ, List.length_take]; exact Nat.min_le_right _ _
          have c1 : (C.size : Int) - (V.size : Int) - 4 = (h : Int) := by omega
          have c2 : (h : Int) ≤ (C.size : Int) := by omega
          have c3 : (0 : Int) ≤ (h : Int) := by omega
          have c4 : (z : Int) ≤ 4 := n2
          have c5 : (0 : Int) ≤ (z : Int) := by omega
          have hH2 : C.extract 0 (C.size - V.size - 4) = H := by rw [show C.size - V.size - 4 = h by omega]; exact hH
          have tZ2 : ∀ c ∈ toL Z, c = 48 := fun c hc => by
            rw [tZ] at hc
            have := List.mem_of_mem_take hc
            simpa using this
          have hN : Hid (DrS (A ++ (Z ++ H ++ ⟨#[59]⟩ ++ ext ++ ⟨#[13, 10]⟩ ++ V ++ ⟨#[13, 10]⟩)) (B ++ V)) := Lib.hid (by
            refine ⟨?_, by rw [ByteArray.size_append]; omega, ?_⟩
            · have := hW.dr.more tZ2 (by rw [toL_length]; exact sZ) HX.out (by rw [toL_length]; omega) h0 (by omega)
              have e : toL (A ++ (Z ++ H ++ ⟨#[59]⟩ ++ ext ++ ⟨#[13, 10]⟩ ++ V ++ ⟨#[13, 10]⟩)) = toL A ++ (sizeLine (toL Z) (toL ext) T[k] ++ [13, 10] ++ T[k] ++ [13, 10]) := by
                simp only [toL_append, tH, tV]
                unfold sizeLine
                simp [toL]
              rw [e, toL_append, tV]
              exact this
            · have := hW.a
              have hp : 0 < T[k].length := List.length_pos_iff.2 h0
              simp only [ByteArray.size_append]
              have x1 : (⟨#[59]⟩ : ByteArray).size = 1 := rfl
              have x2 : (⟨#[13, 10]⟩ : ByteArray).size = 2 := rfl
              rw [x1, x2]
              omega)
          have hWa := hW.a
          clear hrow hb2 HR HI hbw tV hh eC cC hC d1 h0 e1 e2 e3 hW sV tZ2 tZ tH
          go_wp2_with fail
          go_region
          go_wp2_with fail
          have HJ : Hid (DrS (A ++ (Z ++ H ++ ⟨#[59]⟩ ++ ext ++ ⟨#[13, 10]⟩ ++ V ++ ⟨#[13, 10]⟩)) (B ++ V) ∧ Below w.heap.size w w2.drew) := Lib.hid ⟨hN.out, HB2.out.trans ⟨rfl, rfl, rfl, Nat.le_refl _, fun _ _ => rfl⟩⟩
          exact ⟨⟨k + 1, _, _, by omega, by go_num, rfl, rfl, HJ⟩, by simp [intOf]; omega⟩
        · have hki : ¬ (k : Int) < (T.length : Int) := by omega
          obtain ⟨hW, hbw⟩ := HI.out
          have hWa := hW.a
          have hWb := hW.b
          have z1 : A.size + 3 ≤ 9223372036854775807 := by omega
          have HT := Lib.hid (fun w => rtrim_any ext (by unfold maxLen; omega) w)
          have HY : Hid (toL (A ++ ⟨#[48, 13, 10]⟩) = toL A ++ [48, 13, 10] ++ trailers (toL ext) 0 ∧ Below w.heap.size w wr) := Lib.hid ⟨by rw [toL_append]; simp [trailers, toL], hbw⟩
          replace hW := Lib.hid hW
          replace hWa := Lib.hid hWa
          replace hWb := Lib.hid hWb
          clear HI hbw hcl hT hk hlt
          go_wp2_with fail
          go_loopw [10, 15] (fun s i wr => ∃ (j : Nat) (S : ByteArray), j ≤ y ∧ i = .int .i64 j ∧ s = .string S ∧ Hid (toL S = toL A ++ [48, 13, 10] ++ trailers (toL ext) j ∧ Below w.heap.size w wr)) (fun _ i _ => y - (intOf i).toNat)
          case atStart => exact ⟨0, _, Nat.zero_le _, rfl, rfl, HY⟩
          case round =>
            obtain ⟨j, S, hj, rfl, rfl, HJ⟩ := hrel
            clear HY
            have hj32 : j ≤ 32 := by omega
            have sS : S.size ≤ 1280000 := by
              have h1 := congrArg List.length HJ.out.1
              rw [toL_length, List.length_append, List.length_append, toL_length] at h1
              have h2 := trailers_len (toL ext) j
              rw [toL_length] at h2
              have h3 : j * (ext.size + 5) ≤ 32 * 45 := Nat.mul_le_mul hj32 (by omega)
              have h4 := hWa.out
              have h5 := hWb.out
              simp only [List.length_cons, List.length_nil] at h1
              omega
            by_cases hlt : j < y
            · have hji : (j : Int) < (y : Int) := by omega
              obtain ⟨R, hR⟩ : ∃ R, R = ofL (trim (toL ext)) := ⟨_, rfl⟩
              have sR : R.size ≤ 40 := by
                rw [hR, ofL_size]
                have := trim_length (toL ext)
                rw [toL_length] at this
                omega
              have HK : ∀ w', Below w.heap.size w w' → Hid (toL (S ++ (⟨#[84, 58, 32]⟩ ++ R ++ ⟨#[13, 10]⟩)) = toL A ++ [48, 13, 10] ++ trailers (toL ext) (j + 1) ∧ Below w.heap.size w w') := fun w' hw => Lib.hid ⟨by
                unfold trailers trailer
                simp only [toL_append, HJ.out.1, hR, toL_ofL]
                simp [toL], hw⟩
              replace HK := Lib.hid HK
              rw [← hR] at HT
              have hbw := HJ.out.2
              clear HJ hR
              go_wp2_with fail
              refine (HT.out _).mono ?_
              rintro e w2 ⟨rfl, rfl⟩
              have HL := HK.out _ hbw
              clear HT HK hbw
              go_wp2_with fail
              go_roundw
              case rel => exact ⟨j + 1, _, by omega, by go_num, rfl, HL⟩
              case measure => simp [intOf]; omega
            · have hjy : j = y := by omega
              subst hjy
              have hji : ¬ (j : Int) < (j : Int) := by omega
              obtain ⟨hS, hbw⟩ := HJ.out
              obtain ⟨r1, r2, r3⟩ := dressed_say (j := j) hW.out.dr HX.out (by rw [toL_length]; omega) hj32
              rw [← hS] at r1 r2 r3
              have e0 : toL (S ++ ⟨#[13, 10]⟩) = toL S ++ [13, 10] := by rw [toL_append]
              rw [← e0] at r1 r2 r3
              rw [toL_length] at r1 r2 r3
              have lS : (toL S).length + 2 = S.size + 2 := by rw [toL_length]
              rw [lS] at r1
              have HN := Lib.hid (pnew_any (B.size : Int) (by unfold ChObj.InR; have := hW.out.b; omega) wr (HM.out.below hbw))
              have HB := Lib.hid hbw
              have s2 : (S ++ ⟨#[13, 10]⟩ : ByteArray).size ≤ 211106232532992 ∧ (S ++ ⟨#[13, 10]⟩ : ByteArray).size ≤ 140737488351232 := by
                rw [ByteArray.size_append]
                have : (⟨#[13, 10]⟩ : ByteArray).size = 2 := rfl
                omega
              have z2 : S.size + 2 ≤ 9223372036854775807 := by omega
              replace s2 := Lib.hid s2
              replace r1 := Lib.hid r1
              replace r2 := Lib.hid r2
              replace r3 := Lib.hid r3
              clear HJ hS hbw e0 lS hW hWa hWb sS HT HX
              go_wp2_with fail
              refine HN.out.mono ?_
              rintro e w3 ⟨⟨g, F, rfl, hD, hlo⟩, hb⟩
              have P := Lib.hid (DB.new hD hlo hb HB.out)
              have HF := Lib.hid (P.out.feed (S ++ ⟨#[13, 10]⟩) s2.out.1 (.inl s2.out.2) (Ok.start _) HM.out)
              rw [r1.out] at HF
              unfold ansV at HF
              dsimp only at HF
              rw [ofL_toL] at HF
              clear HN hD hlo hb HB P
              go_wp2_with fail
              refine HF.out.mono ?_
              rintro e w4 ⟨rfl, F4, P4⟩
              have HS := Lib.hid (psize_any F4 g _ r3.out ((Ok.start _).run _) w4 P4.dec)
              rw [r2.out] at HS
              have HB4 := Lib.hid P4.below
              have q1 : (B.toList == B.toList) = true := beq_self_eq_true _
              have q2 : ((S.size : Int) + 2 == (S.size : Int) + 2) = true := beq_self_eq_true _
              have q3 : ((B.size : Int) == (B.size : Int)) = true := beq_self_eq_true _
              clear HF P4 r1 r2 r3 s2
              go_wp2_with fail
              refine HS.out.mono ?_
              rintro e w5 ⟨rfl, hb5⟩
              have HB5 := Lib.hid (below_chain HB4.out hb5)
              clear hb5 HB4 HS
              go_wp2_with fail
              go_ret
              exact ⟨rfl, HB5.out⟩
theorem walk {H : Type} {enc : TypeId × Value → H} {W : World} {base : Nat} (v : Value) (d : DataW H) (p : List MemPlace) (hv : Value.okWide Tryd.prog W .any base 29 v)
    (hd : DataW.Trod enc Tryd.prog W 0 (fun _ => true) true 29 v d p) (_hl : ∀ x ∈ p, x.block < W.heap.size) (hb : Rows.uptoBulk d ≤ 1048576) (nn : Int) (_w1 : (Lit.int .i64 nn).wf = true) (ext : ByteArray) (_w2 : ext.size ≤ maxLen) (z2 : ext.size ≤ 1048576) (nt : Int) (_w3 : (Lit.int .i64 nt).wf = true) (hsh : W.ShapedOpen Tryd.prog) :
    Calls Tryd.prog 6 #[v, .int .i64 nn, .string ext, .int .i64 nt] W fun e w' => e = .returned (.bool true) ∧ Below W.heap.size W w' := by
  obtain ⟨T, hT, hlen, _⟩ := texts_upto hv hd hb
  exact walkIn v T hlen nn ext z2 nt W hT (Fit.of_shape hsh)
end Go.Proofs.YtlgohmghjffiaaaDoor.ChunkDressedW
