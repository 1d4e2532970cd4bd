/- Texts of this seat, one behind another: OutflowReuseW. -/

import Derived.Test.YtggmafmebocoaaaGreatDoorB
/- A connection is called reusable only where the response has ended, nothing is left and the server goes on: OutflowReuse returns true. -/
namespace Go.Proofs.YtggmafmebocoaaaGreatDoor.OutflowReuseW
open Go.ChangeShapes Go.WideShapes Go.ChangeAt Go.RowKit Bytes LexPure Ret FieldsPure HeadPure OutPure OutBox OutObj POutUse L12Read L12Anchor PLib Mem Step
set_option maxRecDepth 100000
set_option linter.unusedVariables false
set_option linter.unusedSimpArgs false
theorem step_gone (meth : List UInt8) (s : St) : (stepO meth s).2.2.2.gone = s.gone := by
  unfold stepO
  split
  · split
    · rfl
    · rfl
    · split <;> rfl
  · split <;> rfl
  · split
    · rfl
    · split <;> rfl
  · split <;> rfl
  · rfl
  · rfl
  · rfl
theorem next_gone (meth : List UInt8) (s : St) : (nextO meth s).2.2.gone = s.gone := by
  unfold nextO
  split
  · exact step_gone meth s
  · exact step_gone meth s
theorem reuse_parts {s : St} (h : reuseO s = true) : doneM s.md = true ∧ (s.kind == 5) = false ∧ s.data = [] ∧ ∀ more : ByteArray, (feedO s (toL more)).data = toL more ∧ reuseO (feedO s (toL more)) = more.toList.isEmpty ∧ reuseO (endO { feedO s (toL more) with data := [] }) = false := by
  unfold reuseO at h
  simp only [Bool.and_eq_true, decide_eq_true_eq, Bool.not_eq_true'] at h
  obtain ⟨hk, ⟨⟨h1, h2⟩, h3⟩, h4⟩ := h
  have hd : s.data = [] := List.length_eq_zero_iff.1 h3
  refine ⟨h1, by rw [beq_eq_false_iff_ne]; omega, hd, fun more => ?_⟩
  have hf : feedO s (toL more) = { s with data := toL more } := by unfold feedO; rw [if_neg (by rw [h4]; decide), hd]; rfl
  rw [hf]
  refine ⟨rfl, ?_, ?_⟩
  · unfold reuseO
    dsimp only
    rw [decide_eq_true hk, h1, h2, h4]
    rw [ByteArray.toList_eq]
    show (true && (true && true && decide ((toL more).length = 0) && true)) = (toL more).isEmpty
    cases toL more with
    | nil => rfl
    | cons c r => simp
  · unfold reuseO endO
    simp
set_option maxHeartbeats 6400000 in
theorem walkIn (meth data more : ByteArray) (hmore : more.size ≤ 140737488351232) (w : World) (hm : MaxInt w) :
    Calls Tryz.prog 5 #[.string meth, .string data, .string more] w fun e w' => e = .returned (.bool true) ∧ Below w.heap.size w w' := by
  have HA := Lib.hid (anchor_any w hm)
  replace hm := Lib.hid hm
  by_cases hd : data.size ≤ 20000
  · have hdi : ¬ (20000 : Int) < (data.size : Int) := by omega
    have hmb : (more.toList.isEmpty = true ∧ more.toList = []) ∨ (more.toList.isEmpty = false ∧ ¬ more.toList = []) := by
      cases hx : more.toList with
      | nil => exact .inl ⟨rfl, rfl⟩
      | cons c r => exact .inr ⟨rfl, fun h => by cases h⟩
    go_enter Tryz.func5, Tryz.ntmps5
    go_wp2_with fail
    refine HA.out.mono ?_
    rintro e w1 ⟨rfl, hb1⟩
    have HN := Lib.hid (new_any meth hb1)
    clear HA hb1
    go_wp2_with fail
    refine HN.out.mono ?_
    rintro e w2 ⟨g, rfl, hO⟩
    have HF := Lib.hid (hO.feed data (by show 0 + data.size ≤ _; omega))
    clear HN hO
    go_wp2_with fail
    refine HF.out.mono ?_
    rintro e w3 ⟨rfl, hO⟩
    have HX : Hid (OF w w3 g meth (feedO st0 (toL data)) ∧ (feedO st0 (toL data)).gone = false ∧ (feedO st0 (toL data)).data.length ≤ 20000) := Lib.hid ⟨hO, rfl, by show (toL data).length ≤ _; rw [toL_length]; exact hd⟩
    clear HF hO
    go_wp2_with fail
    go_loopw [8] (fun i wr => ∃ (n : Nat) (s : St), n ≤ 30000 ∧ i = .int .i64 n ∧ Hid (OF w wr g meth s ∧ s.gone = false ∧ s.data.length ≤ 20000)) (fun i _ => 30000 - (intOf i).toNat)
    case atStart => exact ⟨0, _, by omega, rfl, HX⟩
    case round =>
      obtain ⟨n, s, hn, rfl, HI⟩ := hrel
      clear HX
      by_cases hlt : n < 30000
      · have hni : (n : Int) < 30000 := by omega
        have HNx := Lib.hid (HI.out.1.next hm.out (by have := HI.out.2.2; omega))
        go_wp2_with fail
        refine HNx.out.mono ?_
        rintro e w4 ⟨K, H, d, er, p0, cap0, rfl, hNx, hO⟩
        have HI2 : Hid (OF w (w4.alloc (.cells #[.int .i64 K, .string (ofL H.method), .string (ofL H.target), .int .i64 H.status, .string (ofL H.reason), .int .i64 H.minor, .slice p0 H.fields.length cap0, .string (ofL d)] PT)) g meth (nextO (toL meth) s).2.2 ∧ (nextO (toL meth) s).2.2.gone = false ∧ (nextO (toL meth) s).2.2.data.length ≤ 20000) := Lib.hid ⟨hO.out.alloc _, by rw [next_gone]; exact HI.out.2.1, by have := next_bulk (toL meth) s; have := HI.out.2.2; omega⟩
        clear HNx hNx hO HI
        dsimp only
        iterate 18 go_step
        generalize w4.alloc (.cells #[.int .i64 K, .string (ofL H.method), .string (ofL H.target), .int .i64 H.status, .string (ofL H.reason), .int .i64 H.minor, .slice p0 H.fields.length cap0, .string (ofL d)] PT) = W4 at HI2 ⊢
        generalize w4.heap.size = b4
        generalize (nextO (toL meth) s).2.2 = s' at HI2
        cases hK : (K != 0) with
        | true =>
          go_wp2_with fail
          exact ⟨⟨n + 1, s', by omega, by simp, HI2⟩, by simp [intOf]; omega⟩
        | false =>
          have HI := HI2
          clear HI2 hlt hni
          rcases hmb with ⟨m1, m2⟩ | ⟨m1, m2⟩
          all_goals
            have HRu := Lib.hid (HI.out.1.reuse (by have := HI.out.2.2; omega))
            cases hru : reuseO s' with
            | false =>
              rw [hru] at HRu
              clear HI hru
              go_wp2_with fail
              refine HRu.out.mono ?_
              rintro e w5 ⟨rfl, hO⟩
              have HB := Lib.hid hO.below
              clear HRu hO
              go_wp2_with fail
              go_ret
              exact ⟨rfl, HB.out⟩
            | true =>
              rw [hru] at HRu
              obtain ⟨f1, f2, f3, f4⟩ := reuse_parts hru
              have f1 := Lib.hid f1
              have f2 := Lib.hid f2
              have f3 := Lib.hid f3
              have f4 := Lib.hid f4
              clear HI hru
              go_wp2_with fail
              refine HRu.out.mono ?_
              rintro e w5 ⟨rfl, hO⟩
              have HE := Lib.hid hO.ended
              rw [f1.out] at HE
              have HT := Lib.hid hO.tunnel
              rw [f2.out] at HT
              have HL := Lib.hid (hO.len (by rw [f3.out]; decide))
              rw [f3.out] at HL
              clear HRu hO
              go_wp2_with fail
              refine HE.out.mono ?_
              rintro e w6 ⟨rfl, rfl⟩
              clear HE
              go_wp2_with fail
              refine HT.out.mono ?_
              rintro e w7 ⟨rfl, rfl⟩
              clear HT
              go_wp2_with fail
              refine HL.out.mono ?_
              rintro e w8 ⟨rfl, hO⟩
              have HF := Lib.hid (hO.feed more (by rw [f3.out, List.length_nil]; omega))
              clear HL hO
              go_wp2_with fail
              refine HF.out.mono ?_
              rintro e w9 ⟨rfl, hO⟩
              obtain ⟨g1, g2, g3⟩ := f4.out more
              have HR2 := Lib.hid (hO.reuse (by rw [g1, toL_length]; omega))
              rw [g2] at HR2
              have g1 := Lib.hid g1
              have g3 := Lib.hid g3
              clear HF hO g2
              go_wp2_with fail
              refine HR2.out.mono ?_
              rintro e w10 ⟨rfl, hO⟩
              have HL2 := Lib.hid (hO.len (by rw [g1.out, toL_length]; omega))
              rw [g1.out, toL_length] at HL2
              clear HR2 hO
              go_wp2_with fail
              refine HL2.out.mono ?_
              rintro e w11 ⟨rfl, hO⟩
              have HRs := Lib.hid (hO.rest (by rw [g1.out, toL_length]; omega))
              rw [g1.out, ofL_toL] at HRs
              clear HL2 hO
              go_wp2_with fail
              refine HRs.out.mono ?_
              rintro e w12 ⟨rfl, hO⟩
              have HL3 := Lib.hid (hO.len (by dsimp only; decide))
              clear HRs hO
              dsimp only [List.length_nil] at HL3
              go_wp2_with fail
              refine HL3.out.mono ?_
              rintro e w13 ⟨rfl, hO⟩
              have HEn := Lib.hid hO.fin
              clear HL3 hO
              go_wp2_with fail
              refine HEn.out.mono ?_
              rintro e w14 ⟨rfl, hO⟩
              have HR4 := Lib.hid (hO.reuse (by show ([] : List UInt8).length ≤ _; decide))
              rw [g3.out] at HR4
              clear HEn hO
              go_wp2_with fail
              refine HR4.out.mono ?_
              rintro e w15 ⟨rfl, hO⟩
              have HB := Lib.hid hO.below
              clear HR4 hO
              go_wp2_with fail
              go_ret
              exact ⟨rfl, HB.out⟩
      · have hni : ¬ (n : Int) < 30000 := by omega
        rcases hmb with ⟨m1, m2⟩ | ⟨m1, m2⟩
        all_goals
          have HRu := Lib.hid (HI.out.1.reuse (by have := HI.out.2.2; omega))
          cases hru : reuseO s with
          | false =>
            rw [hru] at HRu
            clear HI hru
            go_wp2_with fail
            refine HRu.out.mono ?_
            rintro e w5 ⟨rfl, hO⟩
            have HB := Lib.hid hO.below
            clear HRu hO
            go_wp2_with fail
            go_ret
            exact ⟨rfl, HB.out⟩
          | true =>
            rw [hru] at HRu
            obtain ⟨f1, f2, f3, f4⟩ := reuse_parts hru
            have f1 := Lib.hid f1
            have f2 := Lib.hid f2
            have f3 := Lib.hid f3
            have f4 := Lib.hid f4
            clear HI hru
            go_wp2_with fail
            refine HRu.out.mono ?_
            rintro e w5 ⟨rfl, hO⟩
            have HE := Lib.hid hO.ended
            rw [f1.out] at HE
            have HT := Lib.hid hO.tunnel
            rw [f2.out] at HT
            have HL := Lib.hid (hO.len (by rw [f3.out]; decide))
            rw [f3.out] at HL
            clear HRu hO
            go_wp2_with fail
            refine HE.out.mono ?_
            rintro e w6 ⟨rfl, rfl⟩
            clear HE
            go_wp2_with fail
            refine HT.out.mono ?_
            rintro e w7 ⟨rfl, rfl⟩
            clear HT
            go_wp2_with fail
            refine HL.out.mono ?_
            rintro e w8 ⟨rfl, hO⟩
            have HF := Lib.hid (hO.feed more (by rw [f3.out, List.length_nil]; omega))
            clear HL hO
            go_wp2_with fail
            refine HF.out.mono ?_
            rintro e w9 ⟨rfl, hO⟩
            obtain ⟨g1, g2, g3⟩ := f4.out more
            have HR2 := Lib.hid (hO.reuse (by rw [g1, toL_length]; omega))
            rw [g2] at HR2
            have g1 := Lib.hid g1
            have g3 := Lib.hid g3
            clear HF hO g2
            go_wp2_with fail
            refine HR2.out.mono ?_
            rintro e w10 ⟨rfl, hO⟩
            have HL2 := Lib.hid (hO.len (by rw [g1.out, toL_length]; omega))
            rw [g1.out, toL_length] at HL2
            clear HR2 hO
            go_wp2_with fail
            refine HL2.out.mono ?_
            rintro e w11 ⟨rfl, hO⟩
            have HRs := Lib.hid (hO.rest (by rw [g1.out, toL_length]; omega))
            rw [g1.out, ofL_toL] at HRs
            clear HL2 hO
            go_wp2_with fail
            refine HRs.out.mono ?_
            rintro e w12 ⟨rfl, hO⟩
            have HL3 := Lib.hid (hO.len (by dsimp only; decide))
            clear HRs hO
            dsimp only [List.length_nil] at HL3
            go_wp2_with fail
            refine HL3.out.mono ?_
            rintro e w13 ⟨rfl, hO⟩
            have HEn := Lib.hid hO.fin
            clear HL3 hO
            go_wp2_with fail
            refine HEn.out.mono ?_
            rintro e w14 ⟨rfl, hO⟩
            have HR4 := Lib.hid (hO.reuse (by show ([] : List UInt8).length ≤ _; decide))
            rw [g3.out] at HR4
            clear HEn hO
            go_wp2_with fail
            refine HR4.out.mono ?_
            rintro e w15 ⟨rfl, hO⟩
            have HB := Lib.hid hO.below
            clear HR4 hO
            go_wp2_with fail
            go_ret
            exact ⟨rfl, HB.out⟩
  · have hdi : (20000 : Int) < (data.size : Int) := by omega
    go_enter Tryz.func5, Tryz.ntmps5
    go_wp2_with fail
    refine HA.out.mono ?_
    rintro e w1 ⟨rfl, hb1⟩
    have HB := Lib.hid hb1
    clear HA hb1
    go_wp2_with fail
    go_ret
    exact ⟨rfl, HB.out⟩
theorem walk (meth : ByteArray) (_w1 : meth.size ≤ maxLen) (_z1 : meth.size ≤ 140737488351232) (data : ByteArray) (_w2 : data.size ≤ maxLen) (_z2 : data.size ≤ 140737488351232) (more : ByteArray) (_w3 : more.size ≤ maxLen) (z3 : more.size ≤ 140737488351232) (W : World) (hsh : W.ShapedOpen Tryz.prog) :
    Calls Tryz.prog 5 #[.string meth, .string data, .string more] W fun e W' => e = .returned (.bool true) ∧ Below W.heap.size W W' := walkIn meth data more z3 W (MaxInt.of_shape hsh)
end Go.Proofs.YtggmafmebocoaaaGreatDoor.OutflowReuseW
