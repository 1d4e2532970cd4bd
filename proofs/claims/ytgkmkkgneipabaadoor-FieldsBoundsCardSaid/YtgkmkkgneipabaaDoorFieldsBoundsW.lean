/- The bounds of right fields are met: FieldsBounds returns true. -/
import Derived.Test.YtgkmkkgneipabaaDoorFLaw
import Derived.Test.YtgkmkkgneipabaaDoorPCheck7
import Derived.Test.YtgkmkkgneipabaaDoorR7Remove
import Derived.IntWalk
namespace Go.Proofs.YtgkmkkgneipabaaDoor.FieldsBoundsW
open Go.ChangeShapes Go.WideShapes Go.ChangeAt Go.RowKit LexPure Bytes Ret Rows1 FieldsPure Flds R7Get R7Remove PLib FLaw FAnchor Mem
set_option maxRecDepth 100000
set_option linter.unusedVariables false
def rep (k : Nat) (b : UInt8) : ByteArray := ofL (List.replicate k b)
theorem rep_succ (k : Nat) (b : UInt8) : rep k b ++ ⟨#[b]⟩ = rep (k + 1) b := by
  refine toL_inj ?_
  rw [toL_append]
  unfold rep
  rw [toL_ofL, toL_ofL, List.replicate_succ']
theorem rep_size (k : Nat) (b : UInt8) : (rep k b).size = k := by unfold rep; rw [ofL_size, List.length_replicate]
theorem toL_rep (k : Nat) (b : UInt8) : toL (rep k b) = List.replicate k b := toL_ofL _
set_option maxHeartbeats 4000000 in
theorem walkIn (n c : Nat) (hn1 : 1 ≤ n) (hn : n ≤ 600) (hc : c ≤ 100) (W : World) (hm : MaxInt W) :
    Calls Tryd.prog 8 #[.int .i64 (n : Int), .int .i64 (c : Int)] W fun e w' => e = .returned (.bool true) ∧ Below W.heap.size W w' := by
  have HM := Lib.hid hm
  have t1 : ¬ ((n : Int) < 1) := by omega
  have t2 : ¬ ((600 : Int) < (n : Int)) := by omega
  have t3 : ¬ ((c : Int) < 0) := by omega
  have t4 : ¬ ((100 : Int) < (c : Int)) := by omega
  have hw : IntKind.i64.wrap ((512 : Int) - (n : Int)) = (512 : Int) - (n : Int) := IntWalk.i64_in _ (by omega)
  clear hm
  go_enter Tryd.func8, Tryd.ntmps8
  go_wp2_with fail
  refine (anchor_any _ HM.out).mono ?_
  rintro e w1 ⟨rfl, hb1⟩
  have HB := Lib.hid hb1
  clear hb1 HM
  go_wp2_with fail
  clear t1 t2 t3 t4
  go_loop [5, 6] (fun x i => ∃ k : Nat, k ≤ 512 - n ∧ i = .int .i64 k ∧ x = .string (rep k 118)) (fun _ i => 512 - (intOf i).toNat)
  case atStart => exact ⟨0, Nat.zero_le _, rfl, rfl⟩
  case round =>
    obtain ⟨k, hk, rfl, rfl⟩ := hrel
    by_cases hlt : k < 512 - n
    · have hki : (k : Int) < 512 - (n : Int) := by omega
      have hs := rep_size k 118
      have hr := Lib.hid (rep_succ k 118)
      generalize hx : rep k 118 = X at *
      clear hx
      go_wp2_with fail
      go_round
      case rel => exact ⟨k + 1, by omega, by go_num, by rw [hr.out]⟩
      case measure => simp [intOf]; omega
    · have hki : ¬ ((k : Int) < 512 - (n : Int)) := by omega
      have hkm : k = 512 - n := by omega
      have hsL := rep_size k 118
      generalize hL : rep k 118 = L at *
      replace hL := Lib.hid hL
      replace hkm := Lib.hid hkm
      have hcat : L.size + 1 ≤ 9223372036854775807 := by omega
      clear hlt hk
      generalize k = m at *
      go_wp2_with fail
      go_loop [7, 8] (fun x i => ∃ k : Nat, k ≤ n ∧ i = .int .i64 k ∧ x = .string (rep k 110)) (fun _ i => n - (intOf i).toNat)
      case atStart => exact ⟨0, Nat.zero_le _, rfl, rfl⟩
      case round =>
        obtain ⟨k, hk, rfl, rfl⟩ := hrel
        by_cases hlt : k < n
        · have hki : (k : Int) < (n : Int) := by omega
          have hs := rep_size k 110
          have hr := Lib.hid (rep_succ k 110)
          generalize hx : rep k 110 = X at *
          clear hx
          go_wp2_with fail
          go_round
          case rel => exact ⟨k + 1, by omega, by go_num, by rw [hr.out]⟩
          case measure => simp [intOf]; omega
        · have hkn : k = n := by omega
          subst hkn
          have hsN := rep_size k 110
          generalize hN : rep k 110 = N at *
          replace hN := Lib.hid hN
          have hmk : m = 512 - k := hkm.out
          obtain ⟨fF, hfF⟩ : ∃ f : HField, f = (List.replicate k 110, List.replicate m 118) := ⟨_, rfl⟩
          obtain ⟨gF, hgF⟩ : ∃ f : HField, f = (List.replicate k 110, List.replicate (m + 1) 118) := ⟨_, rfl⟩
          have hf1 : encF fF = [.string N, .string L] := by rw [hfF, ← hN.out, ← hL.out]; rfl
          have hg1 : encF gF = [.string N, .string (L ++ ⟨#[118]⟩)] := by rw [hgF, ← hN.out, ← hL.out, rep_succ]; rfl
          have hrf : right fF = decide (k ≤ 512) := by
            rw [hfF]
            unfold right
            rw [token_n k hn1, value_v m, List.length_replicate, List.length_replicate, Bool.true_and, Bool.true_and]
            exact decide_eq_decide.2 ⟨fun h => by omega, fun h => by omega⟩
          have hrg : right gF = false := by
            rw [hgF]
            unfold right
            rw [token_n k hn1, value_v (m + 1), List.length_replicate, List.length_replicate, Bool.true_and, Bool.true_and]
            exact decide_eq_false (by omega)
          have hff : Few [fF] := fun j hj => by
            obtain rfl : j = 0 := by simpa using hj
            rw [hfF]
            exact ⟨by simp; omega, by simp; omega⟩
          have hgf : gF.1.length ≤ 1048576 ∧ gF.2.length ≤ 1048576 := by
            rw [hgF]
            exact ⟨by simp; omega, by simp; omega⟩
          have HF1 := Lib.hid (fl_new ((w1.alloc (.cells #[.string N, .string L] 38)).alloc (.cells #[.string N, .string (L ++ ⟨#[118]⟩)] 38)) [fF] [.string N, .string L] 1 (by rw [← hf1]; simp [encFs]) (by simp))
          have HC1 := Lib.hid (PCheck7.pcheck_any _ [fF] hff (by simp) _ HF1.out)
          rw [check_one, hrf] at HC1
          have hb0 := (((Below.refl w1.heap.size w1).alloc (Nat.le_refl _) (.cells #[.string N, .string L] 38)).alloc (by simp) (.cells #[.string N, .string (L ++ ⟨#[118]⟩)] 38)).alloc (by simp; omega) (.cells #[.string N, .string L] 38)
          have hbx := ((Has.new (w1.alloc (.cells #[.string N, .string L] 38)) 38 #[.string N, .string (L ++ ⟨#[118]⟩)]).alloc (.cells #[.string N, .string L] 38)).cell
          rw [World.size_alloc] at hbx
          have d0 := hbx 0
          have d1 := hbx 1
          have HB2 := Lib.hid (HB.out.trans (hb0.mono HB.out.size))
          clear hbx hb0 hf1 hfF hgF hmk hkm hff hrf
          obtain ⟨C1, hC1⟩ : ∃ C : Int, C = if decide (k ≤ 512) = true then 0 else 70 := ⟨_, rfl⟩
          obtain ⟨B1, hB1⟩ : ∃ B : Bool, decide ((k : Int) ≤ 512) = B := ⟨_, rfl⟩
          have hCB : (C1 == 0) = B1 := by
            rw [hC1, ← hB1]
            by_cases h : k ≤ 512
            · rw [decide_eq_true h, decide_eq_true (by omega)]; rfl
            · rw [decide_eq_false h, decide_eq_false (by omega)]; rfl
          rw [← hC1, World.size_alloc, World.size_alloc, show [fF].length = 1 from rfl] at HC1
          have hbb : (B1 != B1) = false := by cases B1 <;> rfl
          have HF2 := Lib.hid (fun (w : World) => fl_new w [gF] [.string N, .string (L ++ ⟨#[118]⟩)] 1 (by rw [← hg1]; simp [encFs]) (by simp))
          have hgfw : Few [gF] := fun j hj => by
            obtain rfl : j = 0 := by simpa using hj
            exact hgf
          have HC2 := Lib.hid (fun w => PCheck7.pcheck_any _ [gF] hgfw (by simp) _ (HF2.out w))
          rw [check_one, hrg] at HC2
          have h70 : (if false = true then (0 : Int) else 70) = 70 := rfl
          rw [h70, show [gF].length = 1 from rfl] at HC2
          clear hC1 h70 HF1 HF2 hgfw hn hn1 hsN hsL
          go_wp2_with fail
          generalize (((w1.alloc (.cells #[.string N, .string L] 38)).alloc (.cells #[.string N, .string (L ++ ⟨#[118]⟩)] 38)).alloc (.cells #[.string N, .string L] 38)) = wA at *
          generalize w1.heap.size = g0 at *
          generalize L ++ ⟨#[118]⟩ = L2 at *
          refine HC1.out.mono ?_
          rintro e w2 ⟨rfl, hb2⟩
          have hs1 := World.block_lt_of_cell? _ _ d1
          have e0 := (hb2.cell (p := ⟨g0 + 1, 0, none⟩) hs1).trans d0
          have e1 := (hb2.cell (p := ⟨g0 + 1, 1, none⟩) hs1).trans d1
          have HB3 := Lib.hid (below_chain HB2.out hb2)
          have hs2 := World.block_lt_of_cell? _ _ e1
          clear hb2 HC1 HB2 d0 d1 hs1
          go_wp2_with fail
          refine (HC2.out w2).mono ?_
          rintro e w3 ⟨rfl, hb3⟩
          have hb4 := below_chain ((Below.refl w2.heap.size w2).alloc (Nat.le_refl _) (.cells #[.string N, .string L2] 38)) hb3
          replace e0 := (hb4.cell (p := ⟨g0 + 1, 0, none⟩) hs2).trans e0
          replace e1 := (hb4.cell (p := ⟨g0 + 1, 1, none⟩) hs2).trans e1
          have HB4 := Lib.hid (below_chain HB3.out hb4)
          have hs3 := World.block_lt_of_cell? _ _ e1
          obtain ⟨i0, hi, hz0, hz1, hz2⟩ := info_parts infoF
          have HE0 := Lib.hid e0
          have HE1 := Lib.hid e1
          have HK := Lib.hid (Kept.start w3)
          clear hb3 hb4 HC2 HB3 hs2 e0 e1
          go_wp2_with fail
          go_loopw [11, 12] (fun x i wr => ∃ j : Nat, j ≤ c ∧ i = .int .i64 j ∧ Hid (Kept w3 (List.replicate j ([97], [])) x wr)) (fun _ i _ => c - (intOf i).toNat)
          case atStart => exact ⟨0, Nat.zero_le _, rfl, HK⟩
          case round =>
            obtain ⟨j, hj, rfl, HI⟩ := hrel
            clear HK
            by_cases hlt : j < c
            · have hji : (j : Int) < (c : Int) := by omega
              have HK2 := HI.out.alloc (.cells #[.string ⟨#[97]⟩, .string ⟨#[]⟩] 38)
              have HN := Lib.hid (World.news_of_block (heap_alloc_new wr (.cells #[.string ⟨#[97]⟩, .string ⟨#[]⟩] 38)))
              have hlen : (List.replicate j (([97], []) : HField)).length = j := List.length_replicate
              have HKH := Lib.hid HK2
              have hrow := HK2.row
              clear HK2
              go_wp2_with (at_builtin; refine wpList_append_own_at _ rfl (.tmp 69) (.tmp 71) 22 rfl w3.heap.size 38 i0 _ 2 32 Tryd.underlying22 hi hz0 hz1 hz2 rfl (by omega) _ _ _ rfl hrow ⟨wr.heap.size, 0, none⟩ 1 1 [.string ⟨#[97]⟩, .string ⟨#[]⟩] rfl rfl HN.out (by simp [Value.oneCell']) (by simp only [maxLen]; omega) (by omega) (by have := HKH.out.below.size; exact this) ?_; intro v4 w4 hown4 hg4 _ hat4)
              have HK3 : Hid (Kept w3 (List.replicate (j + 1) ([97], [])) v4 w4) := Lib.hid (by
                refine ⟨?_, Below.grown HKH.out.below hg4 HKH.out.below.size HKH.out.lt⟩
                rw [List.replicate_succ', encFs_append, List.length_append]
                exact hown4)
              clear hown4 hg4 hat4 hrow HKH HN HI
              go_wp2_with fail
              go_roundw
              case rel => exact ⟨j + 1, by omega, by go_num, HK3⟩
              case measure => simp [intOf]; omega
            · obtain rfl : j = c := by omega
              obtain ⟨Lr, hLr⟩ : ∃ l : List HField, l = List.replicate j ([97], []) := ⟨_, rfl⟩
              have hlen : Lr.length = j := by rw [hLr]; exact List.length_replicate
              have hfl : Few Lr := fun i hi => by
                subst hLr
                simp
              have hck : check Lr = if j ≤ 32 then 0 else 71 := by rw [hLr]; exact check_many j
              rw [← hLr] at HI
              have hrow := HI.out.row
              have HBl := Lib.hid HI.out.below
              have hfl0 := fl_of HI.out.row (by omega)
              rw [hlen] at hrow
              obtain ⟨pl, cl, hpl, _⟩ := row_form hrow
              subst hpl
              have HFl := Lib.hid hfl0
              have HRow := Lib.hid hrow
              clear hrow hfl0
              have P1 := Lib.hid (fun w h => PCheck7.pcheck_any (.slice pl j cl) Lr hfl (by omega) w h)
              have hfl2 : Few (Lr ++ [gF]) := fun i hi => by
                have hm : (Lr ++ [gF])[i] ∈ Lr ++ [gF] := List.getElem_mem hi
                rcases List.mem_append.1 hm with h | h
                · obtain ⟨i2, hi2, h2⟩ := List.mem_iff_getElem.1 h
                  rw [← h2]
                  exact hfl i2 hi2
                · rw [List.mem_singleton.1 h]
                  exact hgf
              have hcp := check_past Lr hrg
              have P2 := Lib.hid (fun w v h => PCheck7.pcheck_any v (Lr ++ [gF]) hfl2 (by simp; omega) w h)
              rw [hck] at P1
              rw [hcp] at P2
              obtain ⟨C3, hC3⟩ : ∃ C : Int, C = if j ≤ 32 then 0 else 71 := ⟨_, rfl⟩
              obtain ⟨B3, hB3⟩ : ∃ B : Bool, decide ((j : Int) ≤ 32) = B := ⟨_, rfl⟩
              have hB4 : decide ((32 : Int) < (j : Int)) = !B3 := by
                rw [← hB3]
                by_cases h : j ≤ 32
                · rw [decide_eq_true (show (j : Int) ≤ 32 by omega), decide_eq_false (by omega)]; rfl
                · rw [decide_eq_false (show ¬ (j : Int) ≤ 32 by omega), decide_eq_true (by omega)]; rfl
              have hD1 : (C3 == 0) = B3 := by
                rw [hC3, ← hB3]
                by_cases h : j ≤ 32
                · rw [if_pos h, decide_eq_true (by omega)]; rfl
                · rw [if_neg h, decide_eq_false (by omega)]; rfl
              have hD2 : (C3 == 71) = !B3 := by
                rw [hC3, ← hB3]
                by_cases h : j ≤ 32
                · rw [if_pos h, decide_eq_true (by omega)]; rfl
                · rw [if_neg h, decide_eq_false (by omega)]; rfl
              rw [← hC3] at P1
              have hb3 : (B3 != B3) = false := by cases B3 <;> rfl
              have hb4 : ((!B3) != (!B3)) = false := by cases B3 <;> rfl
              have hl2 : (Lr ++ [gF]).length = j + 1 := by rw [List.length_append, hlen]; rfl
              have he2 : encFs (Lr ++ [gF]) = encFs Lr ++ [.string N, .string L2] := by rw [encFs_append, ← hg1]; simp [encFs]
              have HL2 := Lib.hid hl2
              have HE2 := Lib.hid he2
              have hjle : j ≤ 100 := hc
              clear hC3 hck hcp hLr hfl hfl2 hgf hlt hj hc hl2 he2 hlen hg1 hrg
              go_wp2_with fail
              refine (P1.out _ HFl.out).mono ?_
              rintro e w5 ⟨rfl, hb5⟩
              replace HFl := Lib.hid (HFl.out.below hb5)
              replace HBl := Lib.hid (below_chain HBl.out hb5)
              replace HRow := Lib.hid (row_below HRow.out hb5)
              clear hb5
              go_wp2_with fail
              refine (P1.out _ HFl.out).mono ?_
              rintro e w6 ⟨rfl, hb5⟩
              replace HBl := Lib.hid (below_chain HBl.out hb5)
              replace HRow := Lib.hid (row_below HRow.out hb5)
              clear hb5 HFl P1 HI
              have e0 := (HBl.out.cell (p := ⟨g0 + 1, 0, none⟩) hs3).trans HE0.out
              have e1 := (HBl.out.cell (p := ⟨g0 + 1, 1, none⟩) hs3).trans HE1.out
              have hrow := row_below HRow.out ((Below.refl w6.heap.size w6).alloc (Nat.le_refl _) (.cells #[.string N, .string L2] 38))
              have HN2 := Lib.hid (World.news_of_block (heap_alloc_new w6 (.cells #[.string N, .string L2] 38)))
              have hsz6 : w3.heap.size ≤ (w6.alloc (.cells #[.string N, .string L2] 38)).heap.size := by have := HBl.out.size; simp; omega
              go_wp2_with (at_builtin; refine wpList_append_own_at _ rfl (.tmp 87) (.tmp 89) 22 rfl w3.heap.size 38 i0 _ 2 32 Tryd.underlying22 hi hz0 hz1 hz2 rfl (by omega) _ _ _ rfl hrow ⟨w6.heap.size, 0, none⟩ 1 1 [.string N, .string L2] rfl rfl HN2.out (by simp [Value.oneCell']) (by simp only [maxLen]; omega) (by omega) hsz6 ?_; intro v7 w7 hown7 hg7 _ hat7)
              have HF7 : Hid (FL w7 v7 (Lr ++ [gF])) := Lib.hid (fl_of (by rw [HL2.out, HE2.out]; exact hown7) (by rw [HL2.out]; omega))
              have HB7 := Lib.hid (HB4.out.trans (((HBl.out.alloc HBl.out.size (.cells #[.string N, .string L2] 38)).grown hg7 hsz6 (fun i hi => (hrow.lt i hi).1)).mono HB4.out.size))
              clear hown7 hg7 hat7 hrow HBl HRow HN2 e0 e1 hsz6
              refine (P2.out _ _ HF7.out).mono ?_
              rintro e w8 ⟨rfl, hb5⟩
              have HB8 := Lib.hid (HB7.out.trans (hb5.mono HB7.out.size))
              clear hb5 P2 HF7
              go_wp2_with fail
              go_ret
              exact ⟨rfl, HB8.out⟩
set_option maxHeartbeats 1600000 in
theorem walkOut0 (n c : Int) (h : n < 1) (W : World) (hm : MaxInt W) :
    Calls Tryd.prog 8 #[.int .i64 n, .int .i64 c] W fun e w' => e = .returned (.bool true) ∧ Below W.heap.size W w' := by
  have HM := Lib.hid hm
  clear hm
  go_enter Tryd.func8, Tryd.ntmps8
  go_wp2_with fail
  refine (anchor_any _ HM.out).mono ?_
  rintro e w1 ⟨rfl, hb1⟩
  have HB := Lib.hid hb1
  clear hb1
  go_wp2_with fail
  go_ret
  exact ⟨rfl, HB.out⟩
set_option maxHeartbeats 1600000 in
theorem walkOut1 (n c : Int) (h0 : ¬ n < 1) (h : 600 < n) (W : World) (hm : MaxInt W) :
    Calls Tryd.prog 8 #[.int .i64 n, .int .i64 c] W fun e w' => e = .returned (.bool true) ∧ Below W.heap.size W w' := by
  have HM := Lib.hid hm
  clear hm
  go_enter Tryd.func8, Tryd.ntmps8
  go_wp2_with fail
  refine (anchor_any _ HM.out).mono ?_
  rintro e w1 ⟨rfl, hb1⟩
  have HB := Lib.hid hb1
  clear hb1
  go_wp2_with fail
  go_ret
  exact ⟨rfl, HB.out⟩
set_option maxHeartbeats 1600000 in
theorem walkOut2 (n c : Int) (h0 : ¬ n < 1) (h1 : ¬ 600 < n) (h : c < 0) (W : World) (hm : MaxInt W) :
    Calls Tryd.prog 8 #[.int .i64 n, .int .i64 c] W fun e w' => e = .returned (.bool true) ∧ Below W.heap.size W w' := by
  have HM := Lib.hid hm
  clear hm
  go_enter Tryd.func8, Tryd.ntmps8
  go_wp2_with fail
  refine (anchor_any _ HM.out).mono ?_
  rintro e w1 ⟨rfl, hb1⟩
  have HB := Lib.hid hb1
  clear hb1
  go_wp2_with fail
  go_ret
  exact ⟨rfl, HB.out⟩
set_option maxHeartbeats 1600000 in
theorem walkOut3 (n c : Int) (h0 : ¬ n < 1) (h1 : ¬ 600 < n) (h2 : ¬ c < 0) (h : 100 < c) (W : World) (hm : MaxInt W) :
    Calls Tryd.prog 8 #[.int .i64 n, .int .i64 c] W fun e w' => e = .returned (.bool true) ∧ Below W.heap.size W w' := by
  have HM := Lib.hid hm
  clear hm
  go_enter Tryd.func8, Tryd.ntmps8
  go_wp2_with fail
  refine (anchor_any _ HM.out).mono ?_
  rintro e w1 ⟨rfl, hb1⟩
  have HB := Lib.hid hb1
  clear hb1
  go_wp2_with fail
  go_ret
  exact ⟨rfl, HB.out⟩
theorem walk (n : Int) (w0 : (Lit.int .i64 n).wf = true) (c : Int) (w1 : (Lit.int .i64 c).wf = true) (W : World) (hsh : W.ShapedOpen Tryd.prog) :
    Calls Tryd.prog 8 #[.int .i64 n, .int .i64 c] W fun e w' => e = .returned (.bool true) ∧ Below W.heap.size W w' := by
  have hm := MaxInt.of_shape hsh
  by_cases h0 : n < 1
  · exact walkOut0 n c h0 W hm
  by_cases h1 : 600 < n
  · exact walkOut1 n c h0 h1 W hm
  by_cases h2 : c < 0
  · exact walkOut2 n c h0 h1 h2 W hm
  by_cases h3 : 100 < c
  · exact walkOut3 n c h0 h1 h2 h3 W hm
  obtain ⟨n', rfl⟩ := Int.eq_ofNat_of_zero_le (show 0 ≤ n by omega)
  obtain ⟨c', rfl⟩ := Int.eq_ofNat_of_zero_le (show 0 ≤ c by omega)
  exact walkIn n' c' (by omega) (by omega) (by omega) W hm
end Go.Proofs.YtgkmkkgneipabaaDoor.FieldsBoundsW
