/- A head written line by line is read back as it is: HeadWritten returns true. -/
import Derived.Test.YtclecgopmegjeaaDoorHLaw
import Derived.Test.YtclecgopmegjeaaDoorHeadWrit
import Derived.Test.YtclecgopmegjeaaDoorFArg
import Derived.Test.YtclecgopmegjeaaDoorR7Check
import Derived.Test.YtclecgopmegjeaaDoorR8Same
import Derived.Laws.DeepStrings4
import Derived.IntWalk
import Derived.Deep.QuietTactic
import Derived.BigQuiet
namespace Go.Proofs.YtclecgopmegjeaaDoor.HeadWrittenW
open Go.ChangeShapes Go.WideShapes Go.ChangeAt Go.RowKit LexPure Bytes Ret Rows1 FieldsPure Flds HeadPure HeadWrit HBox PHead8 PFlds8 R7Check R8Same RToken HAnchor HLaw FArg Mem
set_option maxRecDepth 100000
set_option linter.unusedVariables false
theorem blank_three (c : UInt8) : (blankB c = true ∧ ((c.toNat : Int) != 32) = false) ∨ (blankB c = true ∧ ((c.toNat : Int) != 32) = true ∧ ((c.toNat : Int) != 9) = false) ∨ (blankB c = false ∧ ((c.toNat : Int) != 32) = true ∧ ((c.toNat : Int) != 9) = true) := by
  have := all_bytes (p := fun c => decide ((blankB c = true ∧ ((c.toNat : Int) != 32) = false) ∨ (blankB c = true ∧ ((c.toNat : Int) != 32) = true ∧ ((c.toNat : Int) != 9) = false) ∨ (blankB c = false ∧ ((c.toNat : Int) != 32) = true ∧ ((c.toNat : Int) != 9) = true))) (by decide +kernel) c
  exact of_decide_eq_true this
theorem seen_at (b : UInt8) : (seenB b = false ∧ (b.toNat : Int) ≤ 32) ∨ (seenB b = false ∧ ¬ (b.toNat : Int) ≤ 32 ∧ (127 : Int) ≤ (b.toNat : Int)) ∨ (seenB b = true ∧ ¬ (b.toNat : Int) ≤ 32 ∧ ¬ (127 : Int) ≤ (b.toNat : Int)) := by
  unfold seenB
  rcases (show b.toNat ≤ 32 ∨ 127 ≤ b.toNat ∨ (32 < b.toNat ∧ b.toNat < 127) by omega) with h | h | h
  · exact .inl ⟨by rw [decide_eq_false (by omega)]; rfl, by omega⟩
  · exact .inr (.inl ⟨by rw [decide_eq_false (p := b.toNat < 127) (by omega), Bool.and_false], by omega, by omega⟩)
  · exact .inr (.inr ⟨by rw [decide_eq_true h.1, decide_eq_true h.2]; rfl, by omega, by omega⟩)
/-- what is written of the first fields -/
structure Wrt (m t b : ByteArray) (G : List HField) (k : Nat) (x : ByteArray) : Prop where
  text : toL x = wrote (toL m) (toL t) (toL b) (G.take k)
  size : x.size ≤ 1100 + k * 520
  few : ∀ f ∈ G.take k, f.1.length + f.2.length ≤ 490
set_option maxHeartbeats 1600000 in
theorem walkIn (m t b : ByteArray) (v : Value) (G : List HField) (hm : m.size ≤ 140737488351232) (ht : t.size ≤ 140737488351232) (hb : b.size ≤ 140737488351232) (hG : Far G) (w : World) (hF : FL w v G) :
    Calls Tryd.prog 6 #[.string m, .string t, v, .string b] w fun e w' => e = .returned (.bool true) ∧ Below w.heap.size w w' := by
  have HFL := Lib.hid hF
  have HCk := Lib.hid (fun w => r7check_far v G hG w)
  obtain ⟨p, cap, rfl, hle, hc⟩ := hF
  replace hc := Lib.hid hc
  have HT := Lib.hid (fun w => (rtoken_any m (by unfold maxLen; omega) w).mono (fun e w' h => (⟨h.1, h.2.symm⟩ : e = .returned (.bool (token (toL m))) ∧ w' = w)))
  go_enter Tryd.func6, Tryd.ntmps6
  go_wp2_with fail
  refine (anchor_any _).mono ?_
  rintro e w1 ⟨rfl, hb1⟩
  replace hb1 := Lib.hid hb1
  go_wp2_with fail
  go_loop [21] (fun i => ∃ k : Nat, k ≤ b.size ∧ i = .int .i64 k ∧ Hid (((toL b).take k).all blankB = true)) (fun i => b.size - (intOf i).toNat)
  case atStart => exact ⟨0, Nat.zero_le _, rfl, Lib.hid rfl⟩
  case round =>
    obtain ⟨k, hk, rfl, ha⟩ := hrel
    by_cases hlt : k < b.size
    · have hki : (k : Int) < (b.size : Int) := by omega
      have HS := Lib.hid (toL_take_succ b k hlt)
      rcases blank_three b[k] with ⟨c0, c1⟩ | ⟨c0, c1, c2⟩ | ⟨c0, c1, c2⟩
      · have HA : Hid (((toL b).take (k + 1)).all blankB = true) := Lib.hid (by rw [HS.out, List.all_append, ha.out]; simp [c0])
        clear HS c0 ha
        go_wp2_with fail
        go_round
        case rel => exact ⟨k + 1, by omega, by go_num, HA⟩
        case measure => simp [intOf]; omega
      · have HA : Hid (((toL b).take (k + 1)).all blankB = true) := Lib.hid (by rw [HS.out, List.all_append, ha.out]; simp [c0])
        clear HS c0 ha
        go_wp2_with fail
        go_round
        case rel => exact ⟨k + 1, by omega, by go_num, HA⟩
        case measure => simp [intOf]; omega
      · clear HS c0 ha
        go_wp2_with fail
        go_ret
        exact ⟨rfl, hb1.out⟩
    · have hki : ¬ (k : Int) < (b.size : Int) := by omega
      have hbl : Hid ((toL b).all blankB = true) := Lib.hid (by have := ha.out; rwa [toL_take_all b (by omega)] at this)
      clear ha hlt hk
      go_wp2_with fail
      clear hki
      go_loop [37] (fun i => ∃ k : Nat, k ≤ t.size ∧ i = .int .i64 k ∧ Hid (((toL t).take k).all seenB = true)) (fun i => t.size - (intOf i).toNat)
      case atStart => exact ⟨0, Nat.zero_le _, rfl, Lib.hid rfl⟩
      case round =>
        obtain ⟨j, hj, rfl, ha⟩ := hrel
        by_cases hlt : j < t.size
        · have hki : (j : Int) < (t.size : Int) := by omega
          have HS := Lib.hid (toL_take_succ t j hlt)
          rcases seen_at t[j] with ⟨c0, c1⟩ | ⟨c0, c1, c2⟩ | ⟨c0, c1, c2⟩
          · clear HS c0 ha
            go_wp2_with fail
            go_ret
            exact ⟨rfl, hb1.out⟩
          · clear HS c0 ha
            go_wp2_with fail
            go_ret
            exact ⟨rfl, hb1.out⟩
          · have HA : Hid (((toL t).take (j + 1)).all seenB = true) := Lib.hid (by rw [HS.out, List.all_append, ha.out]; simp [c0])
            clear HS c0 ha
            go_wp2_with fail
            go_round
            case rel => exact ⟨j + 1, by omega, by go_num, HA⟩
            case measure => simp [intOf]; omega
        · have hki : ¬ (j : Int) < (t.size : Int) := by omega
          have hts : Hid ((toL t).all seenB = true) := Lib.hid (by have := ha.out; rwa [toL_take_all t (by omega)] at this)
          clear ha hlt hj
          cases htk : token (toL m) with
          | false =>
            rw [htk] at HT
            clear htk
            go_wp2_with fail
            refine (HT.out _).mono ?_
            rintro e w' ⟨rfl, rfl⟩
            go_wp2_with fail
            go_ret
            exact ⟨rfl, hb1.out⟩
          | true =>
          rw [htk] at HT
          replace htk := Lib.hid htk
          by_cases hm16 : m.size ≤ 16 ∧ 1 ≤ t.size ∧ t.size ≤ 1024
          · obtain ⟨g1, g2, g3⟩ := hm16
            have i1 : ¬ ((16 : Int) < (m.size : Int)) := by omega
            have i2 : ¬ ((t.size : Int) < 1) := by omega
            have i3 : ¬ ((1024 : Int) < (t.size : Int)) := by omega
            go_wp2_with fail
            refine (HT.out _).mono ?_
            rintro e w' ⟨rfl, rfl⟩
            clear HT
            go_wp2_with fail
            refine (HCk.out _ (HFL.out.below hb1.out)).mono ?_
            rintro e w2 ⟨rfl, hb2⟩
            replace hb1 := Lib.hid (below_chain hb1.out hb2)
            clear hb2 HCk
            by_cases hck : check G = 0
            rotate_left
            · have hck2 : (check G != 0) = true := bne_iff_ne.2 hck
              generalize check G = cg at *
              clear hck
              go_wp2_with fail
              go_ret
              exact ⟨rfl, hb1.out⟩
            rw [hck]
            have hri : G.all right = true ∧ G.length ≤ 32 := by
              unfold check at hck
              split at hck
              · rename_i h
                split at hck
                · rename_i h2; exact ⟨h, h2⟩
                · cases hck
              · cases hck
            obtain ⟨hri, hle32⟩ := hri
            replace hri := Lib.hid hri
            clear hck
            by_cases hb10 : b.size ≤ 10
            rotate_left
            · have i4 : (10 : Int) < (b.size : Int) := by omega
              go_wp2_with fail
              go_ret
              exact ⟨rfl, hb1.out⟩
            have i4 : ¬ ((10 : Int) < (b.size : Int)) := by omega
            have HW0 : Hid (Wrt m t b G 0 (m ++ ⟨#[32]⟩ ++ t ++ ⟨#[32, 72, 84, 84, 80, 47, 49, 46, 49, 13, 10]⟩)) := Lib.hid ⟨by
              rw [toL_append, toL_append, toL_append, List.take_zero]
              unfold wrote HTTP11 wlines
              simp [show toL (⟨#[32]⟩ : ByteArray) = [32] from rfl, show toL (⟨#[32, 72, 84, 84, 80, 47, 49, 46, 49, 13, 10]⟩ : ByteArray) = [32, 72, 84, 84, 80, 47, 49, 46, 49, 13, 10] from rfl], by
              rw [ByteArray.size_append, ByteArray.size_append, ByteArray.size_append, show (⟨#[32]⟩ : ByteArray).size = 1 from rfl, show (⟨#[32, 72, 84, 84, 80, 47, 49, 46, 49, 13, 10]⟩ : ByteArray).size = 11 from rfl]; omega, fun f hf => by simp at hf⟩
            have z1 : m.size + 1 ≤ 9223372036854775807 := by omega
            have z2 : m.size + 1 + t.size ≤ 9223372036854775807 := by omega
            have z3 : m.size + 1 + t.size + 11 ≤ 9223372036854775807 := by omega
            go_wp2_with fail
            clear i1 i2 i3 i4 z1 z2 z3 hki
            replace hm := Lib.hid hm
            replace ht := Lib.hid ht
            replace hb := Lib.hid hb
            have hz10 := Lib.hid hb10
            go_loopw [11, 86] (fun x i wr => ∃ (k : Nat) (X : ByteArray), k ≤ G.length ∧ i = .int .i64 k ∧ x = .string X ∧ Hid (Wrt m t b G k X) ∧ Hid (Below w.heap.size w wr)) (fun _ i _ => G.length - (intOf i).toNat)
            case atStart => exact ⟨0, _, Nat.zero_le _, rfl, rfl, HW0, hb1⟩
            case round =>
              clear hb1 HW0
              obtain ⟨k, X, hk, rfl, rfl, HX, HB⟩ := hrel
              by_cases hlt : k < G.length
              · obtain ⟨g, o, rfl, hgl, hcell⟩ := hc.out (by omega)
                obtain ⟨c1, c2⟩ := hcell k hlt
                replace c1 := (HB.out.cell (p := ⟨g, o + k * 2, none⟩) hgl).trans c1
                replace c2 := (HB.out.cell (p := ⟨g, o + k * 2 + 1, none⟩) hgl).trans c2
                have hki : (k : Int) < (G.length : Int) := by omega
                obtain ⟨s1, s2⟩ := hG k hlt
                have hA := ofL_size G[k].1
                have hB := ofL_size G[k].2
                have hsum : IntKind.i64.wrap (((ofL G[k].1).size : Int) + ((ofL G[k].2).size : Int)) = ((ofL G[k].1).size : Int) + ((ofL G[k].2).size : Int) := IntWalk.i64_in _ (by omega)
                have d := (Has.new wr 37 #[.string (ofL G[k].1), .string (ofL G[k].2)]).cell
                have d0 := d 0
                have d1 := d 1
                have hb3 := HB.out.alloc HB.out.size (.cells #[.string (ofL G[k].1), .string (ofL G[k].2)] 37)
                clear hcell d
                by_cases h490 : G[k].1.length + G[k].2.length ≤ 490
                rotate_left
                · have h3 : decide ((490 : Int) < ((ofL G[k].1).size : Int) + ((ofL G[k].2).size : Int)) = true := decide_eq_true (by omega)
                  generalize ofL G[k].1 = A at *
                  generalize ofL G[k].2 = B at *
                  have HBH := Lib.hid hb3
                  clear hb3 hA hB
                  go_wp2_with fail
                  go_ret
                  exact ⟨rfl, HBH.out⟩
                · have h3 : decide ((490 : Int) < ((ofL G[k].1).size : Int) + ((ofL G[k].2).size : Int)) = false := decide_eq_false (by omega)
                  have hbs := hz10.out
                  have hxs := HX.out.size
                  have HX2 : Hid (Wrt m t b G (k + 1) (X ++ (ofL G[k].1 ++ ⟨#[58]⟩ ++ b ++ ofL G[k].2 ++ b ++ ⟨#[13, 10]⟩))) := Lib.hid ⟨by
                      rw [toL_append, toL_append, toL_append, toL_append, toL_append, toL_append, toL_ofL, toL_ofL, HX.out.text, List.take_add_one, List.getElem?_eq_getElem hlt]
                      unfold wrote
                      rw [Option.toList_some, wlines_snoc]
                      unfold wline
                      simp [show toL (⟨#[58]⟩ : ByteArray) = [58] from rfl, show toL (⟨#[13, 10]⟩ : ByteArray) = [13, 10] from rfl], by
                      rw [ByteArray.size_append, ByteArray.size_append, ByteArray.size_append, ByteArray.size_append, ByteArray.size_append, ByteArray.size_append, show (⟨#[58]⟩ : ByteArray).size = 1 from rfl, show (⟨#[13, 10]⟩ : ByteArray).size = 2 from rfl]; omega, fun f hf => by
                      rw [List.take_add_one, List.getElem?_eq_getElem hlt] at hf
                      rcases List.mem_append.1 hf with h | h
                      · exact HX.out.few f h
                      · obtain rfl : f = G[k] := by simpa using h
                        exact h490⟩
                  generalize ofL G[k].1 = A at *
                  generalize ofL G[k].2 = B at *
                  have y1 : A.size + 1 ≤ 9223372036854775807 := by omega
                  have y2 : A.size + 1 + b.size ≤ 9223372036854775807 := by omega
                  have y3 : A.size + 1 + b.size + B.size ≤ 9223372036854775807 := by omega
                  have y4 : A.size + 1 + b.size + B.size + b.size ≤ 9223372036854775807 := by omega
                  have y5 : A.size + 1 + b.size + B.size + b.size + 2 ≤ 9223372036854775807 := by omega
                  have y6 : X.size + (A.size + 1 + b.size + B.size + b.size + 2) ≤ 9223372036854775807 := by omega
                  have HBH := Lib.hid hb3
                  clear hb3 hA hB hbs hxs HX HB
                  go_wp2_with fail
                  go_roundw
                  case rel => exact ⟨k + 1, _, by omega, by go_num, rfl, HX2, HBH⟩
                  case measure => simp [intOf]; omega
              · have hki : ¬ ((k : Int) < (G.length : Int)) := by omega
                have hall : G.take k = G := List.take_of_length_le (by omega)
                have htx := HX.out.text
                have hfw := HX.out.few
                have hxs := HX.out.size
                rw [hall] at htx hfw
                have hml := hm.out
                have htl := ht.out
                have hbs := hz10.out
                have hrw : read8 false (toL (X ++ ⟨#[13, 10]⟩)) = .done ⟨toL m, toL t, 0, [], 1, G⟩ (X.size + 2) := by
                  rw [toL_append, htx, show toL (⟨#[13, 10]⟩ : ByteArray) = [13, 10] from rfl, read_written htk.out (by rw [toL_length]; exact g1) hts.out (by rw [toL_length]; omega) (by rw [toL_length]; exact g3) hbl.out (by rw [toL_length]; exact hbs) hle32 (fun f hf => by
                    have h := List.all_eq_true.1 hri.out f hf
                    unfold right at h
                    rw [Bool.and_eq_true, Bool.and_eq_true] at h
                    exact ⟨h.1.1, h.1.2, hfw f hf⟩), ← htx, toL_length]
                have HR := Lib.hid (fun w => prequest_any (X ++ ⟨#[13, 10]⟩) (by rw [ByteArray.size_append, show (⟨#[13, 10]⟩ : ByteArray).size = 2 from rfl]; omega) w)
                rw [hrw] at HR
                dsimp only [resH, resN, resE] at HR
                have y1 : X.size + 2 ≤ 9223372036854775807 := by omega
                have y2 : (X.size : Int) ≤ 20000 := by omega
                have HBw := Lib.hid (HFL.out.below HB.out)
                clear htx hfw hml htl hbs hrw hall HX hxs
                unfold hrv3 hv at HR
                dsimp only at HR
                rw [ofL_toL, ofL_toL] at HR
                go_wp2_with fail
                refine (HR.out _).mono ?_
                rintro e w3 ⟨v1, rfl, hF1, hb3⟩
                clear HR
                have hb4 := below_chain HB.out hb3
                obtain ⟨p1, c1, rfl, _, _⟩ := id hF1
                have L1 := Lib.hid (LB.new (H := ⟨toL m, toL t, 0, [], 1, G⟩) hb4 hF1)
                have e0 : HBox.hc ⟨toL m, toL t, 0, [], 1, G⟩ (.slice p1 G.length c1) = #[.string m, .string t, .int .i64 0, .string ⟨#[]⟩, .int .i64 1, .slice p1 G.length c1] := by
                  unfold HBox.hc
                  dsimp only
                  rw [ofL_toL, ofL_toL]
                  rfl
                rw [e0] at L1
                have HF2 := Lib.hid ((HBw.out.below hb3).below ((Below.refl _ _).alloc (Nat.le_refl _) (.cells #[.string m, .string t, .int .i64 0, .string ⟨#[]⟩, .int .i64 1, .slice p1 G.length c1] 25)))
                clear hF1 hb3 hb4 HBw HB e0
                dsimp only
                iterate 18 go_step
                rw [show ofL ([] : List UInt8) = ⟨#[]⟩ from rfl]
                generalize w3.alloc (.cells #[.string m, .string t, .int .i64 0, .string ⟨#[]⟩, .int .i64 1, .slice p1 G.length c1] 25) = W3 at L1 HF2 ⊢
                generalize hg1 : w3.heap.size = g1 at L1 ⊢
                replace hg1 := Lib.hid hg1
                have HS := Lib.hid (same8_any ⟨toL m, toL t, 0, [], 1, G⟩ (.slice p1 G.length c1) _ W3 L1.out.list HF2.out)
                obtain ⟨d0, d1, d2, d3, d4, d5⟩ := L1.out.box.cells
                unfold hv at HS
                dsimp only at HS d0 d1 d2 d3 d4 d5
                rw [ofL_toL, ofL_toL, show ofL ([] : List UInt8) = ⟨#[]⟩ from rfl] at HS
                rw [ofL_toL] at d0 d1
                rw [show ofL ([] : List UInt8) = ⟨#[]⟩ from rfl] at d3
                go_wp2_with fail
                refine HS.out.mono ?_
                rintro e w6 ⟨rfl, hb6⟩
                have hb7 := Lib.hid (below_chain L1.out.below hb6)
                clear hb6 HS L1 d0 d1 d2 d3 d4 d5
                go_wp2_with fail
                go_ret
                exact ⟨rfl, hb7.out⟩
          · have hcs : (16 : Int) < (m.size : Int) ∨ (¬ (16 : Int) < (m.size : Int) ∧ (t.size : Int) < 1) ∨ (¬ (16 : Int) < (m.size : Int) ∧ ¬ (t.size : Int) < 1 ∧ (1024 : Int) < (t.size : Int)) := by omega
            clear hm16
            rcases hcs with i1 | ⟨i1, i2⟩ | ⟨i1, i2, i3⟩
            all_goals
              go_wp2_with fail
              refine (HT.out _).mono ?_
              rintro e w' ⟨rfl, rfl⟩
              go_wp2_with fail
              go_ret
              exact ⟨rfl, hb1.out⟩
theorem walk {H : Type} {enc : TypeId × Value → H} {W : World} {base : Nat} (a0 : ByteArray) (w0 : a0.size ≤ maxLen) (z0 : a0.size ≤ 140737488351232) (a1 : ByteArray) (w1 : a1.size ≤ maxLen) (z1 : a1.size ≤ 140737488351232)
    (v : Value) (d : DataW H) (p : List MemPlace) (hv : Value.okWide Tryd.prog W .any base 23 v) (h : DataW.Trod enc Tryd.prog W 0 (fun _ => true) true 23 v d p) (hl : ∀ x ∈ p, x.block < W.heap.size)
    (hb : (d.weights Tryd.prog 23).all (· ≤ reachBytes) = true) (a3 : ByteArray) (w3 : a3.size ≤ maxLen) (z3 : a3.size ≤ 140737488351232) :
    Calls Tryd.prog 6 #[.string a0, .string a1, v, .string a3] W fun e w' => e = .returned (.bool true) ∧ Below W.heap.size W w' := by
  obtain ⟨G, hF, hG, _, _⟩ := fields_arg_reach hv h hb
  exact walkIn a0 a1 a3 v G z0 z1 z3 hG W hF
end Go.Proofs.YtclecgopmegjeaaDoor.HeadWrittenW
