/- strconv.FormatInt at base 16: the library's own text, walked. -/
import Derived.Test.YtlgohmghjffiaaaDoorChunkHex
import Derived.Test.YtlgohmghjffiaaaDoorLawBase
import Derived.Test.YtlgohmghjffiaaaDoorRet
import Derived.Test.YtlgohmghjffiaaaDoorRows1
import Derived.Test.YtlgohmghjffiaaaDoorMem
import Derived.Lib.Hide
import Derived.Below
import Derived.Outline
import Derived.LoopTactic
import Derived.Handy
import Derived.Laws.Bits64b
namespace Go.Proofs.YtlgohmghjffiaaaDoor.PHexF
open Go.ChangeShapes Go.WideShapes Go.ChangeAt Go.RowKit LexPure Bytes Ret Rows1 ChunkHex Mem
set_option maxRecDepth 20000
/-- math/bits.deBruijn64tab says at its place 15 what it is to say -/
def Tab (w : World) : Prop := w.cell? ⟨2, 15, none⟩ = some (.int .u8 4)
theorem Tab.below {w w' : World} (h : Tab w) (hb : Below w.heap.size w w') : Tab w' :=
  (hb.cell (p := ⟨2, 15, none⟩) (World.block_lt_of_cell? _ _ h)).trans h
theorem tz64 (w : World) (hT : Tab w) : Calls Tryd.prog 51 #[.int .u64 16] w fun e w' => e = .returned (.int .i64 4) ∧ w' = w := by
  unfold Tab at hT
  go_enter Tryd.func51, Tryd.ntmps51
  have key : IntKind.u64.wrap (bits BinOp.and IntKind.u64 16 (IntKind.u64.wrap (-16)) * 285870213051353865) / 288230376151711744 = 15 := by kernel_rfl
  go_wp2_with (simp only [key])
  go_ret
  exact ⟨rfl, rfl⟩
theorem tz (w : World) (hT : Tab w) : Calls Tryd.prog 44 #[.int .u64 16] w fun e w' => e = .returned (.int .i64 4) ∧ w' = w := by
  have H := Lib.hid (tz64 w hT)
  go_enter Tryd.func44, Tryd.ntmps44
  go_wp2_with fail
  refine H.out.mono ?_
  rintro e w1 ⟨rfl, rfl⟩
  go_wp2_with fail
  go_ret
  exact ⟨rfl, rfl⟩
theorem pow2 (w : World) : Calls Tryd.prog 43 #[.int .i64 16] w fun e w' => e = .returned (.bool true) ∧ w' = w := by
  go_enter Tryd.func43, Tryd.ntmps43
  go_wp2_with fail
  go_ret
  exact ⟨rfl, rfl⟩
/-- the digits, from the array's end -/
structure Arr (w : World) (b : Nat) (L : List UInt8) : Prop where
  has : ∃ cs, Has w b 76 cs ∧ cs.size = 65 ∧ cs.toList.drop (65 - L.length) = bvs L
  len : L.length ≤ 65
theorem Arr.start (w : World) : Arr (w.alloc (.cells Tryd.zeroCells76 76)) w.heap.size [] :=
  ⟨⟨_, Has.new w _ _, by kernel_rfl, by rw [List.drop_of_length_le]; rfl; exact Nat.le_of_eq (by kernel_rfl)⟩, Nat.zero_le _⟩
def letters : ByteArray := ⟨#[48, 49, 50, 51, 52, 53, 54, 55, 56, 57, 97, 98, 99, 100, 101, 102, 103, 104, 105, 106, 107, 108, 109, 110, 111, 112, 113, 114, 115, 116, 117, 118, 119, 120, 121, 122]⟩
theorem letter_at (r : Nat) (h : r < 16) (hb : r < letters.size) : letters[r] = hexB r := by
  have : ∀ r : Fin 16, letters[r.1]'(Nat.lt_of_lt_of_le r.2 (by decide)) = hexB r.1 := by decide +kernel
  exact this ⟨r, h⟩
theorem Arr.push {w : World} {b : Nat} {L : List UInt8} (h : Arr w b L) (c : UInt8) (hl : L.length ≤ 64) : Arr (w.setCell ⟨b, 65 - L.length - 1, none⟩ (.int .u8 (c.toNat : Int))) b (c :: L) := by
  obtain ⟨cs, h1, h2, h3⟩ := h.has
  refine ⟨⟨_, h1.set_ _ _, by rw [Array.size_setIfInBounds]; exact h2, ?_⟩, by show L.length + 1 ≤ 65; omega⟩
  rw [List.length_cons, Array.toList_setIfInBounds]
  have e : 65 - (L.length + 1) = 65 - L.length - 1 := by omega
  rw [e, List.drop_set, if_neg (by omega), Nat.sub_self]
  have hlt : 65 - L.length - 1 < cs.toList.length := by have : cs.toList.length = cs.size := Array.length_toList; omega
  rw [List.drop_eq_getElem_cons hlt, List.set_cons_zero, show 65 - L.length - 1 + 1 = 65 - L.length by omega, h3]
  rfl
theorem Arr.cells {w : World} {b : Nat} {L : List UInt8} (h : Arr w b L) (j : Nat) (hj : j < L.length) : w.cell? ⟨b, 65 - L.length + j, none⟩ = some (bv L[j]) := by
  obtain ⟨cs, h1, h2, h3⟩ := h.has
  rw [h1.cell]
  have h4 := congrArg (fun l => l[j]?) h3
  simp only [List.getElem?_drop, Array.getElem?_toList] at h4
  rw [h4]
  unfold bvs
  rw [List.getElem?_map, List.getElem?_eq_getElem hj]
  rfl
theorem Arr.text {w : World} {b : Nat} {L : List UInt8} (h : Arr w b L) : (Go.convert 31 9 (.slice (some ⟨b, 65 - L.length, none⟩) L.length L.length)).run Tryd.prog w = .ok (.string (ofL L)) w :=
  run_convert_bytes_back w 31 9 5 ⟨b, 65 - L.length, none⟩ L.length L Tryd.underlying31 Tryd.underlying5 Tryd.underlying9 (fun j hj => by
    have := h.cells j hj
    unfold Addr.add
    split
    · rename_i h0
      subst h0
      exact this
    · exact this)
theorem slice_arr (b k : Nat) (h0 : 0 < k) (hk : k ≤ 64) (w : World) :
    (Instr.sliceAt 76 (.pointer (some ⟨b, 0, none⟩)) (some (.int .i64 (65 - (k : Int)))) none none).run Tryd.prog w = .ok (.slice (some ⟨b, 65 - k, none⟩) k k) w := by
  have hal : Tryd.prog.arrayLen 76 = 65 := by kernel_rfl
  have hel : Tryd.prog.elem 76 = 5 := by kernel_rfl
  have hs : (sizeOf 5).run Tryd.prog w = .ok 1 w := by rw [Tryd.sizeOf5]
  rw [run_sliceAt_array_l w 76 ⟨b, 0, none⟩ (by rw [hal, hel]; exact Tryd.underlying76) .i64 (65 - (k : Int)) (by omega) (by rw [hal]; omega), hel, hs, hal]
  simp only [Result.andThen, slicedAt]
  have e : (65 - (k : Int)).toNat = 65 - k := by omega
  rw [e, if_neg (by omega), show 65 - (65 - k) = k by omega, Nat.mul_one]
  congr 4
  unfold Addr.add
  split
  · omega
  · simp
theorem pbits_any (n : Nat) (hn : n < 281474976710656) (w : World) (hT : Tab w) :
    Calls Tryd.prog 33 #[.slice none 0 0, .int .u64 n, .int .i64 16, .bool false, .bool false] w fun e w' => e = .returned (.tuple #[.slice none 0 0, .string (ofL (hexN n))]) ∧ Below w.heap.size w w' := by
  have HP := Lib.hid (fun w => pow2 w)
  have HZ := Lib.hid (fun w h => tz w h)
  have HA := Lib.hid (Arr.start w)
  have HB : Hid (Below w.heap.size w (w.alloc (.cells Tryd.zeroCells76 76))) := Lib.hid ((Below.refl _ _).alloc (Nat.le_refl _) _)
  replace hT := Lib.hid hT
  obtain ⟨b, hb⟩ : ∃ b, b = w.heap.size := ⟨_, rfl⟩
  go_enter Tryd.func33, Tryd.ntmps33
  go_wp2_with fail
  generalize w.alloc (.cells Tryd.zeroCells76 76) = W at HA HB ⊢
  rw [← hb] at HA ⊢
  replace hb := Lib.hid hb
  refine (HP.out _).mono ?_
  rintro e w1 ⟨rfl, rfl⟩
  clear HP
  go_wp2_with fail
  refine (HZ.out _ (hT.out.below HB.out)).mono ?_
  rintro e w1 ⟨rfl, rfl⟩
  clear HZ
  go_wp2_with fail
  have HX : Hid (hexN n = hexN n ++ [] ∧ n ≤ n ∧ Arr w1 b [] ∧ Below w.heap.size w w1) := Lib.hid ⟨by simp, Nat.le_refl _, HA.out, HB.out⟩
  clear HA HB
  go_loopw [13, 1] (fun i u wr => ∃ (q : Nat) (L : List UInt8), i = .int .i64 (65 - L.length) ∧ u = .int .u64 q ∧ Hid (hexN n = hexN q ++ L ∧ q ≤ n ∧ Arr wr b L ∧ Below w.heap.size w wr)) (fun _ u _ => (intOf u).toNat)
  case atStart => exact ⟨n, [], rfl, rfl, HX⟩
  case round =>
    obtain ⟨q, L, rfl, rfl, HI⟩ := hrel
    clear HX
    obtain ⟨h1, h2, hA, hB⟩ := HI.out
    have hlen : L.length ≤ 11 := by
      have := congrArg List.length h1
      rw [List.length_append] at this
      have h3 := hexN_len 11 n hn
      have h4 := List.length_pos_iff.2 (hexN_ne q)
      omega
    by_cases hq : 16 ≤ q
    · have hqi : (16 : Int) ≤ (q : Int) := by omega
      have hbit : bits BinOp.and IntKind.u64 (q : Int) 15 = ((q % 16 : Nat) : Int) := by
        have := bits_and_u64_nat q 15 (by omega) (by omega)
        rw [show ((15 : Nat) : Int) = 15 from rfl] at this
        rw [this, Nat.and_two_pow_sub_one_eq_mod q 4]
      obtain ⟨cs, hH, hcs, hdr⟩ := hA.has
      have hcell := (hH.cell (65 - L.length - 1)).trans (Array.getElem?_eq_getElem (by omega))
      have hfree := hH.free (65 - L.length - 1)
      generalize cs[65 - L.length - 1] = old at hcell
      clear hH hcs hdr hA hB h1 h2
      have HJ : Hid (hexN n = hexN (q / 16) ++ (letters[q % 16]'(Nat.lt_of_lt_of_le (Nat.mod_lt q (by decide)) (by decide)) :: L) ∧ q / 16 ≤ n ∧ Arr (wr.setCell ⟨b, 65 - L.length - 1, none⟩ (.int .u8 ((letters[q % 16]'(Nat.lt_of_lt_of_le (Nat.mod_lt q (by decide)) (by decide))).toNat : Int))) b (letters[q % 16]'(Nat.lt_of_lt_of_le (Nat.mod_lt q (by decide)) (by decide)) :: L) ∧ Below w.heap.size w (wr.setCell ⟨b, 65 - L.length - 1, none⟩ (.int .u8 ((letters[q % 16]'(Nat.lt_of_lt_of_le (Nat.mod_lt q (by decide)) (by decide))).toNat : Int)))) :=
        Lib.hid ⟨by rw [letter_at _ (Nat.mod_lt q (by decide)), HI.out.1, hexN_more (by omega)]; simp, by have := HI.out.2.1; omega, HI.out.2.2.1.push _ (by omega), HI.out.2.2.2.setCell (p := ⟨b, _, none⟩) (by rw [hb.out]; exact Nat.le_refl _) _⟩
      unfold letters at HJ
      clear HI
      go_wp2_with fail
      exact ⟨⟨q / 16, _, by rw [List.length_cons]; congr 1; omega, by congr 1, HJ⟩, by simp [intOf]; omega⟩
    · have hqi : ¬ (16 : Int) ≤ (q : Int) := by omega
      obtain ⟨cs, hH, hcs, hdr⟩ := hA.has
      have hcell := (hH.cell (65 - L.length - 1)).trans (Array.getElem?_eq_getElem (by omega))
      have hfree := hH.free (65 - L.length - 1)
      generalize cs[65 - L.length - 1] = old at hcell
      have hsl := slice_arr b (L.length + 1) (by omega) (by omega)
      rw [show (65 - ((L.length + 1 : Nat) : Int)) = 65 - (L.length : Int) - 1 by omega, show 65 - (L.length + 1) = 65 - L.length - 1 by omega] at hsl
      have hql : letters[q]'(Nat.lt_of_lt_of_le (show q < 16 by omega) (by decide)) = hexB q := letter_at q (by omega) _
      have hdone : hexN n = letters[q]'(Nat.lt_of_lt_of_le (show q < 16 by omega) (by decide)) :: L := by rw [hql, h1, hexN_small (by omega)]; rfl
      have hcv := (hA.push (letters[q]'(Nat.lt_of_lt_of_le (show q < 16 by omega) (by decide))) (by omega)).text
      have HE := Lib.hid (HI.out.2.2.2.setCell (p := ⟨b, 65 - L.length - 1, none⟩) (by rw [hb.out]; exact Nat.le_refl _) (.int .u8 ((letters[q]'(Nat.lt_of_lt_of_le (show q < 16 by omega) (by decide))).toNat : Int)))
      have hl : (hexN n).length = L.length + 1 := by rw [hdone]; rfl
      rw [← hdone, hl, show 65 - (L.length + 1) = 65 - L.length - 1 by omega] at hcv
      unfold letters at hcv HE
      clear hH hcs hdr hA hB h1 h2 hql hdone hl
      go_wp2_with fail
      go_ret2
      exact ⟨rfl, HE.out⟩
theorem pfmt_in (n : Nat) (hn : n < 281474976710656) (w : World) (hT : Tab w) :
    Calls Tryd.prog 24 #[.int .i64 n, .int .i64 16] w fun e w' => e = .returned (.string (ofL (hexN n))) ∧ Below w.heap.size w w' := by
  have H := Lib.hid (fun w h => pbits_any n hn w h)
  have HT := Lib.hid hT
  clear hT
  go_enter Tryd.func24, Tryd.ntmps24
  go_wp2_with fail
  refine (H.out _ HT.out).mono ?_
  rintro e w1 ⟨rfl, hb1⟩
  go_wp2_with fail
  go_ret
  exact ⟨rfl, hb1⟩
/-- strconv.FormatInt(n, 16) -/
theorem pfmt_any (n : Nat) (hn : n < 281474976710656) (w : World) (hT : Tab w) :
    Calls Tryd.prog 19 #[.int .i64 n, .int .i64 16] w fun e w' => e = .returned (.string (ofL (hexN n))) ∧ Below w.heap.size w w' := by
  have H := Lib.hid (fun w h => pfmt_in n hn w h)
  have HT := Lib.hid hT
  clear hT
  go_enter Tryd.func19, Tryd.ntmps19
  go_wp2_with fail
  refine (H.out _ HT.out).mono ?_
  rintro e w1 ⟨rfl, hb1⟩
  go_wp2_with fail
  go_ret
  exact ⟨rfl, hb1⟩
end Go.Proofs.YtlgohmghjffiaaaDoor.PHexF
