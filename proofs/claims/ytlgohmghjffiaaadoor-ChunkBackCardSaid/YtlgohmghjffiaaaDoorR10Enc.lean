/- Layer 10, the document's own Encode. -/
import Derived.Test.YtlgohmghjffiaaaDoorChunkHex
import Derived.Test.YtlgohmghjffiaaaDoorLawBase
import Derived.Test.YtlgohmghjffiaaaDoorRet
import Derived.Test.YtlgohmghjffiaaaDoorRows1
import Derived.Test.YtlgohmghjffiaaaDoorMem
import Derived.Lib.Hide
import Derived.Lib.AppendStr
import Derived.Below
import Derived.Outline
import Derived.LoopTactic
import Derived.Handy
import Derived.Maps.AppendAt
namespace Go.Proofs.YtlgohmghjffiaaaDoor.R10Enc
open Go.ChangeShapes Go.WideShapes Go.ChangeAt Go.RowKit LexPure Bytes Ret Rows1 ChunkHex Mem
set_option maxRecDepth 20000
theorem infoB : (Tryd.prog.info? 5).map (fun i => (i.zero, i.size, i.bytes)) = some (some (.int .u8 0), 1, 1) := by kernel_rfl
/-- the digits so far -/
def outN (q : Nat) : List UInt8 := if q = 0 then [] else hexN q
/-- the place of the next digit -/
def Pow (D : Nat) : Prop := D = 0 ∨ D = 1 ∨ D = 16 ∨ D = 256 ∨ D = 4096 ∨ D = 65536 ∨ D = 1048576 ∨ D = 16777216 ∨ D = 268435456
theorem pow_le {D : Nat} (h : Pow D) : D ≤ 268435456 := by rcases h with rfl | rfl | rfl | rfl | rfl | rfl | rfl | rfl | rfl <;> decide
def quot (N D : Nat) : Nat := if D = 0 then N else N / (16 * D)
theorem quot_next {N D : Nat} (h : Pow D) (h0 : D ≠ 0) : quot N (D / 16) = N / D ∧ quot N D = N / D / 16 ∧ Pow (D / 16) := by
  have h1 : quot N D = N / D / 16 := by
    unfold quot
    rw [if_neg h0, Nat.mul_comm, Nat.div_div_eq_div_mul]
  refine ⟨?_, h1, ?_⟩
  · rcases h with rfl | rfl | rfl | rfl | rfl | rfl | rfl | rfl | rfl
    · exact absurd rfl h0
    · simp [quot]
    all_goals rfl
  · rcases h with rfl | rfl | rfl | rfl | rfl | rfl | rfl | rfl | rfl
    · exact absurd rfl h0
    all_goals (unfold Pow; decide)
theorem outN_next (q : Nat) (h : q ≠ 0) : outN q = outN (q / 16) ++ [hexB (q % 16)] := by
  unfold outN
  rw [if_neg h]
  by_cases h2 : q < 16
  · rw [hexN_small h2, if_pos (by omega), show q % 16 = q by omega]
    rfl
  · rw [hexN_more h2, if_neg (by omega)]
def EInv (w : World) (l : List UInt8) (v : Value) (wr : World) : Prop := wr.ownsRow w.heap.size 5 1 v l.length (bvs l) ∧ Below w.heap.size w wr
theorem hexB_val (n : Nat) (h : n < 16) : (n ≤ 9 ∧ ((hexB n).toNat : Int) = 48 + n) ∨ (9 < n ∧ ((hexB n).toNat : Int) = 97 + n - 10) := by
  have : ∀ n : Fin 16, (n.1 ≤ 9 ∧ ((hexB n.1).toNat : Int) = 48 + n.1) ∨ (9 < n.1 ∧ ((hexB n.1).toNat : Int) = 97 + n.1 - 10) := by decide +kernel
  exact this ⟨n, h⟩
theorem EInv.byte {w wr w3 : World} {v v' : Value} {l : List UInt8} (c : UInt8) (h : EInv w l v wr) (o : Obj) (hown : w3.ownsRow w.heap.size 5 1 v' (l.length + 1) (bvs l ++ [.int .u8 (c.toNat : Int)])) (hg : (wr.alloc o).grownBy w3 v.ownBlock) : EInv w (l ++ [c]) v' w3 := by
  obtain ⟨hrow, hbw⟩ := h
  refine ⟨?_, Below.grown (hbw.alloc hbw.size _) hg (by have := hbw.size; simp; omega) (fun j hj => (hrow.lt _ hj).1)⟩
  rw [bvs_append, List.length_append, List.length_singleton]
  exact hown
theorem strCells_bvs (s : ByteArray) : Lib.strCells s = bvs (toL s) := by
  unfold Lib.strCells bvs toL
  rfl
theorem EInv.text {w wr w3 : World} {v v' : Value} {l : List UInt8} (s : ByteArray) (h : EInv w l v wr) (hown : w3.ownsRow w.heap.size 5 1 v' (l.length + s.size) (bvs l ++ Lib.strCells s)) (hg : wr.grownBy w3 v.ownBlock) : EInv w (l ++ toL s) v' w3 := by
  obtain ⟨hrow, hbw⟩ := h
  refine ⟨?_, Below.grown hbw hg hbw.size (fun j hj => (hrow.lt _ hj).1)⟩
  rw [bvs_append, List.length_append, toL_length, ← strCells_bvs]
  exact hown
theorem bvs_of {l : List UInt8} {w : World} {b : Nat} {v : Value} (h : w.ownsRow b 5 1 v l.length (bvs l)) : ∃ p cap, v = .slice p l.length cap := by
  obtain ⟨p, cap, hv, _, _⟩ := row_cells h
  exact ⟨p, cap, hv⟩
set_option maxHeartbeats 3200000 in
theorem r10enc_any (s : ByteArray) (hs : s.size < 268435456) (w : World) :
    Calls Tryd.prog 11 #[.string s] w fun e w' => ∃ v, e = .returned v ∧ w'.ownsRow w.heap.size 5 1 v (enc (toL s)).length (bvs (enc (toL s))) ∧ Below w.heap.size w w' := by
  obtain ⟨i0, hi, hz0, hz1, hz2⟩ := info_parts infoB
  have hlen : ∀ q, q < 268435456 → (outN q).length ≤ 7 := fun q hq => by
    unfold outN
    split
    · exact Nat.zero_le _
    · exact hexN_len 6 q (by omega)
  replace hlen := Lib.hid hlen
  have HK : Hid (EInv w (outN (quot s.size 268435456)) (.slice none 0 0) w) := Lib.hid (by
    have : quot s.size 268435456 = 0 := by unfold quot; rw [if_neg (by decide)]; omega
    rw [this]
    exact ⟨World.ownsRow_nil _ _ _ _, Below.refl _ _⟩)
  go_enter Tryd.func11, Tryd.ntmps11
  go_wp2_with fail
  go_loopw [3, 4] (fun v d wr => ∃ D : Nat, d = .int .i64 D ∧ Hid (Pow D ∧ EInv w (outN (quot s.size D)) v wr)) (fun _ d _ => (intOf d).toNat)
  case atStart => exact ⟨268435456, rfl, Lib.hid ⟨by unfold Pow; simp, HK.out⟩⟩
  case round =>
    obtain ⟨D, rfl, HI⟩ := hrel
    clear HK
    obtain ⟨hpow, hE⟩ := HI.out
    have hD := pow_le hpow
    by_cases h0 : s.size = 0
    · have h0i : (s.size : Int) = 0 := by omega
      have hz : toL s = [] := List.length_eq_zero_iff.1 (by rw [toL_length]; exact h0)
      have hq : quot s.size D = 0 := by rw [h0]; unfold quot; split <;> simp
      rw [hq] at hE
      have HV : Hid (∃ v : Value, u3 = v ∧ wr.ownsRow w.heap.size 5 1 v (enc (toL s)).length (bvs (enc (toL s))) ∧ Below w.heap.size w wr) := Lib.hid ⟨_, rfl, by rw [hz]; exact hE.1, hE.2⟩
      clear HI hz hq hE hpow h0
      by_cases hd : D = 0
      all_goals
        have hdi : (D : Int) = 0 ∨ (0 : Int) < (D : Int) := by omega
        rcases hdi with hdi | hdi
        all_goals
          go_wp2_with fail
          go_ret
          obtain ⟨v, rfl, h1, h2⟩ := HV.out
          exact ⟨_, rfl, h1, h2⟩
    · have hp : (0 : Int) < (s.size : Int) := by omega
      by_cases hd : D = 0
      · subst hd
        have hq : quot s.size 0 = s.size := rfl
        rw [hq] at hE
        have hl := hlen.out s.size hs
        have he : enc (toL s) = outN s.size ++ [13] ++ [10] ++ toL s ++ [13] ++ [10] := by
          unfold enc outN
          rw [if_neg (fun h => h0 (by rw [← toL_length, h]; rfl)), if_neg h0, toL_length]
          simp
        replace he := Lib.hid he
        generalize outN s.size = L at *
        obtain ⟨hrow0, hbw0⟩ := id hE
        have hE0 := Lib.hid hE
        clear HI hq hpow hD hE
        go_wp2_with (at_builtin; first
          | (refine wpList_append_own _ rfl _ _ 31 rfl w.heap.size 5 i0 (.int .u8 0) 1 1 Tryd.underlying31 hi hz0 hz1 hz2 rfl (by decide) _ _ _ rfl (hrow4.alloc _) ⟨wD.heap.size, 0, none⟩ 1 1 [.int .u8 10] rfl rfl (cell_one_new _ _ _) (fun x hx => by simp at hx; subst hx; rfl) (by unfold maxLen; omega) (by omega) (by have := hbw4.size; simp; omega) ?_
             intro v5 wE hown hgrow hnil
             have hE5 := Lib.hid (hE4.out.byte 10 _ hown hgrow)
             clear hown hgrow hnil hrow4 hbw4 hE4
             obtain ⟨hrow5, hbw5⟩ := hE5.out
             have hl5 : (L ++ [13] ++ [10] ++ toL s ++ [13] ++ [10]).length ≤ 268435468 := by rw [List.length_append, List.length_singleton]; omega)
          | (refine wpList_append_own _ rfl _ _ 31 rfl w.heap.size 5 i0 (.int .u8 0) 1 1 Tryd.underlying31 hi hz0 hz1 hz2 rfl (by decide) _ _ _ rfl (hrow3.alloc _) ⟨wC.heap.size, 0, none⟩ 1 1 [.int .u8 13] rfl rfl (cell_one_new _ _ _) (fun x hx => by simp at hx; subst hx; rfl) (by unfold maxLen; omega) (by omega) (by have := hbw3.size; simp; omega) ?_
             intro v4 wD hown hgrow hnil
             have hE4 := Lib.hid (hE3.out.byte 13 _ hown hgrow)
             clear hown hgrow hnil hrow3 hbw3 hE3
             obtain ⟨hrow4, hbw4⟩ := hE4.out
             have hl4 : (L ++ [13] ++ [10] ++ toL s ++ [13]).length ≤ 268435467 := by rw [List.length_append, List.length_singleton]; omega)
          | (refine Lib.wpList_append_own_string _ rfl _ _ 31 9 rfl w.heap.size 5 i0 Tryd.underlying31 Tryd.underlying9 hi hz0 hz1 hz2 _ _ _ rfl hrow2 s rfl (by unfold maxLen; omega) (by omega) hbw2.size ?_
             intro v3 wC hown hgrow hnil
             have hE3 := Lib.hid (hE2.out.text s hown hgrow)
             clear hown hgrow hnil hrow2 hbw2 hE2
             obtain ⟨hrow3, hbw3⟩ := hE3.out
             have hl3 : (L ++ [13] ++ [10] ++ toL s).length ≤ 268435466 := by rw [List.length_append, toL_length]; omega)
          | (refine wpList_append_own _ rfl _ _ 31 rfl w.heap.size 5 i0 (.int .u8 0) 1 1 Tryd.underlying31 hi hz0 hz1 hz2 rfl (by decide) _ _ _ rfl (hrow1.alloc _) ⟨wA.heap.size, 0, none⟩ 1 1 [.int .u8 10] rfl rfl (cell_one_new _ _ _) (fun x hx => by simp at hx; subst hx; rfl) (by unfold maxLen; omega) (by omega) (by have := hbw1.size; simp; omega) ?_
             intro v2 wB hown hgrow hnil
             have hE2 := Lib.hid (hE1.out.byte 10 _ hown hgrow)
             clear hown hgrow hnil hrow1 hbw1 hE1
             obtain ⟨hrow2, hbw2⟩ := hE2.out
             have hl2 : (L ++ [13] ++ [10]).length ≤ 9 := by rw [List.length_append, List.length_singleton]; omega)
          | (refine wpList_append_own _ rfl _ _ 31 rfl w.heap.size 5 i0 (.int .u8 0) 1 1 Tryd.underlying31 hi hz0 hz1 hz2 rfl (by decide) _ _ _ rfl (hrow0.alloc _) ⟨wr.heap.size, 0, none⟩ 1 1 [.int .u8 13] rfl rfl (cell_one_new _ _ _) (fun x hx => by simp at hx; subst hx; rfl) (by unfold maxLen; omega) (by omega) (by have := hbw0.size; simp; omega) ?_
             intro v1 wA hown hgrow hnil
             have hE1 := Lib.hid (hE0.out.byte 13 _ hown hgrow)
             clear hown hgrow hnil hrow0 hbw0 hE0
             obtain ⟨hrow1, hbw1⟩ := hE1.out
             have hl1 : (L ++ [13]).length ≤ 8 := by rw [List.length_append, List.length_singleton]; omega))
        rw [← he.out] at hE5
        clear hrow5 hbw5
        go_wp2_with fail
        go_ret
        exact ⟨_, rfl, hE5.out.1, hE5.out.2⟩
      · have hdi : (0 : Int) < (D : Int) := by omega
        obtain ⟨n1, n2, n3⟩ := quot_next (N := s.size) hpow hd
        obtain ⟨q, hq⟩ : ∃ q, q = s.size / D := ⟨_, rfl⟩
        have hqi : (s.size : Int) / (D : Int) = (q : Int) := by rw [hq]; omega
        have hqlt : q < 268435456 := by rw [hq]; exact Nat.lt_of_le_of_lt (Nat.div_le_self _ _) hs
        have hqb : (q : Int) ≤ 268435456 := by omega
        have hqc : (0 : Int) ≤ (q : Int) := by omega
        obtain ⟨n, hn⟩ : ∃ n, n = q % 16 := ⟨_, rfl⟩
        have hni : (q : Int) % 16 = (n : Int) := by rw [hn]; omega
        have hn16 : n < 16 := by omega
        rw [← hq] at n1 n2
        rw [n2] at hE
        have hl := hlen.out (q / 16) (by omega)
        have hHx := hexB_val n hn16
        have n1h := Lib.hid n1
        have n3h := Lib.hid n3
        by_cases hq0 : q = 0
        · have hE2 : EInv w [] u3 wr := by
            have : outN (q / 16) = [] := by rw [hq0]; rfl
            rw [this] at hE
            exact hE
          obtain ⟨p, cap, rfl⟩ := bvs_of hE2.1
          have HJ : Hid (Pow (D / 16) ∧ EInv w (outN (quot s.size (D / 16))) (.slice p ([] : List UInt8).length cap) wr) := Lib.hid ⟨n3, by rw [n1, hq0]; exact hE2⟩
          have hn0 : n = 0 := by rw [hn, hq0]
          subst hn0
          replace hni : (q : Int) % 16 = 0 := hni
          rw [show ([] : List UInt8).length = 0 from rfl] at HJ ⊢
          clear HI hq hn n1 n2 n3 hE hE2 hHx hl hn16 hqlt hpow hq0 hd n1h n3h
          go_wp2_with fail
          go_roundw
          case rel => exact ⟨D / 16, by go_num, HJ⟩
          case measure => simp [intOf]; omega
        · have hNx := Lib.hid (outN_next q hq0)
          rw [← hn] at hNx
          have hemp : n = 0 → 0 < (outN (q / 16)).length := fun h => by
            unfold outN
            rw [if_neg (by omega)]
            exact List.length_pos_iff.2 (hexN_ne _)
          obtain ⟨hrow0, hbw0⟩ := id hE
          obtain ⟨p, cap, rfl⟩ := bvs_of hrow0
          have hE0 := Lib.hid hE
          clear HI hq hn n1 n2 n3 hE hqlt hpow hq0
          generalize outN (q / 16) = L at *
          rcases (show (n = 0 ∧ 0 < L.length ∧ ((hexB n).toNat : Int) = 48 + n) ∨ (((n : Int) == 0) = false ∧ n ≤ 9 ∧ ((hexB n).toNat : Int) = 48 + n) ∨ (((n : Int) == 0) = false ∧ 9 < n ∧ ((hexB n).toNat : Int) = 97 + n - 10) by
            rcases hHx with ⟨h1, h2⟩ | ⟨h1, h2⟩
            · by_cases hn0 : n = 0
              · exact .inl ⟨hn0, hemp hn0, h2⟩
              · exact .inr (.inl ⟨beq_eq_false_iff_ne.2 (by omega), h1, h2⟩)
            · exact .inr (.inr ⟨beq_eq_false_iff_ne.2 (by omega), h1, h2⟩)) with ⟨h1, h2, h3⟩ | ⟨h1, h2, h3⟩ | ⟨h1, h2, h3⟩
          · subst h1
            replace hni : (q : Int) % 16 = 0 := hni
            have HV : Hid ((.int .u8 48 : Value) = .int .u8 ((hexB 0).toNat : Int)) := Lib.hid (by rw [h3]; rfl)
            have h2i : ((L.length : Int) == 0) = false := beq_eq_false_iff_ne.2 (by omega)
            clear h3 hemp hHx
            go_wp2_with (at_builtin; refine wpList_append_own _ rfl _ _ 31 rfl w.heap.size 5 i0 (.int .u8 0) 1 1 Tryd.underlying31 hi hz0 hz1 hz2 rfl (by decide) _ _ _ rfl (hrow0.alloc _) ⟨wr.heap.size, 0, none⟩ 1 1 [.int .u8 (48)] rfl rfl (cell_one_new _ _ _) (fun x hx => by simp at hx; subst hx; rfl) (by unfold maxLen; omega) (by omega) (by have := hbw0.size; simp; omega) ?_; intro v1 wA hown hgrow hnil)
            rw [HV.out] at hown
            have hE1 := Lib.hid (hE0.out.byte (hexB 0) _ hown hgrow)
            rw [← hNx.out] at hE1
            have HJ : Hid (Pow (D / 16) ∧ EInv w (outN (quot s.size (D / 16))) v1 wA) := Lib.hid ⟨n3h.out, by rw [n1h.out]; exact hE1.out⟩
            clear hown hgrow hnil hrow0 hbw0 hE0 hE1
            go_wp2_with fail
            go_roundw
            case rel => exact ⟨D / 16, by go_num, HJ⟩
            case measure => simp [intOf]; omega
          · have HV : Hid ((.int .u8 (48 + (n : Int)) : Value) = .int .u8 ((hexB n).toNat : Int)) := Lib.hid (by rw [h3])
            have h2i : (n : Int) ≤ 9 := by omega
            clear h3 hemp hHx h2
            go_wp2_with (at_builtin; refine wpList_append_own _ rfl _ _ 31 rfl w.heap.size 5 i0 (.int .u8 0) 1 1 Tryd.underlying31 hi hz0 hz1 hz2 rfl (by decide) _ _ _ rfl (hrow0.alloc _) ⟨wr.heap.size, 0, none⟩ 1 1 [.int .u8 (48 + (n : Int))] rfl rfl (cell_one_new _ _ _) (fun x hx => by simp at hx; subst hx; rfl) (by unfold maxLen; omega) (by omega) (by have := hbw0.size; simp; omega) ?_; intro v1 wA hown hgrow hnil)
            rw [HV.out] at hown
            have hE1 := Lib.hid (hE0.out.byte (hexB n) _ hown hgrow)
            rw [← hNx.out] at hE1
            have HJ : Hid (Pow (D / 16) ∧ EInv w (outN (quot s.size (D / 16))) v1 wA) := Lib.hid ⟨n3h.out, by rw [n1h.out]; exact hE1.out⟩
            clear hown hgrow hnil hrow0 hbw0 hE0 hE1
            go_wp2_with fail
            go_roundw
            case rel => exact ⟨D / 16, by go_num, HJ⟩
            case measure => simp [intOf]; omega
          · have HV : Hid ((.int .u8 (97 + (n : Int) - 10) : Value) = .int .u8 ((hexB n).toNat : Int)) := Lib.hid (by rw [h3])
            have h2i : (9 : Int) < (n : Int) := by omega
            clear h3 hemp hHx h2
            go_wp2_with (at_builtin; refine wpList_append_own _ rfl _ _ 31 rfl w.heap.size 5 i0 (.int .u8 0) 1 1 Tryd.underlying31 hi hz0 hz1 hz2 rfl (by decide) _ _ _ rfl (hrow0.alloc _) ⟨wr.heap.size, 0, none⟩ 1 1 [.int .u8 (97 + (n : Int) - 10)] rfl rfl (cell_one_new _ _ _) (fun x hx => by simp at hx; subst hx; rfl) (by unfold maxLen; omega) (by omega) (by have := hbw0.size; simp; omega) ?_; intro v1 wA hown hgrow hnil)
            rw [HV.out] at hown
            have hE1 := Lib.hid (hE0.out.byte (hexB n) _ hown hgrow)
            rw [← hNx.out] at hE1
            have HJ : Hid (Pow (D / 16) ∧ EInv w (outN (quot s.size (D / 16))) v1 wA) := Lib.hid ⟨n3h.out, by rw [n1h.out]; exact hE1.out⟩
            clear hown hgrow hnil hrow0 hbw0 hE0 hE1
            go_wp2_with fail
            go_roundw
            case rel => exact ⟨D / 16, by go_num, HJ⟩
            case measure => simp [intOf]; omega
end Go.Proofs.YtlgohmghjffiaaaDoor.R10Enc
