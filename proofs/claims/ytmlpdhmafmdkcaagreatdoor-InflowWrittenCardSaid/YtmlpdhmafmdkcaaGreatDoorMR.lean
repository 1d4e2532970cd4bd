/- Texts of this seat, one behind another: L11Dig, R10Enc, L11Writ, L11Trim, InflowRestW. -/
import Derived.Lib.Hide
import Derived.Below
import Derived.Outline
import Derived.LoopTactic
import Derived.Handy
import Derived.Deep.RegionWith
import Derived.Deep.RegionHeld3
import Derived.IntWalk
import Derived.Lib.AppendStr
import Derived.Maps.AppendAt
import Derived.Laws.DeepStrings4
import Derived.Test.YtmlpdhmafmdkcaaGreatDoorA3
import Derived.Test.YtmlpdhmafmdkcaaGreatDoorA1
import Derived.Test.YtmlpdhmafmdkcaaGreatDoorA15
import Derived.Test.YtmlpdhmafmdkcaaGreatDoorB
/- Layer 11's law: digits. -/
namespace Go.Proofs.YtmlpdhmafmdkcaaGreatDoor.L11Dig
open Go.ChangeShapes Go.WideShapes Go.ChangeAt Go.RowKit Bytes LexPure Ret InflowWrit Mem
set_option maxRecDepth 20000
theorem conv_one (W : World) (g : Nat) (c : UInt8) (x : Int) (hx : x = (c.toNat : Int)) (h : W.cell? ⟨g, 0, none⟩ = some (.int .u8 x)) :
    (Go.convert 46 9 (.slice (some ⟨g, 0, none⟩) 1 1)).run Tryz.prog W = .ok (.string (ofL [c])) W :=
  run_convert_bytes_back _ 46 9 5 ⟨g, 0, none⟩ 1 [c] Tryz.underlying46 Tryz.underlying5 Tryz.underlying9 (fun j hj => by
    match j, hj with
    | 0, _ =>
      rw [show (⟨g, 0, none⟩ : Addr).add 0 = ⟨g, 0, none⟩ by unfold Addr.add; simp, h, hx]
      rfl)
theorem decB_int {n : Nat} (h : n < 10) : ((decB n).toNat : Int) = 48 + (n : Int) := by
  have : ∀ n : Fin 10, ((decB n.1).toNat : Int) = 48 + (n.1 : Int) := by decide
  exact this ⟨n, h⟩
theorem lt_cell {W : World} {g : Nat} {v : Value} (h : W.cell? ⟨g, 0, none⟩ = some v) : g < W.heap.size := World.block_lt_of_cell? _ _ h
set_option maxHeartbeats 1600000 in
theorem digits_any (n : Nat) : ∀ (_hn : n ≤ 1000000000000000000) (w : World),
    Calls Tryz.prog 7 #[.int .i64 n] w fun e w' => e = .returned (.string (ofL (decN n))) ∧ Below w.heap.size w w' := by
  induction n using Nat.strongRecOn with
  | ind n ih =>
    intro hn w
    by_cases h : n < 10
    · have hi : (n : Int) < 10 := by omega
      have h0 : (0 : Int) ≤ (n : Int) := by omega
      have HC := conv_one (w.alloc (.cells #[.int .u8 (48 + (n : Int))] 5)) w.heap.size (decB n) (48 + n) (decB_int h).symm ((Has.new w _ _).cell 0)
      have HV : Hid (decN n = [decB n]) := Lib.hid (decN_small h)
      clear ih
      go_enter Tryz.func7, Tryz.ntmps7
      go_wp2_with fail
      go_ret
      exact ⟨by rw [HV.out]; rfl, (Below.refl _ _).alloc (Nat.le_refl _) _⟩
    · have hi : ¬ (n : Int) < 10 := by omega
      have qe : IntKind.i64.wrap ((n : Int) / 10) = ((n / 10 : Nat) : Int) := by rw [IntWalk.i64_in _ (by omega)]; omega
      have HI := fun w => ih (n / 10) (by omega) (by omega) w
      rw [← qe] at HI
      replace HI := Lib.hid HI
      have HV : Hid (ofL (decN n) = ofL (decN (n / 10)) ++ ofL [decB (n % 10)]) := Lib.hid (by
        apply toL_inj
        rw [toL_append, toL_ofL, toL_ofL, toL_ofL, decN_more h])
      have hl : (ofL (decN (n / 10))).size ≤ 20 := by
        rw [ofL_size]
        have := decN_len 18 (n / 10) (by omega)
        omega
      clear qe
      have hsz : (ofL (decN (n / 10))).size + (ofL [decB (n % 10)]).size ≤ 9223372036854775807 := by rw [ofL_size [decB (n % 10)], List.length_singleton]; omega
      have q3 : IntKind.u8.wrap (IntKind.i64.wrap (48 + (n : Int).tmod 10)) = ((decB (n % 10)).toNat : Int) := by
        rw [Int.tmod_eq_emod_of_nonneg (by omega), decB_int (by omega), IntWalk.i64_in _ (by omega), IntKind.wrap_u8]
        omega
      have HCa := fun (W : World) => conv_one (W.alloc (.cells #[.int .u8 (IntKind.u8.wrap (IntKind.i64.wrap (48 + (n : Int).tmod 10)))] 5)) W.heap.size (decB (n % 10)) _ q3 ((Has.new W _ _).cell 0)
      have HCc := fun (W : World) (g : Nat) => conv_one W g (decB (n % 10)) _ q3
      clear q3
      go_enter Tryz.func7, Tryz.ntmps7
      go_wp2_with fail
      go_region_with (go_at_call 7; refine (HI.out _).mono ?_; rintro e w1 ⟨rfl, hb1⟩; have hcb := fun h => HCc w1 w.heap.size ((hb1.cell (p := ⟨w.heap.size, 0, none⟩) (lt_cell h)).trans h))
      all_goals
        replace hb1 := Lib.hid hb1
        clear HCa HCc hcb HI ih hsz
        go_wp2_with fail
        go_ret
        refine ⟨by rw [HV.out]; rfl, ?_⟩
        first
          | exact (below_chain (Below.drew (Below.refl _ _)) hb1.out).alloc (Nat.le_trans (Nat.le_refl _) hb1.out.size) _
          | exact below_chain (Below.alloc (Below.drew (Below.refl _ _)) (Nat.le_refl _) _) hb1.out
end Go.Proofs.YtmlpdhmafmdkcaaGreatDoor.L11Dig

/- Layer 10, the document's own Encode. -/
namespace Go.Proofs.YtmlpdhmafmdkcaaGreatDoor.R10Enc
open Go.ChangeShapes Go.WideShapes Go.ChangeAt Go.RowKit LexPure Bytes Ret Rows1 ChunkHex Mem
set_option maxRecDepth 20000
theorem infoB : (Tryz.prog.info? 5).map (fun i => (i.zero, i.size, i.bytes)) = some (some (.int .u8 0), 1, 1) := by kernel_rfl
/-- the digits so far -/
def outN (q : Nat) : List UInt8 := if q = 0 then [] else hexN q
/-- the place of the next digit -/
def Pow (D : Nat) : Prop := D = 0 ∨ D = 1 ∨ D = 16 ∨ D = 256 ∨ D = 4096 ∨ D = 65536 ∨ D = 1048576 ∨ D = 16777216 ∨ D = 268435456
theorem pow_le {D : Nat} (h : Pow D) : D ≤ 268435456 := by rcases h with rfl | rfl | rfl | rfl | rfl | rfl | rfl | rfl | rfl <;> decide
def quot (N D : Nat) : Nat := if D = 0 then N else N / (16 * D)
theorem quot_next {N D : Nat} (h : Pow D) (h0 : D ≠ 0) : quot N (D / 16) = N / D ∧ quot N D = N / D / 16 ∧ Pow (D / 16) := by
  have h1 : quot N D = N / D / 16 := by
    unfold quot
    rw [if_neg h0, Nat.mul_comm, Nat.div_div_eq_div_mul]
  refine ⟨?_, h1, ?_⟩
  · rcases h with rfl | rfl | rfl | rfl | rfl | rfl | rfl | rfl | rfl
    · exact absurd rfl h0
    · simp [quot]
    all_goals rfl
  · rcases h with rfl | rfl | rfl | rfl | rfl | rfl | rfl | rfl | rfl
    · exact absurd rfl h0
    all_goals (unfold Pow; decide)
theorem outN_next (q : Nat) (h : q ≠ 0) : outN q = outN (q / 16) ++ [hexB (q % 16)] := by
  unfold outN
  rw [if_neg h]
  by_cases h2 : q < 16
  · rw [hexN_small h2, if_pos (by omega), show q % 16 = q by omega]
    rfl
  · rw [hexN_more h2, if_neg (by omega)]
def EInv (w : World) (l : List UInt8) (v : Value) (wr : World) : Prop := wr.ownsRow w.heap.size 5 1 v l.length (bvs l) ∧ Below w.heap.size w wr
theorem hexB_val (n : Nat) (h : n < 16) : (n ≤ 9 ∧ ((hexB n).toNat : Int) = 48 + n) ∨ (9 < n ∧ ((hexB n).toNat : Int) = 97 + n - 10) := by
  have : ∀ n : Fin 16, (n.1 ≤ 9 ∧ ((hexB n.1).toNat : Int) = 48 + n.1) ∨ (9 < n.1 ∧ ((hexB n.1).toNat : Int) = 97 + n.1 - 10) := by decide +kernel
  exact this ⟨n, h⟩
theorem EInv.byte {w wr w3 : World} {v v' : Value} {l : List UInt8} (c : UInt8) (h : EInv w l v wr) (o : Obj) (hown : w3.ownsRow w.heap.size 5 1 v' (l.length + 1) (bvs l ++ [.int .u8 (c.toNat : Int)])) (hg : (wr.alloc o).grownBy w3 v.ownBlock) : EInv w (l ++ [c]) v' w3 := by
  obtain ⟨hrow, hbw⟩ := h
  refine ⟨?_, Below.grown (hbw.alloc hbw.size _) hg (by have := hbw.size; simp; omega) (fun j hj => (hrow.lt _ hj).1)⟩
  rw [bvs_append, List.length_append, List.length_singleton]
  exact hown
theorem strCells_bvs (s : ByteArray) : Lib.strCells s = bvs (toL s) := by
  unfold Lib.strCells bvs toL
  rfl
theorem EInv.text {w wr w3 : World} {v v' : Value} {l : List UInt8} (s : ByteArray) (h : EInv w l v wr) (hown : w3.ownsRow w.heap.size 5 1 v' (l.length + s.size) (bvs l ++ Lib.strCells s)) (hg : wr.grownBy w3 v.ownBlock) : EInv w (l ++ toL s) v' w3 := by
  obtain ⟨hrow, hbw⟩ := h
  refine ⟨?_, Below.grown hbw hg hbw.size (fun j hj => (hrow.lt _ hj).1)⟩
  rw [bvs_append, List.length_append, toL_length, ← strCells_bvs]
  exact hown
theorem bvs_of {l : List UInt8} {w : World} {b : Nat} {v : Value} (h : w.ownsRow b 5 1 v l.length (bvs l)) : ∃ p cap, v = .slice p l.length cap := by
  obtain ⟨p, cap, hv, _, _⟩ := row_cells h
  exact ⟨p, cap, hv⟩
set_option maxHeartbeats 3200000 in
theorem r10enc_any (s : ByteArray) (hs : s.size < 268435456) (w : World) :
    Calls Tryz.prog 14 #[.string s] w fun e w' => ∃ v, e = .returned v ∧ w'.ownsRow w.heap.size 5 1 v (enc (toL s)).length (bvs (enc (toL s))) ∧ Below w.heap.size w w' := by
  obtain ⟨i0, hi, hz0, hz1, hz2⟩ := info_parts infoB
  have hlen : ∀ q, q < 268435456 → (outN q).length ≤ 7 := fun q hq => by
    unfold outN
    split
    · exact Nat.zero_le _
    · exact hexN_len 6 q (by omega)
  replace hlen := Lib.hid hlen
  have HK : Hid (EInv w (outN (quot s.size 268435456)) (.slice none 0 0) w) := Lib.hid (by
    have : quot s.size 268435456 = 0 := by unfold quot; rw [if_neg (by decide)]; omega
    rw [this]
    exact ⟨World.ownsRow_nil _ _ _ _, Below.refl _ _⟩)
  go_enter Tryz.func14, Tryz.ntmps14
  go_wp2_with fail
  go_loopw [3, 4] (fun v d wr => ∃ D : Nat, d = .int .i64 D ∧ Hid (Pow D ∧ EInv w (outN (quot s.size D)) v wr)) (fun _ d _ => (intOf d).toNat)
  case atStart => exact ⟨268435456, rfl, Lib.hid ⟨by unfold Pow; simp, HK.out⟩⟩
  case round =>
    obtain ⟨D, rfl, HI⟩ := hrel
    clear HK
    obtain ⟨hpow, hE⟩ := HI.out
    have hD := pow_le hpow
    by_cases h0 : s.size = 0
    · have h0i : (s.size : Int) = 0 := by omega
      have hz : toL s = [] := List.length_eq_zero_iff.1 (by rw [toL_length]; exact h0)
      have hq : quot s.size D = 0 := by rw [h0]; unfold quot; split <;> simp
      rw [hq] at hE
      have HV : Hid (∃ v : Value, u3 = v ∧ wr.ownsRow w.heap.size 5 1 v (enc (toL s)).length (bvs (enc (toL s))) ∧ Below w.heap.size w wr) := Lib.hid ⟨_, rfl, by rw [hz]; exact hE.1, hE.2⟩
      clear HI hz hq hE hpow h0
      by_cases hd : D = 0
      all_goals
        have hdi : (D : Int) = 0 ∨ (0 : Int) < (D : Int) := by omega
        rcases hdi with hdi | hdi
        all_goals
          go_wp2_with fail
          go_ret
          obtain ⟨v, rfl, h1, h2⟩ := HV.out
          exact ⟨_, rfl, h1, h2⟩
    · have hp : (0 : Int) < (s.size : Int) := by omega
      by_cases hd : D = 0
      · subst hd
        have hq : quot s.size 0 = s.size := rfl
        rw [hq] at hE
        have hl := hlen.out s.size hs
        have he : enc (toL s) = outN s.size ++ [13] ++ [10] ++ toL s ++ [13] ++ [10] := by
          unfold enc outN
          rw [if_neg (fun h => h0 (by rw [← toL_length, h]; rfl)), if_neg h0, toL_length]
          simp
        replace he := Lib.hid he
        generalize outN s.size = L at *
        obtain ⟨hrow0, hbw0⟩ := id hE
        have hE0 := Lib.hid hE
        clear HI hq hpow hD hE
        go_wp2_with (at_builtin; first
          | (refine wpList_append_own _ rfl _ _ 46 rfl w.heap.size 5 i0 (.int .u8 0) 1 1 Tryz.underlying46 hi hz0 hz1 hz2 rfl (by decide) _ _ _ rfl (hrow4.alloc _) ⟨wD.heap.size, 0, none⟩ 1 1 [.int .u8 10] rfl rfl (cell_one_new _ _ _) (fun x hx => by simp at hx; subst hx; rfl) (by unfold maxLen; omega) (by omega) (by have := hbw4.size; simp; omega) ?_
             intro v5 wE hown hgrow hnil
             have hE5 := Lib.hid (hE4.out.byte 10 _ hown hgrow)
             clear hown hgrow hnil hrow4 hbw4 hE4
             obtain ⟨hrow5, hbw5⟩ := hE5.out
             have hl5 : (L ++ [13] ++ [10] ++ toL s ++ [13] ++ [10]).length ≤ 268435468 := by rw [List.length_append, List.length_singleton]; omega)
          | (refine wpList_append_own _ rfl _ _ 46 rfl w.heap.size 5 i0 (.int .u8 0) 1 1 Tryz.underlying46 hi hz0 hz1 hz2 rfl (by decide) _ _ _ rfl (hrow3.alloc _) ⟨wC.heap.size, 0, none⟩ 1 1 [.int .u8 13] rfl rfl (cell_one_new _ _ _) (fun x hx => by simp at hx; subst hx; rfl) (by unfold maxLen; omega) (by omega) (by have := hbw3.size; simp; omega) ?_
             intro v4 wD hown hgrow hnil
             have hE4 := Lib.hid (hE3.out.byte 13 _ hown hgrow)
             clear hown hgrow hnil hrow3 hbw3 hE3
             obtain ⟨hrow4, hbw4⟩ := hE4.out
             have hl4 : (L ++ [13] ++ [10] ++ toL s ++ [13]).length ≤ 268435467 := by rw [List.length_append, List.length_singleton]; omega)
          | (refine Lib.wpList_append_own_string _ rfl _ _ 46 9 rfl w.heap.size 5 i0 Tryz.underlying46 Tryz.underlying9 hi hz0 hz1 hz2 _ _ _ rfl hrow2 s rfl (by unfold maxLen; omega) (by omega) hbw2.size ?_
             intro v3 wC hown hgrow hnil
             have hE3 := Lib.hid (hE2.out.text s hown hgrow)
             clear hown hgrow hnil hrow2 hbw2 hE2
             obtain ⟨hrow3, hbw3⟩ := hE3.out
             have hl3 : (L ++ [13] ++ [10] ++ toL s).length ≤ 268435466 := by rw [List.length_append, toL_length]; omega)
          | (refine wpList_append_own _ rfl _ _ 46 rfl w.heap.size 5 i0 (.int .u8 0) 1 1 Tryz.underlying46 hi hz0 hz1 hz2 rfl (by decide) _ _ _ rfl (hrow1.alloc _) ⟨wA.heap.size, 0, none⟩ 1 1 [.int .u8 10] rfl rfl (cell_one_new _ _ _) (fun x hx => by simp at hx; subst hx; rfl) (by unfold maxLen; omega) (by omega) (by have := hbw1.size; simp; omega) ?_
             intro v2 wB hown hgrow hnil
             have hE2 := Lib.hid (hE1.out.byte 10 _ hown hgrow)
             clear hown hgrow hnil hrow1 hbw1 hE1
             obtain ⟨hrow2, hbw2⟩ := hE2.out
             have hl2 : (L ++ [13] ++ [10]).length ≤ 9 := by rw [List.length_append, List.length_singleton]; omega)
          | (refine wpList_append_own _ rfl _ _ 46 rfl w.heap.size 5 i0 (.int .u8 0) 1 1 Tryz.underlying46 hi hz0 hz1 hz2 rfl (by decide) _ _ _ rfl (hrow0.alloc _) ⟨wr.heap.size, 0, none⟩ 1 1 [.int .u8 13] rfl rfl (cell_one_new _ _ _) (fun x hx => by simp at hx; subst hx; rfl) (by unfold maxLen; omega) (by omega) (by have := hbw0.size; simp; omega) ?_
             intro v1 wA hown hgrow hnil
             have hE1 := Lib.hid (hE0.out.byte 13 _ hown hgrow)
             clear hown hgrow hnil hrow0 hbw0 hE0
             obtain ⟨hrow1, hbw1⟩ := hE1.out
             have hl1 : (L ++ [13]).length ≤ 8 := by rw [List.length_append, List.length_singleton]; omega))
        rw [← he.out] at hE5
        clear hrow5 hbw5
        go_wp2_with fail
        go_ret
        exact ⟨_, rfl, hE5.out.1, hE5.out.2⟩
      · have hdi : (0 : Int) < (D : Int) := by omega
        obtain ⟨n1, n2, n3⟩ := quot_next (N := s.size) hpow hd
        obtain ⟨q, hq⟩ : ∃ q, q = s.size / D := ⟨_, rfl⟩
        have hqi : (s.size : Int) / (D : Int) = (q : Int) := by rw [hq]; omega
        have hqlt : q < 268435456 := by rw [hq]; exact Nat.lt_of_le_of_lt (Nat.div_le_self _ _) hs
        have hqb : (q : Int) ≤ 268435456 := by omega
        have hqc : (0 : Int) ≤ (q : Int) := by omega
        obtain ⟨n, hn⟩ : ∃ n, n = q % 16 := ⟨_, rfl⟩
        have hni : (q : Int) % 16 = (n : Int) := by rw [hn]; omega
        have hn16 : n < 16 := by omega
        rw [← hq] at n1 n2
        rw [n2] at hE
        have hl := hlen.out (q / 16) (by omega)
        have hHx := hexB_val n hn16
        have n1h := Lib.hid n1
        have n3h := Lib.hid n3
        by_cases hq0 : q = 0
        · have hE2 : EInv w [] u3 wr := by
            have : outN (q / 16) = [] := by rw [hq0]; rfl
            rw [this] at hE
            exact hE
          obtain ⟨p, cap, rfl⟩ := bvs_of hE2.1
          have HJ : Hid (Pow (D / 16) ∧ EInv w (outN (quot s.size (D / 16))) (.slice p ([] : List UInt8).length cap) wr) := Lib.hid ⟨n3, by rw [n1, hq0]; exact hE2⟩
          have hn0 : n = 0 := by rw [hn, hq0]
          subst hn0
          replace hni : (q : Int) % 16 = 0 := hni
          rw [show ([] : List UInt8).length = 0 from rfl] at HJ ⊢
          clear HI hq hn n1 n2 n3 hE hE2 hHx hl hn16 hqlt hpow hq0 hd n1h n3h
          go_wp2_with fail
          go_roundw
          case rel => exact ⟨D / 16, by go_num, HJ⟩
          case measure => simp [intOf]; omega
        · have hNx := Lib.hid (outN_next q hq0)
          rw [← hn] at hNx
          have hemp : n = 0 → 0 < (outN (q / 16)).length := fun h => by
            unfold outN
            rw [if_neg (by omega)]
            exact List.length_pos_iff.2 (hexN_ne _)
          obtain ⟨hrow0, hbw0⟩ := id hE
          obtain ⟨p, cap, rfl⟩ := bvs_of hrow0
          have hE0 := Lib.hid hE
          clear HI hq hn n1 n2 n3 hE hqlt hpow hq0
          generalize outN (q / 16) = L at *
          rcases (show (n = 0 ∧ 0 < L.length ∧ ((hexB n).toNat : Int) = 48 + n) ∨ (((n : Int) == 0) = false ∧ n ≤ 9 ∧ ((hexB n).toNat : Int) = 48 + n) ∨ (((n : Int) == 0) = false ∧ 9 < n ∧ ((hexB n).toNat : Int) = 97 + n - 10) by
            rcases hHx with ⟨h1, h2⟩ | ⟨h1, h2⟩
            · by_cases hn0 : n = 0
              · exact .inl ⟨hn0, hemp hn0, h2⟩
              · exact .inr (.inl ⟨beq_eq_false_iff_ne.2 (by omega), h1, h2⟩)
            · exact .inr (.inr ⟨beq_eq_false_iff_ne.2 (by omega), h1, h2⟩)) with ⟨h1, h2, h3⟩ | ⟨h1, h2, h3⟩ | ⟨h1, h2, h3⟩
          · subst h1
            replace hni : (q : Int) % 16 = 0 := hni
            have HV : Hid ((.int .u8 48 : Value) = .int .u8 ((hexB 0).toNat : Int)) := Lib.hid (by rw [h3]; rfl)
            have h2i : ((L.length : Int) == 0) = false := beq_eq_false_iff_ne.2 (by omega)
            clear h3 hemp hHx
            go_wp2_with (at_builtin; refine wpList_append_own _ rfl _ _ 46 rfl w.heap.size 5 i0 (.int .u8 0) 1 1 Tryz.underlying46 hi hz0 hz1 hz2 rfl (by decide) _ _ _ rfl (hrow0.alloc _) ⟨wr.heap.size, 0, none⟩ 1 1 [.int .u8 (48)] rfl rfl (cell_one_new _ _ _) (fun x hx => by simp at hx; subst hx; rfl) (by unfold maxLen; omega) (by omega) (by have := hbw0.size; simp; omega) ?_; intro v1 wA hown hgrow hnil)
            rw [HV.out] at hown
            have hE1 := Lib.hid (hE0.out.byte (hexB 0) _ hown hgrow)
            rw [← hNx.out] at hE1
            have HJ : Hid (Pow (D / 16) ∧ EInv w (outN (quot s.size (D / 16))) v1 wA) := Lib.hid ⟨n3h.out, by rw [n1h.out]; exact hE1.out⟩
            clear hown hgrow hnil hrow0 hbw0 hE0 hE1
            go_wp2_with fail
            go_roundw
            case rel => exact ⟨D / 16, by go_num, HJ⟩
            case measure => simp [intOf]; omega
          · have HV : Hid ((.int .u8 (48 + (n : Int)) : Value) = .int .u8 ((hexB n).toNat : Int)) := Lib.hid (by rw [h3])
            have h2i : (n : Int) ≤ 9 := by omega
            clear h3 hemp hHx h2
            go_wp2_with (at_builtin; refine wpList_append_own _ rfl _ _ 46 rfl w.heap.size 5 i0 (.int .u8 0) 1 1 Tryz.underlying46 hi hz0 hz1 hz2 rfl (by decide) _ _ _ rfl (hrow0.alloc _) ⟨wr.heap.size, 0, none⟩ 1 1 [.int .u8 (48 + (n : Int))] rfl rfl (cell_one_new _ _ _) (fun x hx => by simp at hx; subst hx; rfl) (by unfold maxLen; omega) (by omega) (by have := hbw0.size; simp; omega) ?_; intro v1 wA hown hgrow hnil)
            rw [HV.out] at hown
            have hE1 := Lib.hid (hE0.out.byte (hexB n) _ hown hgrow)
            rw [← hNx.out] at hE1
            have HJ : Hid (Pow (D / 16) ∧ EInv w (outN (quot s.size (D / 16))) v1 wA) := Lib.hid ⟨n3h.out, by rw [n1h.out]; exact hE1.out⟩
            clear hown hgrow hnil hrow0 hbw0 hE0 hE1
            go_wp2_with fail
            go_roundw
            case rel => exact ⟨D / 16, by go_num, HJ⟩
            case measure => simp [intOf]; omega
          · have HV : Hid ((.int .u8 (97 + (n : Int) - 10) : Value) = .int .u8 ((hexB n).toNat : Int)) := Lib.hid (by rw [h3])
            have h2i : (9 : Int) < (n : Int) := by omega
            clear h3 hemp hHx h2
            go_wp2_with (at_builtin; refine wpList_append_own _ rfl _ _ 46 rfl w.heap.size 5 i0 (.int .u8 0) 1 1 Tryz.underlying46 hi hz0 hz1 hz2 rfl (by decide) _ _ _ rfl (hrow0.alloc _) ⟨wr.heap.size, 0, none⟩ 1 1 [.int .u8 (97 + (n : Int) - 10)] rfl rfl (cell_one_new _ _ _) (fun x hx => by simp at hx; subst hx; rfl) (by unfold maxLen; omega) (by omega) (by have := hbw0.size; simp; omega) ?_; intro v1 wA hown hgrow hnil)
            rw [HV.out] at hown
            have hE1 := Lib.hid (hE0.out.byte (hexB n) _ hown hgrow)
            rw [← hNx.out] at hE1
            have HJ : Hid (Pow (D / 16) ∧ EInv w (outN (quot s.size (D / 16))) v1 wA) := Lib.hid ⟨n3h.out, by rw [n1h.out]; exact hE1.out⟩
            clear hown hgrow hnil hrow0 hbw0 hE0 hE1
            go_wp2_with fail
            go_roundw
            case rel => exact ⟨D / 16, by go_num, HJ⟩
            case measure => simp [intOf]; omega
end Go.Proofs.YtmlpdhmafmdkcaaGreatDoor.R10Enc

/- Layer 11's law: written. -/
namespace Go.Proofs.YtmlpdhmafmdkcaaGreatDoor.L11Writ
open Go.ChangeShapes Go.WideShapes Go.ChangeAt Go.RowKit Bytes LexPure HeadLines ChunkHex Ret Rows1 InflowWrit L11Dig R10Enc Mem
set_option maxRecDepth 20000
def MID : ByteArray := ⟨#[32, 72, 84, 84, 80, 47, 49, 46, 49, 13, 10, 72, 111, 115, 116, 58, 32, 104, 13, 10]⟩
def CLT : ByteArray := ⟨#[67, 111, 110, 116, 101, 110, 116, 45, 76, 101, 110, 103, 116, 104, 58, 32]⟩
def TET : ByteArray := ⟨#[84, 114, 97, 110, 115, 102, 101, 114, 45, 69, 110, 99, 111, 100, 105, 110, 103, 58, 32, 99, 104, 117, 110, 107, 101, 100, 13, 10, 13, 10]⟩
def CR2 : ByteArray := ⟨#[13, 10, 13, 10]⟩
/-- the beginning -/
def front (m t : ByteArray) : ByteArray := m ++ ⟨#[32]⟩ ++ t ++ MID
theorem len_text (m t b : ByteArray) (k : Int) (hk : k < 1) : ofL (wr11 (toL m) (toL t) (toL b) k) = front m t ++ CLT ++ ofL (decN b.size) ++ CR2 ++ b := by
  apply toL_inj
  unfold wr11
  rw [if_pos hk, toL_ofL]
  simp only [front, toL_append, toL_ofL, toL_length]
  unfold startL HOST_ LEN_
  simp [MID, CLT, CR2, CLN, toL, HeadWrit.HTTP11]
theorem te_text (m t b : ByteArray) (k : Int) (hk : ¬ k < 1) : ofL (wr11 (toL m) (toL t) (toL b) k) = front m t ++ TET ++ ofL ((chop k.toNat (toL b)).flatMap enc) ++ ⟨#[48, 13, 10, 13, 10]⟩ := by
  apply toL_inj
  unfold wr11
  rw [if_neg hk, toL_ofL]
  simp only [front, toL_append, toL_ofL]
  unfold startL HOST_ TE_
  simp [MID, TET, TEF, toL, HeadWrit.HTTP11, lastL]
def sizeV : Value → Nat
  | .string s => s.size
  | _ => 0
set_option maxHeartbeats 3200000 in
theorem written_any (m t b : ByteArray) (k : Int) (hk0 : -9223372036854775808 ≤ k ∧ k ≤ 9223372036854775807) (hm : m.size ≤ 100) (ht : t.size ≤ 2000) (hb : b.size ≤ 1000000) (w : World) :
    Calls Tryz.prog 6 #[.string m, .string t, .string b, .int .i64 k] w fun e w' => e = .returned (.string (ofL (wr11 (toL m) (toL t) (toL b) k))) ∧ Below w.heap.size w w' := by
  have sF : (front m t).size ≤ 2200 := by
    unfold front MID
    simp only [ByteArray.size_append]
    have : (⟨#[32]⟩ : ByteArray).size = 1 := rfl
    have h2 : (⟨#[32, 72, 84, 84, 80, 47, 49, 46, 49, 13, 10, 72, 111, 115, 116, 58, 32, 104, 13, 10]⟩ : ByteArray).size = 20 := rfl
    omega
  have hF : m ++ ⟨#[32]⟩ ++ t ++ ⟨#[32, 72, 84, 84, 80, 47, 49, 46, 49, 13, 10, 72, 111, 115, 116, 58, 32, 104, 13, 10]⟩ = front m t := rfl
  have q0 : m.size + 1 + t.size + 20 ≤ 9223372036854775807 := by omega
  have q1 : m.size + 1 ≤ 9223372036854775807 := by omega
  have q2 : m.size + 1 + t.size ≤ 9223372036854775807 := by omega
  by_cases hk : k < 1
  · rw [len_text m t b k hk]
    have HD := Lib.hid (fun w => digits_any b.size (by omega) w)
    have hd := decN_len 17 b.size (by omega)
    obtain ⟨X, hX⟩ : ∃ X, X = ofL (decN b.size) := ⟨_, rfl⟩
    have sX : X.size ≤ 18 := by rw [hX, ofL_size]; exact hd
    rw [← hX] at HD ⊢
    clear hX hd
    have q3 : (front m t).size + 16 ≤ 9223372036854775807 := by omega
    have q4 : (front m t).size + 16 + X.size ≤ 9223372036854775807 := by omega
    have q5 : (front m t).size + 16 + X.size + 4 ≤ 9223372036854775807 := by omega
    have q6 : (front m t).size + 16 + X.size + 4 + b.size ≤ 9223372036854775807 := by omega
    go_enter Tryz.func6, Tryz.ntmps6
    go_wp2_with fail
    refine (HD.out _).mono ?_
    rintro e w1 ⟨rfl, hb1⟩
    go_wp2_with fail
    go_ret
    exact ⟨rfl, hb1⟩
  · rw [te_text m t b k hk]
    have hki : ¬ k < 1 := hk
    obtain ⟨G, hG⟩ : ∃ G, G = toL (front m t ++ TET) ++ (chop k.toNat (toL b)).flatMap enc := ⟨_, rfl⟩
    have hE : front m t ++ TET ++ ofL ((chop k.toNat (toL b)).flatMap enc) ++ ⟨#[48, 13, 10, 13, 10]⟩ = ofL G ++ ⟨#[48, 13, 10, 13, 10]⟩ := by
      rw [hG]
      apply toL_inj
      simp only [toL_append, toL_ofL]
    rw [hE]
    have q3 : (front m t).size + 30 ≤ 9223372036854775807 := by omega
    have hs30 : TET.size = 30 := rfl
    have HX : Hid (toL (front m t ++ TET) ++ (chop k.toNat (toL b)).flatMap enc = G ∧ b.size ≤ 1000000 ∧ (front m t ++ TET).size + 13 * b.size ≤ 14000000) := Lib.hid ⟨hG.symm, hb, by rw [ByteArray.size_append]; omega⟩
    unfold TET at HX
    clear hG hE sF
    go_enter Tryz.func6, Tryz.ntmps6
    go_wp2_with fail
    generalize front m t ++ ⟨#[84, 114, 97, 110, 115, 102, 101, 114, 45, 69, 110, 99, 111, 100, 105, 110, 103, 58, 32, 99, 104, 117, 110, 107, 101, 100, 13, 10, 13, 10]⟩ = S0 at HX ⊢
    go_loopw [9, 10] (fun s r wr => ∃ (S R : ByteArray), s = .string S ∧ r = .string R ∧ R.size ≤ b.size ∧ Hid (toL S ++ (chop k.toNat (toL R)).flatMap enc = G ∧ R.size ≤ 1000000 ∧ S.size + 13 * R.size ≤ 14000000) ∧ Hid (Below w.heap.size w wr)) (fun _ r _ => sizeV r)
    case atStart => exact ⟨S0, b, rfl, rfl, Nat.le_refl _, HX, Lib.hid (Below.refl _ _)⟩
    case round =>
      obtain ⟨S, R, rfl, rfl, hRb, HI, HB⟩ := hrel
      clear HX
      obtain ⟨h1, h2, h3⟩ := HI.out
      by_cases h0 : R.size = 0
      · have hR : R = ⟨#[]⟩ := toL_inj (by
          have : (toL R).length = 0 := by rw [toL_length]; exact h0
          rw [List.length_eq_zero_iff.1 this])
        subst hR
        have hSG : Hid (S = ofL G) := Lib.hid (by
          rw [← h1, show toL (⟨#[]⟩ : ByteArray) = [] from rfl, chop_nil]
          simp [ofL_toL])
        have q6 : S.size + 5 ≤ 9223372036854775807 := by omega
        clear h1 h2 h3 HI h0
        go_wp2_with fail
        go_ret
        exact ⟨by rw [hSG.out]; rfl, HB.out⟩
      · obtain ⟨n, hn⟩ : ∃ n, n = min k.toNat R.size := ⟨_, rfl⟩
        have n1 : 1 ≤ n := by omega
        have n2 : n ≤ R.size := by omega
        have hmin : min k (R.size : Int) = (n : Int) := by omega
        have e1 : ¬ R.toList = [] := fun h => by
          rw [ByteArray.toList_eq] at h
          have h2 := toL_length R
          rw [show toL R = [] from h] at h2
          simp at h2
          omega
        have e2 : R.toList.isEmpty = false := by
          cases h : R.toList with
          | nil => exact absurd h e1
          | cons => rfl
        obtain ⟨P, hP⟩ : ∃ P, P = R.extract 0 n := ⟨_, rfl⟩
        obtain ⟨Q, hQ⟩ : ∃ Q, Q = R.extract n R.size := ⟨_, rfl⟩
        have tP : toL P = (toL R).take n := by rw [hP, toL_extract, List.drop_zero]
        have tQ : toL Q = (toL R).drop n := by rw [hQ, toL_extract, List.take_of_length_le (by rw [toL_length]; exact Nat.le_refl _)]
        have sP : P.size = n := by rw [hP, ByteArray.size_extract]; omega
        have sQ : Q.size = R.size - n := by rw [hQ, ByteArray.size_extract]; omega
        have HR := Lib.hid (fun w => r10enc_any P (by omega) w)
        obtain ⟨C, hC⟩ : ∃ C, C = ofL (enc (toL P)) := ⟨_, rfl⟩
        have hel := enc_len (toL P) (by rw [toL_length]; omega)
        rw [toL_length] at hel
        have sC : C.size ≤ 13 * n := by rw [hC, ofL_size, ← sP]; exact hel
        have HS : Hid (∀ (w' : World) (b : Nat) (v : Value), w'.ownsRow b 5 1 v (enc (toL P)).length (bvs (enc (toL P))) → (Go.convert 46 9 v).run Tryz.prog w' = .ok (.string C) w') := Lib.hid (fun w' b v h => by rw [hC]; exact own_string (P := Tryz.prog) h 46 9 Tryz.underlying46 Tryz.underlying5 Tryz.underlying9)
        have HN : Hid (toL (S ++ C) ++ (chop k.toNat (toL Q)).flatMap enc = G ∧ Q.size ≤ 1000000 ∧ (S ++ C).size + 13 * Q.size ≤ 14000000) := Lib.hid ⟨by
            have hlR : (toL R).length = R.size := toL_length R
            have hne : toL R ≠ [] := fun h => by rw [h] at hlR; simp at hlR; omega
            have hchop := chop_more (k := k.toNat) (l := toL R) (by omega) hne
            have htk : (toL R).take k.toNat = toL P := by
              rw [tP]
              by_cases hh : k.toNat ≤ R.size
              · rw [show n = k.toNat by omega]
              · rw [List.take_of_length_le (by omega), List.take_of_length_le (by omega)]
            have hdk : (toL R).drop k.toNat = toL Q := by
              rw [tQ]
              by_cases hh : k.toNat ≤ R.size
              · rw [show n = k.toNat by omega]
              · rw [List.drop_of_length_le (by omega), List.drop_of_length_le (by omega)]
            rw [hchop, htk, hdk, List.flatMap_cons] at h1
            rw [← h1, toL_append, hC, toL_ofL, List.append_assoc], by omega, by rw [ByteArray.size_append]; omega⟩
        have q6 : S.size + C.size ≤ 9223372036854775807 := by omega
        have n1i : (0 : Int) ≤ (n : Int) := by omega
        have n2i : (n : Int) ≤ (R.size : Int) := by omega
        have hQb : Q.size ≤ b.size := by omega
        have hQR : Q.size < R.size := by omega
        by_cases hkr : (R.size : Int) < k
        · have hnR : n = R.size := by omega
          have hPn : P = R := toL_inj (by rw [tP, hnR, List.take_of_length_le (by rw [toL_length]; exact Nat.le_refl _)])
          have hQn : Q = ⟨#[]⟩ := toL_inj (by rw [tQ, hnR, List.drop_of_length_le (by rw [toL_length]; exact Nat.le_refl _)])
          rw [hPn] at HR HS
          rw [hQn] at HN hQb hQR
          replace hmin : min k (R.size : Int) = (R.size : Int) := by omega
          clear h1 h2 h3 HI h0 hn tP tQ sQ sP hel sC hC hP hQ hPn hQn hnR n1 n2 n1i n2i
          go_wp2_with fail
          refine (HR.out _).mono ?_
          rintro e w1 ⟨vr, rfl, hrow, hb1⟩
          have hcv := HS.out _ _ _ hrow
          have HB2 := Lib.hid (below_chain HB.out hb1)
          clear HR HS hrow hb1
          go_wp2_with fail
          go_roundw
          case rel => exact ⟨S ++ C, ⟨#[]⟩, rfl, rfl, hQb, HN, HB2⟩
          case measure => exact hQR
        · have hkn : k = (n : Int) := by omega
          subst hkn
          replace hP := hP.symm
          replace hQ := hQ.symm
          clear h1 h2 h3 HI h0 hn tP tQ sQ sP hel sC hC
          go_wp2_with fail
          refine (HR.out _).mono ?_
          rintro e w1 ⟨vr, rfl, hrow, hb1⟩
          have hcv := HS.out _ _ _ hrow
          have HB2 := Lib.hid (below_chain HB.out hb1)
          clear HR HS hrow hb1
          go_wp2_with fail
          go_roundw
          case rel => exact ⟨S ++ C, Q, rfl, rfl, hQb, HN, HB2⟩
          case measure => exact hQR
end Go.Proofs.YtmlpdhmafmdkcaaGreatDoor.L11Writ

/- Layer 11's law: trimmed. -/
namespace Go.Proofs.YtmlpdhmafmdkcaaGreatDoor.L11Trim
open Go.ChangeShapes Go.WideShapes Go.ChangeAt Go.RowKit Bytes LexPure Ret HeadPure InflowPure InObj InflowObj PUnder Mem
set_option maxRecDepth 20000
def restL (D : List UInt8) : List UInt8 := D.drop (skip8 D)
def trimL (D : List UInt8) : List UInt8 := if restL D = [13] then [] else restL D
theorem rest_step (r : List UInt8) : restL (13 :: 10 :: r) = restL r := by
  unfold restL
  rw [skip8, if_pos ⟨rfl, rfl⟩]
  rfl
theorem rest_stop {a b : UInt8} (r : List UInt8) (h : ¬ (a = 13 ∧ b = 10)) : restL (a :: b :: r) = a :: b :: r := by
  unfold restL
  rw [skip8, if_neg h]
  rfl
theorem rest_short {D : List UInt8} (h : D.length ≤ 1) : restL D = D := by
  match D, h with
  | [], _ => rfl
  | [_], _ => rfl
theorem begun_say (D : List UInt8) : begun11 D = !(trimL D).isEmpty := by
  unfold begun11 trimL restL
  by_cases h : D.drop (skip8 D) = [13]
  · rw [if_pos h, h]; rfl
  · rw [if_neg h]
    have : (D.drop (skip8 D) == [13]) = false := by simpa using h
    rw [this]
    simp
theorem two_of (S : ByteArray) (h : 2 ≤ S.size) : toL S = S[0] :: S[1] :: (toL S).drop 2 := by
  have h0 := toL_drop S 0 (by omega)
  have h1 := toL_drop S 1 (by omega)
  rw [List.drop_zero] at h0
  rw [h0, h1]
  simp
theorem byte_eq (c : UInt8) (n : UInt8) : (c.toNat : Int) = (n.toNat : Int) ↔ c = n := by
  constructor
  · intro h
    exact UInt8.toNat_inj.1 (by omega)
  · intro h; rw [h]
def sizeV : Value → Nat
  | .string s => s.size
  | _ => 0
end Go.Proofs.YtmlpdhmafmdkcaaGreatDoor.L11Trim

/- What Rest gives are the bytes behind the last request, and behind it the reader reads on as a new one: InflowRest returns true. -/
namespace Go.Proofs.YtmlpdhmafmdkcaaGreatDoor.InflowRestW
open Go.ChangeShapes Go.WideShapes Go.ChangeAt Go.RowKit Bytes LexPure Ret HeadPure HeadLines ChunkHex InflowPure InflowWrit QCell InObj InflowObj PUnder KeptRow L11Anchor L11Writ L11Trim Mem Step
set_option maxRecDepth 100000
theorem row_form2 {w : World} {base n size : Nat} {e : TypeId} {v : Value} {xs : List Value} (h : w.ownsRow base e size v n xs) : ∃ p cap, v = .slice p n cap ∧ n = n := by
  rcases h.2 with ⟨hv, hn⟩ | ⟨g, cap, cur, hv, _⟩
  · exact ⟨none, 0, by rw [hv, hn], rfl⟩
  · exact ⟨_, cap, hv, rfl⟩
theorem chop_len (k : Nat) : ∀ (n : Nat) (l : List UInt8), l.length ≤ n → l.length < 4294967296 → ((chop k l).flatMap enc).length ≤ 13 * l.length
  | n, l, h, h4 => by
    by_cases hk : k = 0
    · unfold chop
      rw [dif_pos (.inr hk)]
      simp
    by_cases h0 : l = []
    · subst h0
      rw [chop_nil]
      simp
    have hp : 0 < l.length := List.length_pos_iff.2 h0
    match n, h with
    | 0, h => omega
    | n + 1, h =>
      rw [chop_more hk h0, List.flatMap_cons, List.length_append]
      have h1 := enc_len (l.take k) (by rw [List.length_take]; omega)
      have h2 := chop_len k n (l.drop k) (by rw [List.length_drop]; omega) (by rw [List.length_drop]; omega)
      rw [List.length_take] at h1
      rw [List.length_drop] at h2
      omega
theorem wr_len {m t body : List UInt8} (k : Int) (hm : m.length ≤ 16) (ht : t.length ≤ 100) (hb : body.length ≤ 1000) : (wr11 m t body k).length ≤ 14000 := by
  have hs : (startL m t).length = m.length + t.length + 10 := by simp [startL, HeadWrit.HTTP11]; omega
  have h1 : HOST_.length = 7 := rfl
  have h2 : TE_.length = 26 := rfl
  have h3 : (LEN_ body.length).length ≤ 40 := by
    have := decN_len 14 body.length (by omega)
    unfold LEN_ CLN
    simp only [List.length_append, List.length_cons, List.length_nil]
    omega
  have h4 := chop_len k.toNat body.length body (Nat.le_refl _) (by omega)
  unfold wr11
  split
  · simp only [List.length_append, List.length_cons, List.length_nil]
    omega
  · simp only [List.length_append, List.length_cons, List.length_nil, lastL]
    omega
def POSTB : ByteArray := ⟨#[80, 79, 83, 84]⟩
theorem wr_fit (c : UInt8) (hc : plain47 c = true) {body : List UInt8} (hb : body.length ≤ 1000) : Wr (toL POSTB) [47, c] body :=
  ⟨by decide, by decide, by decide, by
    have := (plain47_say c hc).2.2.2.2.2
    simp [this]
    decide, by simp, by simp, parse_plain (by decide) (by simp) (fun x hx => by rw [List.mem_singleton] at hx; rw [hx]; exact hc), by omega⟩
/-- the reader of a law, made behind w -/
structure RK (w W : World) (F : Nat → Prop) (g : Nat) (most : Int) (D : List UInt8) : Prop where
  rdr : Rdr W F g most D 0
  low : ∀ k, F k → w.heap.size ≤ k
  below : Below w.heap.size w W
theorem RK.new {w w1 W : World} {F : Nat → Prop} {g : Nat} {most : Int} (h : Rdr W F g most [] 0) (hlo : ∀ k, F k → w1.heap.size ≤ k) (h0 : Below w.heap.size w w1) (hb : Below w1.heap.size w1 W) : RK w W F g most [] :=
  ⟨h, fun k hk => Nat.le_trans h0.size (hlo k hk), below_chain h0 hb⟩
theorem RK.step {w W W' : World} {F F' : Nat → Prop} {g : Nat} {most : Int} {D D' : List UInt8} (h : RK w W F g most D) (hs : Step W W' F F') (hr : Rdr W' F' g most D' 0) : RK w W' F' g most D' := by
  refine ⟨hr, fun k hk => ?_, h.below.trans (hs.below h.below.size h.low)⟩
  rcases hs.grow k hk with h1 | h1
  · exact h.low k h1
  · exact Nat.le_trans h.below.size h1.1
theorem RK.call {w W W' : World} {F : Nat → Prop} {g : Nat} {most : Int} {D : List UInt8} (h : RK w W F g most D) (hb : Below W.heap.size W W') : RK w W' F g most D :=
  h.step (Step.of_below hb F) (h.rdr.step (Step.of_below hb (fun _ => False)) (fun _ _ h => h))
theorem feed_of {w W : World} {F : Nat → Prop} {g : Nat} {most : Int} {D : List UInt8} (s : ByteArray) (hs : D.length + s.size ≤ 1073741824) (h : RK w W F g most D) :
    Calls Tryz.prog 11 #[.pointer (some ⟨g, 0, none⟩), .string s] W fun e w' => e = .returned (.tuple #[]) ∧ ∃ F', RK w w' F' g most (D ++ toL s) :=
  (pfeed11 F g most D 0 s hs W h.rdr).mono (fun _ _ ⟨he, F', hr, hst⟩ => ⟨he, F', h.step hst hr⟩)
theorem len_none {w W : World} {F : Nat → Prop} {g : Nat} {most : Int} (h : RK w W F g most []) :
    Calls Tryz.prog 13 #[.pointer (some ⟨g, 0, none⟩)] W fun e w' => e = .returned (.int .i64 0) ∧ ∃ F', RK w w' F' g most [] :=
  (plen11 F g most [] 0 (by simp) W h.rdr).mono (fun _ _ ⟨he, F', hr, hst⟩ => ⟨he, F', h.step hst hr⟩)
/-- Next where one request, and nothing else, is held -/
theorem next_of {w W : World} {F : Nat → Prop} {g : Nat} {most : Int} {D : List UInt8} {Q : Rq} (hm : MaxInt w) (hin : ChObj.InR most) (hs : D.length ≤ 1073741824) (hr : read11 most D = .whole Q D.length) (h : RK w W F g most D) :
    Calls Tryz.prog 12 #[.pointer (some ⟨g, 0, none⟩)] W fun e w' => ∃ l F', e = .returned (.tuple #[.agg (qcl Q l), .bool true, .int .i64 0]) ∧ l.oneCell' = true ∧ RK w w' F' g most [] := by
  refine (pnextL F g most D 0 hs hin hm W h.below h.low h.rdr).mono ?_
  rintro e w' ⟨l, F', he, hrow, hlf, hR, hS⟩
  rw [show nx most D 0 = read11 most D from rfl, hr] at he hrow hR
  have hd : D.drop D.length = [] := List.drop_length
  refine ⟨l, F', he, ?_, h.step hS (by rw [← hd]; exact hR)⟩
  obtain ⟨p, cap, rfl, _⟩ := row_form2 hrow.1
  rfl
end Go.Proofs.YtmlpdhmafmdkcaaGreatDoor.InflowRestW
