/- Layer 5, the document's own Escapes and Decode. -/
import Derived.Test.YtlhpjinajaociaaDoorRPlain
import Derived.Test.YtlhpjinajaociaaDoorRows1
import Derived.Maps.AppendAt
namespace Go.Proofs.YtlhpjinajaociaaDoor.REsc
open Go.ChangeShapes Go.WideShapes Go.ChangeAt Go.RowKit LexPure Bytes Ret PathPure RPlain Rows1
theorem infoB : (Tryd.prog.info? 5).map (fun i => (i.zero, i.size, i.bytes)) = some (some (.int .u8 0), 1, 1) := by kernel_rfl
/-- what is gathered behind k bytes -/
structure Got (w : World) (k : Nat) (v : Value) (G : List UInt8) (wr : World) : Prop where
  row : wr.ownsRow w.heap.size 5 1 v G.length (bvs G)
  below : Below w.heap.size w wr
  few : G.length ≤ k
theorem Got.start (w : World) : Got w 0 (.slice none 0 0) [] w := ⟨World.ownsRow_nil _ _ _ _, Below.refl _ _, Nat.le_refl _⟩
theorem atL_none {s : ByteArray} {k : Nat} (hk : k < s.size) (h : s[k] = 37) (hn : atL ((toL s).drop k) < 0) : dec ((toL s).drop k) = none ∧ esc ((toL s).drop k) = none := by
  rw [toL_drop s k hk, h] at *
  rw [dec_cons, if_pos (by decide), esc_cons, if_pos (by decide), if_pos (by decide)]
  generalize (toL s).drop (k + 1) = t at *
  match t with
  | [] => exact ⟨rfl, rfl⟩
  | [_] => exact ⟨rfl, rfl⟩
  | a :: b :: r =>
    unfold atL at hn
    simp only at hn ⊢
    split at hn
    · omega
    · rename_i hh
      rw [if_neg hh, if_neg hh]
      exact ⟨rfl, rfl⟩
theorem atL_some {s : ByteArray} {k : Nat} (hk : k < s.size) (h : s[k] = 37) (hn : ¬ atL ((toL s).drop k) < 0) : ∃ n : Nat, atL ((toL s).drop k) = (n : Int) ∧ n < 256 ∧ k + 2 < s.size ∧
    dec ((toL s).drop k) = (dec ((toL s).drop (k + 3))).map (UInt8.ofNat n :: ·) ∧ esc ((toL s).drop k) = (esc ((toL s).drop (k + 3))).map (wr n ++ ·) := by
  have hl : ((toL s).drop k).length = s.size - k := by rw [List.length_drop, toL_length]
  have hd3 : (toL s).drop (k + 3) = ((toL s).drop (k + 1)).drop 2 := by rw [List.drop_drop]
  rw [hd3]
  rw [toL_drop s k hk, h] at *
  rw [dec_cons, if_pos (by decide), esc_cons, if_pos (by decide), if_pos (by decide)]
  generalize (toL s).drop (k + 1) = t at *
  match t with
  | [] => exact absurd (by decide) hn
  | [_] => exact absurd (show (-1 : Int) < 0 by decide) hn
  | a :: b :: r =>
    unfold atL at hn ⊢
    simp only at hn ⊢
    split at hn
    · rename_i hh
      rw [if_pos hh]
      have h2 := hh
      rw [Bool.and_eq_true] at h2
      exact ⟨two a b, rfl, two_lt h2.1 h2.2, by simp at hl; omega, by rw [if_pos hh]; rfl, by rw [if_pos hh]; rfl⟩
    · omega
theorem got_push {w wr w3 : World} {k j : Nat} {v v' : Value} {G : List UInt8} {c : UInt8} {o : Obj} (I : Got w k v G wr) (h : w3.ownsRow w.heap.size 5 1 v' (G.length + 1) (bvs G ++ [bv c])) (hg : (wr.alloc o).grownBy w3 v.ownBlock) (hj : k < j) : Got w j v' (G ++ [c]) w3 :=
  ⟨by rw [List.length_append, bvs_append]; exact h, Below.grown (I.below.alloc I.below.size _) hg (by have := I.below.size; simp; omega) (fun b hb => (I.row.lt b hb).1), by rw [List.length_append]; have := I.few; simp; omega⟩
/-- whether s[k] is the sign of an escape, as a number -/
theorem sign_ne {c : UInt8} (h : ¬ c = 37) : ((c.toNat : Int) != 37) = true := by
  have := all_bytes (p := fun b => (((b.toNat : Int) != 37) == (b != 37))) (by decide +kernel) c
  rw [beq_iff_eq] at this
  rw [this, bne_iff_ne]
  exact h
set_option maxHeartbeats 1600000 in
theorem rdecode_any (s : ByteArray) (hs : s.size ≤ 140737488351232) (w : World) :
    Calls Tryd.prog 16 #[.string s] w fun e w' => e = .returned (.tuple #[.string (ofL ((dec (toL s)).getD [])), .bool (dec (toL s)).isSome]) ∧ Below w.heap.size w w' := by
  obtain ⟨i0, hi, hz0, hz1, hz2⟩ := info_parts infoB
  go_enter Tryd.func16, Tryd.ntmps16
  go_wp2_with fail
  go_loopw [4, 5] (fun v i wr => ∃ k : Nat, k ≤ s.size ∧ i = .int .i64 k ∧ Hid (∃ G, Got w k v G wr ∧ dec (toL s) = (dec ((toL s).drop k)).map (G ++ ·))) (fun _ i _ => s.size - (intOf i).toNat)
  case atStart => exact ⟨0, Nat.zero_le _, rfl, Lib.hid ⟨[], Got.start w, by simp⟩⟩
  case round =>
    obtain ⟨k, hk, rfl, HI⟩ := hrel
    obtain ⟨G, I, hd⟩ := HI.out
    have hrow := I.row
    have hbw := I.below
    have hbs := hbw.size
    have hfew := I.few
    by_cases hlt : k < s.size
    · have hki : (k : Int) < (s.size : Int) := by omega
      by_cases h37 : s[k] = 37
      · have hq : ((s[k].toNat : Int) != 37) = false := by rw [h37]; rfl
        have HA := Lib.hid (fun w => rat_any s (by omega) k hlt w)
        by_cases hn : atL ((toL s).drop k) < 0
        · have HV : Hid (dec (toL s) = none) := Lib.hid (by rw [hd, (atL_none hlt h37 hn).1]; rfl)
          generalize atL ((toL s).drop k) = z at *
          clear hd HI I hrow h37
          go_wp2_with fail
          refine (HA.out _).mono ?_
          rintro e w' ⟨rfl, rfl⟩
          go_wp2_with fail
          go_ret2
          rw [HV.out]
          exact ⟨rfl, hbw⟩
        · obtain ⟨n, hn1, hn2, hn3, hn4, _⟩ := atL_some hlt h37 hn
          have hnb : (n : Int) ≤ 255 := by omega
          have HB : Hid (bv (UInt8.ofNat n) = .int .u8 (n : Int)) := Lib.hid (by
            have := all_below (p := fun n => (((UInt8.ofNat n).toNat : Int) == (n : Int))) (by decide +kernel) hn2
            rw [beq_iff_eq] at this
            unfold bv
            rw [this])
          have HD : Hid (dec (toL s) = (dec ((toL s).drop (k + 3))).map ((G ++ [UInt8.ofNat n]) ++ ·)) := Lib.hid (by
            rw [hd, hn4, Option.map_map]
            congr 1
            funext x
            simp)
          rw [hn1] at HA
          have HI2 := Lib.hid I
          clear hd HI h37 hn hn1 hn4 I
          go_wp2_with fail
          refine (HA.out _).mono ?_
          rintro e w' ⟨rfl, rfl⟩
          go_wp2_with (at_builtin; refine wpList_append_own _ rfl _ _ 40 rfl w.heap.size 5 i0 (.int .u8 0) 1 1 Tryd.underlying40 hi hz0 hz1 hz2 rfl (by decide) _ _ _ rfl (hrow.alloc _) ⟨wr.heap.size, 0, none⟩ 1 1 [.int .u8 (n : Int)] rfl rfl (cell_one_new _ _ _) (fun x hx => by simp at hx; subst hx; rfl) (by unfold maxLen; omega) (by omega) (by simp; omega) ?_; intro v' w3 hown' hgrow3 hnil3)
          rw [← HB.out] at hown'
          have HR : Hid (∃ G, Got w (k + 3) v' G w3 ∧ dec (toL s) = (dec ((toL s).drop (k + 3))).map (G ++ ·)) := Lib.hid ⟨_, got_push HI2.out hown' hgrow3 (by omega), HD.out⟩
          clear hown' hgrow3 hnil3 HI2 hrow HD HB HA
          go_wp2_with fail
          go_roundw
          case rel => exact ⟨k + 3, by omega, by go_num, HR⟩
          case measure => simp [intOf]; omega
      · have hq := sign_ne h37
        have HD : Hid (dec (toL s) = (dec ((toL s).drop (k + 1))).map ((G ++ [s[k]]) ++ ·)) := Lib.hid (by
          rw [hd, toL_drop s k hlt, dec_cons, if_neg (by simpa using h37), Option.map_map]
          congr 1
          funext x
          simp)
        have HI2 := Lib.hid I
        clear hd HI h37 I
        go_wp2_with (at_builtin; refine wpList_append_own _ rfl _ _ 40 rfl w.heap.size 5 i0 (.int .u8 0) 1 1 Tryd.underlying40 hi hz0 hz1 hz2 rfl (by decide) _ _ _ rfl (hrow.alloc _) ⟨wr.heap.size, 0, none⟩ 1 1 [.int .u8 (s[k].toNat : Int)] rfl rfl (cell_one_new _ _ _) (fun x hx => by simp at hx; subst hx; rfl) (by unfold maxLen; omega) (by omega) (by simp; omega) ?_; intro v' w3 hown' hgrow3 hnil3)
        have HR : Hid (∃ G, Got w (k + 1) v' G w3 ∧ dec (toL s) = (dec ((toL s).drop (k + 1))).map (G ++ ·)) := Lib.hid ⟨_, got_push HI2.out hown' hgrow3 (by omega), HD.out⟩
        clear hown' hgrow3 hnil3 HI2 hrow HD
        go_wp2_with fail
        go_roundw
        case rel => exact ⟨k + 1, by omega, by go_num, HR⟩
        case measure => simp [intOf]; omega
    · have HC := own_string (P := Tryd.prog) hrow 40 9 Tryd.underlying40 Tryd.underlying5 Tryd.underlying9
      have HV : Hid (dec (toL s) = some G) := Lib.hid (by
        rw [hd, List.drop_eq_nil_of_le (by rw [toL_length]; omega)]
        show some (G ++ []) = _
        rw [List.append_nil])
      clear hd HI I hrow
      go_wp2_with fail
      go_ret2
      rw [HV.out]
      exact ⟨rfl, hbw⟩
end Go.Proofs.YtlhpjinajaociaaDoor.REsc
