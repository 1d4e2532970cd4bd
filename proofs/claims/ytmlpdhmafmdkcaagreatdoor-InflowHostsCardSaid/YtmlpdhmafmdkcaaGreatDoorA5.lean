/- Texts of this seat, one behind another: THost, BRow, PLower, TAuth, TBox, PHost11, PLib, PElements, RBlank, RTrim, RElements, AppendRow, R7Elements, AppendIn, PElems7, PFindT. -/
import Derived.Outline
import Derived.LoopTactic
import Derived.Handy
import Derived.Laws.IdiomStrings
import Derived.Below
import Derived.Laws.NewBlocks
import Derived.Deep.QuietTactic
import Derived.BigQuiet
import Derived.Laws.ResultCell
import Derived.Lib.Hide
import Derived.Shelf.Vars
import Derived.Maps.AppendAt
import Derived.Laws.DeepStrings4
import Derived.Laws.AppendOwnNone
import Derived.OwnWalk
import Derived.OwnWalkIn
import Derived.OrdersIn
import Derived.RangeFuncBox
import Derived.RangeFuncNested
import Derived.Shelf.Abstract
import Derived.Test.YtmlpdhmafmdkcaaGreatDoorA2
import Derived.Test.YtmlpdhmafmdkcaaGreatDoorA4
import Derived.Test.YtmlpdhmafmdkcaaGreatDoorA1
import Derived.Test.YtmlpdhmafmdkcaaGreatDoorA3
/- Layer 6 of the program: isLetterOrDigit, isHost. -/
namespace Go.Proofs.YtmlpdhmafmdkcaaGreatDoor.THost
open Go.ChangeShapes Go.WideShapes Go.ChangeAt Go.RowKit LexPure Bytes Ret HostPure PUnder
set_option maxRecDepth 20000
theorem alnum_cases (b : UInt8) : alnum b = decide ((48 ≤ (b.toNat : Int) ∧ (b.toNat : Int) ≤ 57) ∨ (65 ≤ (b.toNat : Int) ∧ (b.toNat : Int) ≤ 90) ∨ (97 ≤ (b.toNat : Int) ∧ (b.toNat : Int) ≤ 122)) := by
  have := all_bytes (p := fun b => alnum b == decide ((48 ≤ (b.toNat : Int) ∧ (b.toNat : Int) ≤ 57) ∨ (65 ≤ (b.toNat : Int) ∧ (b.toNat : Int) ≤ 90) ∨ (97 ≤ (b.toNat : Int) ∧ (b.toNat : Int) ≤ 122))) (by decide +kernel) b
  simpa only [beq_iff_eq] using this
theorem talnum_any (b : UInt8) (w : World) :
    Calls Tryz.prog 97 #[.int .u8 (b.toNat : Int)] w fun e w' => e = .returned (.bool (alnum b)) ∧ w = w' := by
  rw [alnum_cases]
  generalize (b.toNat : Int) = c
  go_enter Tryz.func97, Tryz.ntmps97
  go_wp2_with fail
  all_goals
    go_ret
    refine ⟨ret_bool ?_, rfl⟩
  all_goals first
    | rfl
    | exact Eq.symm (decide_eq_true (by omega))
    | exact Eq.symm (decide_eq_false (by omega))
    | (rw [Bool.eq_iff_iff]; simp only [Bool.or_eq_true, Bool.and_eq_true, decide_eq_true_eq]; omega)
    | (rw [Bool.eq_iff_iff]; simp only [Bool.or_eq_true, Bool.and_eq_true, decide_eq_true_eq, Bool.false_eq_true, false_iff]; omega)
    | trace_state
theorem dots_say : ∀ s : List UInt8, Go.Lib.contains s [46, 46] = dotted s
  | [] => by unfold Go.Lib.contains; decide
  | [a] => by
    unfold Go.Lib.contains Go.Lib.index
    simp [Go.Lib.index, List.isPrefixOf, dotted]
  | a :: b :: s => by
    have ih := dots_say (b :: s)
    rw [dotted, ← ih]
    unfold Go.Lib.contains
    rw [Go.Lib.index]
    have hge := Go.Lib.index_ge (b :: s) [46, 46]
    have hp : ([46, 46] : List UInt8).isPrefixOf (a :: b :: s) = (a == 46 && b == 46) := by
      simp only [List.isPrefixOf, Bool.and_true]
      rw [show ((46 : UInt8) == a) = (a == 46) by rw [Bool.eq_iff_iff]; simp only [beq_iff_eq]; exact eq_comm, show ((46 : UInt8) == b) = (b == 46) by rw [Bool.eq_iff_iff]; simp only [beq_iff_eq]; exact eq_comm]
    rw [hp]
    cases hq : (a == 46 && b == 46)
    · rw [Bool.false_or]
      simp only [Bool.false_eq_true, if_false]
      by_cases hm : Go.Lib.index (b :: s) [46, 46] = -1
      · rw [hm]; rfl
      · have : ((Go.Lib.index (b :: s) [46, 46]) == -1) = false := beq_eq_false_iff_ne.2 hm
        rw [this]
        simp only [Bool.false_eq_true, if_false]
        rw [decide_eq_decide]
        omega
    · rfl
theorem lib_dots (s : ByteArray) (hs : s.size < 4294967281) (w : World) (hm : MaxInt w) :
    Calls Tryz.prog 96 #[.string s, .string ⟨#[46, 46]⟩] w fun e w' => e = .returned (.bool (dotted (toL s))) ∧ w' = w := by
  obtain ⟨m, hm⟩ := hm
  have h := Any.strings_Contains Tryz.lays144 s ⟨#[46, 46]⟩ m w hs hm
  rw [show (⟨#[46, 46]⟩ : ByteArray).data.toList = [46, 46] from rfl, dots_say] at h
  exact h
theorem hostC_cases (b : UInt8) : (hostC b = true ∧ alnum b = true) ∨ (hostC b = true ∧ alnum b = false ∧ ((b.toNat : Int) != 45) = false) ∨ (hostC b = true ∧ alnum b = false ∧ ((b.toNat : Int) != 45) = true ∧ ((b.toNat : Int) != 46) = false) ∨ (hostC b = false ∧ alnum b = false ∧ ((b.toNat : Int) != 45) = true ∧ ((b.toNat : Int) != 46) = true) := by
  have := all_bytes (p := fun b => decide ((hostC b = true ∧ alnum b = true) ∨ (hostC b = true ∧ alnum b = false ∧ ((b.toNat : Int) != 45) = false) ∨ (hostC b = true ∧ alnum b = false ∧ ((b.toNat : Int) != 45) = true ∧ ((b.toNat : Int) != 46) = false) ∨ (hostC b = false ∧ alnum b = false ∧ ((b.toNat : Int) != 45) = true ∧ ((b.toNat : Int) != 46) = true))) (by decide +kernel) b
  exact of_decide_eq_true this
theorem head_at (s : ByteArray) (h : 0 < s.size) : (toL s).headD 0 = s[0] := by
  have := toL_get s 0 h
  rw [List.headD_eq_head?_getD, List.head?_eq_getElem?, this]
  rfl
theorem last_at (s : ByteArray) (h : 0 < s.size) : (toL s).getLastD 0 = s[s.size - 1] := by
  have := toL_get s (s.size - 1) (by omega)
  rw [List.getLastD_eq_getLast?, List.getLast?_eq_getElem?, toL_length, this]
  rfl
set_option maxHeartbeats 1600000 in
theorem thost_any (s : ByteArray) (hs : s.size ≤ 140737488351232) (w : World) (hm : MaxInt w) :
    Calls Tryz.prog 75 #[.string s] w fun e w' => e = .returned (.bool (host (toL s))) ∧ w = w' := by
  by_cases h0 : 0 < s.size
  rotate_left
  · have hv : host (toL s) = false := by
      have : toL s = [] := List.length_eq_zero_iff.1 (by rw [toL_length]; omega)
      rw [this]; rfl
    have e1 : s.toList = [] := by
      rw [ByteArray.toList_eq]
      exact List.length_eq_zero_iff.1 (by have := toL_length s; unfold toL at this; omega)
    have e2 : s.toList.isEmpty = true := by rw [e1]; rfl
    rw [hv]
    clear hm hv h0
    go_enter Tryz.func75, Tryz.ntmps75
    go_wp2_with fail
    go_ret
    exact ⟨rfl, rfl⟩
  have e1 : ¬ s.toList = [] := fun e => by
    rw [ByteArray.toList_eq] at e
    have := toL_length s
    rw [show toL s = [] from e] at this
    simp at this
    omega
  have e2 : s.toList.isEmpty = false := by
    cases h2 : s.toList with
    | nil => exact absurd h2 e1
    | cons => rfl
  have hne : (toL s).isEmpty = false := by
    cases h2 : toL s with
    | nil => have := toL_length s; rw [h2] at this; simp at this; omega
    | cons => rfl
  by_cases h64 : s.size ≤ 64
  rotate_left
  · have hv : host (toL s) = false := by
      unfold host
      rw [decide_eq_false (p := (toL s).length ≤ 64) (by rw [toL_length]; exact h64)]
      simp
    have hi : (64 : Int) < (s.size : Int) := by omega
    rw [hv]
    clear hm hv h0 h64 hne
    go_enter Tryz.func75, Tryz.ntmps75
    go_wp2_with fail
    go_ret
    exact ⟨rfl, rfl⟩
  have hi : ¬ (64 : Int) < (s.size : Int) := by omega
  have HD := Lib.hid (lib_dots s (by omega) w hm)
  clear hm
  by_cases hd : dotted (toL s) = true
  · have hv : host (toL s) = false := by unfold host; rw [hd]; simp
    rw [hd] at HD
    rw [hv]
    clear hv h0 h64 hne hd
    go_enter Tryz.func75, Tryz.ntmps75
    go_wp2_with fail
    refine HD.out.mono ?_
    rintro e w' ⟨rfl, rfl⟩
    go_wp2_with fail
    go_ret
    exact ⟨rfl, rfl⟩
  have hdf : dotted (toL s) = false := by simpa using hd
  have HV := Lib.hid (show host (toL s) = ((toL s).all hostC && alnum s[0] && alnum s[s.size - 1]) by
    unfold host
    rw [hne, hdf, decide_eq_true (p := (toL s).length ≤ 64) (by rw [toL_length]; exact h64), head_at s h0, last_at s h0]
    rfl)
  rw [hdf] at HD
  clear hd hdf hne
  go_enter Tryz.func75, Tryz.ntmps75
  go_wp2_with fail
  refine HD.out.mono ?_
  rintro e w' ⟨rfl, rfl⟩
  clear HD
  go_wp2_with fail
  go_loop [17] (fun i => ∃ k : Nat, k ≤ s.size ∧ i = .int .i64 k ∧ Hid (((toL s).take k).all hostC = true)) (fun i => s.size - (intOf i).toNat)
  case atStart => exact ⟨0, Nat.zero_le _, rfl, Lib.hid rfl⟩
  case round =>
    obtain ⟨k, hk, rfl, ha⟩ := hrel
    by_cases hlt : k < s.size
    · have hki : (k : Int) < (s.size : Int) := by omega
      have HS := Lib.hid (toL_take_succ s k hlt)
      have HG := Lib.hid (toL_get s k hlt)
      have HC := Lib.hid (fun w => talnum_any s[k] w)
      have HN : hostC s[k] = true → Hid (((toL s).take (k + 1)).all hostC = true) := fun hh => Lib.hid (by rw [HS.out, List.all_append, ha.out]; simp [hh])
      rcases hostC_cases s[k] with ⟨hh, h1⟩ | ⟨hh, h1, h2⟩ | ⟨hh, h1, h2, h3⟩ | ⟨hh, h1, h2, h3⟩
      · have HA := HN hh
        rw [h1] at HC
        clear hh h1 HS HG HN HV ha
        go_wp2_with (refine (HC.out _).mono ?_; rintro e w' ⟨rfl, rfl⟩)
        go_round
        case rel => exact ⟨k + 1, by omega, by go_num, HA⟩
        case measure => simp [intOf]; omega
      · have HA := HN hh
        rw [h1] at HC
        clear hh h1 HS HG HN HV ha
        go_wp2_with (refine (HC.out _).mono ?_; rintro e w' ⟨rfl, rfl⟩)
        go_round
        case rel => exact ⟨k + 1, by omega, by go_num, HA⟩
        case measure => simp [intOf]; omega
      · have HA := HN hh
        rw [h1] at HC
        clear hh h1 HS HG HN HV ha
        go_wp2_with (refine (HC.out _).mono ?_; rintro e w' ⟨rfl, rfl⟩)
        go_round
        case rel => exact ⟨k + 1, by omega, by go_num, HA⟩
        case measure => simp [intOf]; omega
      · have HV2 : Hid (host (toL s) = false) := Lib.hid (by
          rw [HV.out]
          have : (toL s).all hostC = false := by
            rw [List.all_eq_false]
            exact ⟨s[k], List.mem_of_getElem? HG.out, by simpa using hh⟩
          rw [this]
          rfl)
        rw [h1] at HC
        clear hh h1 HS HG HN HV ha
        go_wp2_with (refine (HC.out _).mono ?_; rintro e w' ⟨rfl, rfl⟩)
        go_ret
        exact ⟨ret_bool HV2.out.symm, rfl⟩
    · have hall : (toL s).take k = toL s := toL_take_all s (by omega)
      have HV2 : Hid (host (toL s) = (alnum s[0] && alnum s[s.size - 1])) := Lib.hid (by
        have h := ha.out
        rw [hall] at h
        rw [HV.out, h]
        rfl)
      clear hall HV ha
      obtain ⟨j, hj⟩ : ∃ j, s.size = j + 1 := ⟨s.size - 1, by omega⟩
      have hjl : j < s.size := by omega
      have hgj : s[s.size - 1] = s[j] := by congr 1; omega
      rw [hgj] at HV2
      clear hgj
      have H0 := Lib.hid (fun w => talnum_any s[0] w)
      have H1 := Lib.hid (fun w => talnum_any s[j] w)
      have hz : (0 : Int) < (s.size : Int) := by omega
      have hz1 : (0 : Int) < (j : Int) + 1 := by omega
      have hz2 : (j : Int) < (j : Int) + 1 := by omega
      cases ha0 : alnum s[0]
      · rw [ha0] at HV2 H0
        clear ha0 H1
        go_wp2_with fail
        refine (H0.out _).mono ?_
        rintro e w' ⟨rfl, rfl⟩
        go_wp2_with fail
        go_ret
        exact ⟨ret_bool HV2.out.symm, rfl⟩
      · rw [ha0] at HV2 H0
        clear ha0
        go_wp2_with fail
        refine (H0.out _).mono ?_
        rintro e w' ⟨rfl, rfl⟩
        go_wp2_with fail
        refine (H1.out _).mono ?_
        rintro e w' ⟨rfl, rfl⟩
        go_wp2_with fail
        go_ret
        exact ⟨ret_bool HV2.out.symm, rfl⟩
end Go.Proofs.YtmlpdhmafmdkcaaGreatDoor.THost

/- A row of bytes behind '[]byte(s)': its cells, a store into it, the text out of it. No program is named. -/
namespace Go.Proofs.YtmlpdhmafmdkcaaGreatDoor.BRow
open Bytes Rows1 Go.RowKit
variable {P : Program}
structure BRow (w : World) (g : Nat) (l : List UInt8) : Prop where
  cell : ∀ j (hj : j < l.length), w.cell? ⟨g, j, none⟩ = some (.int .u8 (l[j].toNat : Int))
  free : ∀ j, j < l.length → w.frozen? ⟨g, j, none⟩ = false
theorem BRow.set {w : World} {g : Nat} {l : List UInt8} (h : BRow w g l) (k : Nat) (hk : k < l.length) (c : UInt8) : BRow (w.setCell ⟨g, k, none⟩ (.int .u8 (c.toNat : Int))) g (l.set k c) := by
  refine ⟨fun j hj => ?_, fun j hj => ?_⟩
  · rw [List.length_set] at hj
    rw [List.getElem_set]
    by_cases e : k = j
    · subst e
      rw [if_pos rfl]
      exact World.cell?_setCell_same _ _ _ (h.cell k hk)
    · rw [if_neg e, World.cell?_setCell_other _ _ _ _ (by intro h2; injection h2 with _ h3; exact e h3)]
      exact h.cell j hj
  · rw [List.length_set] at hj
    rw [World.frozen?_setCell]
    exact h.free j hj
theorem BRow.below {w w' : World} {g : Nat} {l : List UInt8} (h : BRow w g l) (hg : g < w.heap.size) (hb : Below w.heap.size w w') : BRow w' g l :=
  ⟨fun j hj => (hb.cell (p := ⟨g, j, none⟩) hg).trans (h.cell j hj), fun j hj => (hb.frozen (p := ⟨g, j, none⟩) hg).trans (h.free j hj)⟩
/-- '[]byte(s)' -/
theorem bytes_of (w : World) (src dst e : TypeId) (s : ByteArray) (hs : P.underlying src = some .string) (hd : P.underlying dst = some (.slice e)) (he : P.underlying e = some (.int .u8)) :
    ∃ cap w1, (Go.convert src dst (.string s)).run P w = .ok (.slice (some ⟨w.heap.size, 0, none⟩) s.size cap) w1 ∧ BRow w1 w.heap.size (toL s) ∧ Below w.heap.size w w1 ∧ w.heap.size < w1.heap.size := by
  refine ⟨_, _, run_bytes_of_string w src dst e s hs hd he, ⟨fun j hj => ?_, fun j hj => ?_⟩, ((Below.refl _ w).drew).alloc (Nat.le_refl _) _, by simp⟩
  · have hj' : j < s.size := by rwa [toL_length] at hj
    have hC : (bytesRow s (grownCap w s.size 0 e))[j]? = some (.int .u8 ((toL s)[j].toNat : Int)) := by
      unfold bytesRow
      rw [Array.getElem?_append_left (by rw [Array.size_map]; exact hj'), Array.getElem?_map]
      have : s.data[j]? = some (toL s)[j] := by
        rw [← Array.getElem?_toList]
        exact List.getElem?_eq_getElem hj
      rw [this]
      rfl
    generalize bytesRow s (grownCap w s.size 0 e) = C at *
    have h : (w.drew.alloc (.cells C e (C.size, C.size + 1))).heap[w.heap.size]? = some (.cells C e (C.size, C.size + 1)) := by
      show (w.heap.push _)[w.heap.size]? = _
      simp
    simp only [World.cell?, h]
    exact hC
  · have hj' : j < s.size := by rwa [toL_length] at hj
    have hsz : j < (bytesRow s (grownCap w s.size 0 e)).size := by
      unfold bytesRow
      rw [Array.size_append, Array.size_map]
      have : s.data.size = s.size := rfl
      omega
    generalize bytesRow s (grownCap w s.size 0 e) = C at *
    have h : (w.drew.alloc (.cells C e (C.size, C.size + 1))).heap[w.heap.size]? = some (.cells C e (C.size, C.size + 1)) := by
      show (w.heap.push _)[w.heap.size]? = _
      simp
    unfold World.frozen?
    rw [h]
    simp
    omega
/-- 'string(b)' -/
theorem BRow.text {w : World} {g cap : Nat} {l : List UInt8} (h : BRow w g l) (src dst e : TypeId) (hs : P.underlying src = some (.slice e)) (he : P.underlying e = some (.int .u8)) (hd : P.underlying dst = some .string) :
    (Go.convert src dst (.slice (some ⟨g, 0, none⟩) l.length cap)).run P w = .ok (.string (ofL l)) w :=
  run_convert_bytes_back w src dst e ⟨g, 0, none⟩ cap l hs he hd (fun j hj => by
    have e : (⟨g, 0, none⟩ : Addr).add j = ⟨g, j, none⟩ := by unfold Addr.add; split <;> simp_all
    rw [e]
    exact h.cell j hj)
end Go.Proofs.YtmlpdhmafmdkcaaGreatDoor.BRow

/- Layer 4 of the program: Lower, Alike. -/
namespace Go.Proofs.YtmlpdhmafmdkcaaGreatDoor.PLower
open Go.ChangeShapes Go.WideShapes Go.ChangeAt Go.RowKit LexPure Bytes Ret PLsmall Rows1 BRow Mem
set_option maxRecDepth 20000
/-- ahead of a round: the first k bytes are small -/
structure LInv (w : World) (s : ByteArray) (k : Nat) (wr : World) : Prop where
  row : BRow wr w.heap.size (lower ((toL s).take k) ++ (toL s).drop k)
  below : Below w.heap.size w wr
  lt : w.heap.size < wr.heap.size
theorem plower_any (s : ByteArray) (hs : s.size ≤ maxLen) (w : World) :
    Calls Tryz.prog 62 #[.string s] w fun e w' => e = .returned (.string (ofL (lower (toL s)))) ∧ Below w.heap.size w w' := by
  go_enter Tryz.func62, Tryz.ntmps62
  unfold maxLen at hs
  obtain ⟨cap, w1, HC, hR, hb, hg⟩ := bytes_of (P := Tryz.prog) w 9 46 5 s Tryz.underlying9 Tryz.underlying46 Tryz.underlying5
  have HR0 : Hid (LInv w s 0 w1) := Lib.hid ⟨by rw [List.take_zero, List.drop_zero]; exact hR, hb, hg⟩
  clear hR hb hg
  go_wp2_with fail
  generalize hgq : w.heap.size = g at *
  go_loopw [10] (fun i wr => ∃ k : Nat, k ≤ s.size ∧ i = .int .i64 k ∧ Hid (LInv w s k wr)) (fun i _ => s.size - (intOf i).toNat)
  case atStart => exact ⟨0, Nat.zero_le _, rfl, HR0⟩
  case round =>
    obtain ⟨k, hk, rfl, HI⟩ := hrel
    clear HR0
    by_cases hlt : k < s.size
    · have hki : (k : Int) < (s.size : Int) := by omega
      have hlen : (lower ((toL s).take k) ++ (toL s).drop k).length = s.size := by
        rw [List.length_append, lower_length, List.length_take, List.length_drop, toL_length]; omega
      have hkl : k < (lower ((toL s).take k) ++ (toL s).drop k).length := by omega
      have hc := HI.out.row.cell k hkl
      have hget : (lower ((toL s).take k) ++ (toL s).drop k)[k] = s[k] := by
        have h1 : (lower ((toL s).take k) ++ (toL s).drop k)[k]? = some s[k] := by
          rw [List.getElem?_append_right (by rw [lower_length, List.length_take, toL_length]; omega), lower_length, List.length_take, toL_length, List.getElem?_drop, ← toL_get s k hlt]
          congr 1
          omega
        rw [List.getElem?_eq_getElem hkl] at h1
        exact Option.some.inj h1
      rw [hget, hgq] at hc
      have hf := HI.out.row.free k hkl
      rw [hgq] at hf
      have HC := Lib.hid (fun w => psmall_same s[k] w)
      have HN : Hid (LInv w s (k + 1) (wr.setCell ⟨g, k, none⟩ (.int .u8 ((small s[k]).toNat : Int)))) := Lib.hid ⟨by
          have h := HI.out.row.set k hkl (small s[k])
          rw [hgq] at h ⊢
          have e : (lower ((toL s).take k) ++ (toL s).drop k).set k (small s[k]) = lower ((toL s).take (k + 1)) ++ (toL s).drop (k + 1) := by
            rw [toL_take_succ s k hlt, toL_drop s k hlt]
            unfold lower
            rw [List.map_append, List.set_append_right _ _ (by rw [List.length_map, List.length_take, toL_length]; omega), List.length_map, List.length_take, toL_length, show k - min k s.size = 0 by omega]
            simp
          rwa [e] at h,
        HI.out.below.setCell (by rw [hgq]; exact Nat.le_refl _) _, by
          have := HI.out.lt
          rw [World.size_setCell]; exact this⟩
      clear hlen hkl hget HI
      go_wp2_with fail
      refine (HC.out _).mono ?_
      rintro e w' ⟨rfl, rfl⟩
      go_wp2_with fail
      go_roundw
      case rel => exact ⟨k + 1, by omega, by go_num, HN⟩
      case measure => simp [intOf]; omega
    · have hall : (toL s).take k = toL s := toL_take_all s (by omega)
      have HF : Hid (BRow wr g (lower (toL s))) := Lib.hid (by
        have h := HI.out.row
        rw [hall, hgq] at h
        rwa [List.drop_of_length_le (by rw [toL_length]; omega), List.append_nil] at h)
      have HT := HF.out.text (P := Tryz.prog) (cap := cap) 46 9 5 Tryz.underlying46 Tryz.underlying5 Tryz.underlying9
      rw [lower_length, toL_length] at HT
      have HB := Lib.hid HI.out.below
      clear hall HF HI
      go_wp2_with fail
      go_ret
      exact ⟨rfl, HB.out⟩
end Go.Proofs.YtmlpdhmafmdkcaaGreatDoor.PLower

/- Layer 6 of the program: Authority. -/
namespace Go.Proofs.YtmlpdhmafmdkcaaGreatDoor.TAuth
open Go.ChangeShapes Go.WideShapes Go.ChangeAt Go.RowKit LexPure Bytes Ret CutAt HostPure PUnder PCutLib PLower PDecimal THost Mem
set_option maxRecDepth 20000
theorem ahead_len (x : UInt8) (s : List UInt8) : (aheadOf x s).length ≤ s.length := by
  unfold aheadOf
  exact (List.takeWhile_prefix _).length_le
theorem behind_len (x : UInt8) (s : List UInt8) : (behind x s).length ≤ s.length := by
  unfold behind
  rw [List.length_tail]
  have := (List.dropWhile_suffix (l := s) (fun c => c != x)).length_le
  omega
theorem ret_auth {a b : ByteArray} {p q r t : Int} (h : a = b) (k : p = q) (l : r = t) : Ending.returned (.tuple #[.string a, .int .i64 p, .int .i64 r]) = .returned (.tuple #[.string b, .int .i64 q, .int .i64 t]) := by rw [h, k, l]
set_option maxHeartbeats 1600000 in
theorem tauth_any (s : ByteArray) (hs : s.size ≤ 140737488351232) (w : World) (hm : MaxInt w) :
    Calls Tryz.prog 54 #[.string s] w fun e w' => e = .returned (.tuple #[.string (ofL (authH (toL s))), .int .i64 (authP (toL s)), .int .i64 (authE (toL s))]) ∧ Below w.heap.size w w' := by
  have HC := Lib.hid (fun w => full_cut 58 s hs w)
  have hl1 := ahead_len 58 (toL s)
  have hl2 := behind_len 58 (toL s)
  rw [toL_length] at hl1 hl2
  have HH := Lib.hid (fun w hm => thost_any (ofL (aheadOf 58 (toL s))) (by rw [ofL_size]; omega) w hm)
  have HL := Lib.hid (fun w => plower_any (ofL (aheadOf 58 (toL s))) (by rw [ofL_size]; unfold maxLen; omega) w)
  have HD := Lib.hid (fun w => pdecimal_any (ofL (behind 58 (toL s))) (by rw [ofL_size]; unfold maxLen; omega) 5 w)
  rw [toL_ofL] at HH HL HD
  rw [show min (5 : Int) 18 = 5 from rfl] at HD
  have HM := Lib.hid hm
  clear hm hl1 hl2 hs
  by_cases hh : host (aheadOf 58 (toL s)) = true
  rotate_left
  · have hf : host (aheadOf 58 (toL s)) = false := by simpa using hh
    have hn : authO (toL s) = none := by unfold authO; rw [if_neg hh]
    obtain ⟨v1, v2, v3⟩ := auth_none hn
    rw [v1, v2, v3]
    rw [hf] at HH
    clear hf hn v1 v2 v3 hh HL HD
    generalize ofL (aheadOf 58 (toL s)) = A at *
    generalize ofL (behind 58 (toL s)) = B at *
    generalize hasB 58 (toL s) = q at *
    go_enter Tryz.func54, Tryz.ntmps54
    go_wp2_with fail
    refine (HC.out _).mono ?_
    rintro e w1 ⟨rfl, hb1⟩
    go_wp2_with fail
    refine (HH.out _ (HM.out.below hb1)).mono ?_
    rintro e w2 ⟨rfl, rfl⟩
    go_wp2_with fail
    go_ret3
    exact ⟨rfl, hb1⟩
  rw [hh] at HH
  cases hq : hasB 58 (toL s)
  · have hn : authO (toL s) = some (lower (aheadOf 58 (toL s)), 0) := by unfold authO; rw [if_pos hh, hq]; rfl
    obtain ⟨v1, v2, v3⟩ := auth_some hn
    rw [v1, v2, v3]
    rw [hq] at HC
    clear hn v1 v2 v3 hh hq HD
    generalize ofL (lower (aheadOf 58 (toL s))) = L at *
    generalize ofL (aheadOf 58 (toL s)) = A at *
    generalize ofL (behind 58 (toL s)) = B at *
    go_enter Tryz.func54, Tryz.ntmps54
    go_wp2_with fail
    refine (HC.out _).mono ?_
    rintro e w1 ⟨rfl, hb1⟩
    go_wp2_with fail
    refine (HH.out _ (HM.out.below hb1)).mono ?_
    rintro e w2 ⟨rfl, rfl⟩
    go_wp2_with fail
    refine (HL.out _).mono ?_
    rintro e w2 ⟨rfl, hb2⟩
    have HB := Lib.hid (below_chain hb1 hb2)
    clear hb1 hb2
    go_wp2_with fail
    go_ret3
    exact ⟨rfl, HB.out⟩
  · rw [hq] at HC
    by_cases hp : portOk (behind 58 (toL s)) = true
    · have hn : authO (toL s) = some (lower (aheadOf 58 (toL s)), numR 10 5 (behind 58 (toL s))) := by unfold authO; rw [if_pos hh, hq, if_pos rfl, if_pos hp]
      obtain ⟨v1, v2, v3⟩ := auth_some hn
      rw [v1, v2, v3]
      unfold portOk at hp
      simp only [Bool.and_eq_true, decide_eq_true_eq] at hp
      obtain ⟨⟨p1, p2⟩, p3⟩ := hp
      rw [p1] at HD
      clear hn v1 v2 v3 hh hq p1
      generalize ofL (lower (aheadOf 58 (toL s))) = L at *
      generalize ofL (aheadOf 58 (toL s)) = A at *
      generalize numR 10 5 (behind 58 (toL s)) = n at *
      generalize ofL (behind 58 (toL s)) = B at *
      go_enter Tryz.func54, Tryz.ntmps54
      go_wp2_with fail
      refine (HC.out _).mono ?_
      rintro e w1 ⟨rfl, hb1⟩
      go_wp2_with fail
      refine (HH.out _ (HM.out.below hb1)).mono ?_
      rintro e w2 ⟨rfl, rfl⟩
      go_wp2_with fail
      refine (HD.out _).mono ?_
      rintro e w2 ⟨rfl, rfl⟩
      go_wp2_with fail
      refine (HL.out _).mono ?_
      rintro e w2 ⟨rfl, hb2⟩
      have HB := Lib.hid (below_chain hb1 hb2)
      clear hb1 hb2
      go_wp2_with fail
      go_ret3
      exact ⟨rfl, HB.out⟩
    · have hn : authO (toL s) = none := by unfold authO; rw [if_pos hh, hq, if_pos rfl, if_neg hp]
      obtain ⟨v1, v2, v3⟩ := auth_none hn
      rw [v1, v2, v3]
      have hc : numOk 10 5 (behind 58 (toL s)) = false ∨ (numOk 10 5 (behind 58 (toL s)) = true ∧ numR 10 5 (behind 58 (toL s)) < 1) ∨ (numOk 10 5 (behind 58 (toL s)) = true ∧ 1 ≤ numR 10 5 (behind 58 (toL s)) ∧ 65535 < numR 10 5 (behind 58 (toL s))) := by
        unfold portOk at hp
        simp only [Bool.and_eq_true, decide_eq_true_eq] at hp
        cases h : numOk 10 5 (behind 58 (toL s))
        · exact .inl rfl
        · right
          rcases Int.lt_or_le (numR 10 5 (behind 58 (toL s))) 1 with h2 | h2
          · exact .inl ⟨rfl, h2⟩
          · rcases Int.lt_or_le 65535 (numR 10 5 (behind 58 (toL s))) with h3 | h3
            · exact .inr ⟨rfl, h2, h3⟩
            · exact absurd ⟨⟨h, h2⟩, h3⟩ hp
      clear hn v1 v2 v3 hh hq hp HL
      rcases hc with h1 | ⟨h1, h2⟩ | ⟨h1, h2, h3⟩
      all_goals
        rw [h1] at HD
        clear h1
        generalize ofL (aheadOf 58 (toL s)) = A at *
        generalize numR 10 5 (behind 58 (toL s)) = n at *
        generalize ofL (behind 58 (toL s)) = B at *
        go_enter Tryz.func54, Tryz.ntmps54
        go_wp2_with fail
        refine (HC.out _).mono ?_
        rintro e w1 ⟨rfl, hb1⟩
        go_wp2_with fail
        refine (HH.out _ (HM.out.below hb1)).mono ?_
        rintro e w2 ⟨rfl, rfl⟩
        go_wp2_with fail
        refine (HD.out _).mono ?_
        rintro e w2 ⟨rfl, rfl⟩
        go_wp2_with fail
        go_ret3
        exact ⟨rfl, hb1⟩
end Go.Proofs.YtmlpdhmafmdkcaaGreatDoor.TAuth

/- Layer 6: targets in memory. -/
namespace Go.Proofs.YtmlpdhmafmdkcaaGreatDoor.TBox
open Go.ChangeShapes Go.WideShapes Go.ChangeAt Go.RowKit LexPure Bytes TargetPure Mem
set_option maxRecDepth 20000
def tv (t : Tgt) : Value := .agg #[.int .i64 t.form, .string (ofL t.host), .int .i64 t.port, .string (ofL t.path), .string (ofL t.query), .bool t.has]
def tc (t : Tgt) : Array Value := #[.int .i64 t.form, .string (ofL t.host), .int .i64 t.port, .string (ofL t.path), .string (ofL t.query), .bool t.has]
/-- what a target's box holds, cell by cell -/
structure Box (w : World) (g : Nat) (t : Tgt) : Prop where
  has : Has w g 33 (tc t)
theorem Box.new (w : World) (t : Tgt) : Box (w.alloc (.cells (tc t) 33)) w.heap.size t := ⟨Has.new w _ _⟩
theorem Box.alloc {w : World} {g : Nat} {t : Tgt} (h : Box w g t) (o : Obj) : Box (w.alloc o) g t := ⟨h.has.alloc o⟩
theorem Box.below {w w' : World} {g B : Nat} {t : Tgt} (h : Box w g t) (hb : Below B w w') (hg : g < B) : Box w' g t := ⟨h.has.below hb hg⟩
theorem Box.cells {w : World} {g : Nat} {t : Tgt} (h : Box w g t) : w.cell? ⟨g, 0, none⟩ = some (.int .i64 t.form) ∧ w.cell? ⟨g, 1, none⟩ = some (.string (ofL t.host)) ∧ w.cell? ⟨g, 2, none⟩ = some (.int .i64 t.port) ∧ w.cell? ⟨g, 3, none⟩ = some (.string (ofL t.path)) ∧ w.cell? ⟨g, 4, none⟩ = some (.string (ofL t.query)) ∧ w.cell? ⟨g, 5, none⟩ = some (.bool t.has) :=
  ⟨(h.has.cell 0).trans rfl, (h.has.cell 1).trans rfl, (h.has.cell 2).trans rfl, (h.has.cell 3).trans rfl, (h.has.cell 4).trans rfl, (h.has.cell 5).trans rfl⟩
theorem Box.frees {w : World} {g : Nat} {t : Tgt} (h : Box w g t) : w.frozen? ⟨g, 0, none⟩ = false ∧ w.frozen? ⟨g, 1, none⟩ = false ∧ w.frozen? ⟨g, 2, none⟩ = false ∧ w.frozen? ⟨g, 3, none⟩ = false ∧ w.frozen? ⟨g, 4, none⟩ = false ∧ w.frozen? ⟨g, 5, none⟩ = false :=
  ⟨h.has.free 0, h.has.free 1, h.has.free 2, h.has.free 3, h.has.free 4, h.has.free 5⟩
def rv (r : Tgt × Int) : Value := .tuple #[tv r.1, .int .i64 r.2]
/-- the boxes of a call that takes a target and answers one -/
structure Two (w W : World) (g : Nat) (t u : Tgt) : Prop where
  at_ : g = w.heap.size
  below : Below w.heap.size w W
  tbox : Box W g t
  rbox : Box W (g + 1) u
  size : g + 2 ≤ W.heap.size
theorem Two.start (w : World) (fo : Int) (ho : List UInt8) (po : Int) (pa qu : List UInt8) (ha : Bool) : Two w ((w.alloc (.cells #[.int .i64 fo, .string (ofL ho), .int .i64 po, .string (ofL pa), .string (ofL qu), .bool ha] 33)).alloc (.cells #[.int .i64 0, .string ⟨#[]⟩, .int .i64 0, .string ⟨#[]⟩, .string ⟨#[]⟩, .bool false] 33)) w.heap.size ⟨fo, ho, po, pa, qu, ha⟩ zero := by
  refine ⟨rfl, ((Below.refl w.heap.size w).alloc (Nat.le_refl _) _).alloc (by simp) _, (Box.new w ⟨fo, ho, po, pa, qu, ha⟩).alloc _, ?_, by simp⟩
  have := Box.new (w.alloc (.cells (tc ⟨fo, ho, po, pa, qu, ha⟩) 33)) zero
  rw [show (w.alloc (.cells (tc ⟨fo, ho, po, pa, qu, ha⟩) 33)).heap.size = w.heap.size + 1 by simp] at this
  exact this
theorem Two.call {w W W' : World} {g : Nat} {t u : Tgt} (h : Two w W g t u) (hb : Below W.heap.size W W') : Two w W' g t u :=
  ⟨h.at_, below_chain h.below hb, h.tbox.below hb (by have := h.size; omega), h.rbox.below hb (by have := h.size; omega), Nat.le_trans h.size hb.size⟩
/-- a whole target written into its box, as the walk writes it -/
def put (W : World) (g : Nat) (t : Tgt) : World :=
  (((((W.setCell ⟨g, 0, none⟩ (.int .i64 t.form)).setCell ⟨g, 1, none⟩ (.string (ofL t.host))).setCell ⟨g, 2, none⟩ (.int .i64 t.port)).setCell ⟨g, 3, none⟩ (.string (ofL t.path))).setCell ⟨g, 4, none⟩ (.string (ofL t.query))).setCell ⟨g, 5, none⟩ (.bool t.has)
theorem Box.put {W : World} {g : Nat} {u : Tgt} (h : Box W g u) (t : Tgt) : Box (put W g t) g t :=
  ⟨by have := (((((h.has.set_ 0 (.int .i64 t.form)).set_ 1 (.string (ofL t.host))).set_ 2 (.int .i64 t.port)).set_ 3 (.string (ofL t.path))).set_ 4 (.string (ofL t.query))).set_ 5 (.bool t.has); unfold TBox.put; simpa [tc] using this⟩
theorem below_put {B : Nat} {a W : World} {g : Nat} (h : Below B a W) (hg : B ≤ g) (t : Tgt) : Below B a (put W g t) :=
  (((((h.setCell (p := ⟨g, 0, none⟩) hg _).setCell (p := ⟨g, 1, none⟩) hg _).setCell (p := ⟨g, 2, none⟩) hg _).setCell (p := ⟨g, 3, none⟩) hg _).setCell (p := ⟨g, 4, none⟩) hg _).setCell (p := ⟨g, 5, none⟩) hg _
theorem load_box {w : World} {g : Nat} {t : Tgt} (h : Box w g t) : (loadVar 33 ⟨g, 0, none⟩).run Tryz.prog w = .ok (tv t) w :=
  run_loadVar_row w g 33 33 _ _ _ h.has.at_ Tryz.underlying33 rfl (by kernel_rfl)
theorem Box.far {w : World} {g : Nat} {t : Tgt} (h : Box w g t) {p : Addr} (hp : g ≠ p.block) (u : Value) : Box (w.setCell p u) g t := ⟨h.has.far hp u⟩
/-- what a call that answers a target and a number hands back -/
theorem end_box {W : World} {g : Nat} {t : Tgt} {v : Int} {tmps : Array Value} {p u : Tmp} (hp : tmps.getD p undef = .pointer (some ⟨g, 0, none⟩)) (hu : tmps.getD u undef = .int .i64 v) (h : Box W g t) :
    (((asAddr (tmps.getD p undef)).run Tryz.prog W).andThen fun a w₁ => ((loadVar 33 a).run Tryz.prog w₁).andThen fun v w₂ => .ok (.tuple #[v, tmps.getD u undef]) w₂) = .ok (rv (t, v)) W := by
  rw [hp, hu]
  have := load_box h
  simp [asAddr, Result.andThen, this, rv]
/-- the box of a call that answers a target -/
structure One (w W : World) (g : Nat) (u : Tgt) : Prop where
  at_ : g = w.heap.size
  below : Below w.heap.size w W
  rbox : Box W g u
  size : g + 1 ≤ W.heap.size
theorem One.start (w : World) : One w (w.alloc (.cells #[.int .i64 0, .string ⟨#[]⟩, .int .i64 0, .string ⟨#[]⟩, .string ⟨#[]⟩, .bool false] 33)) w.heap.size zero :=
  ⟨rfl, (Below.refl w.heap.size w).alloc (Nat.le_refl _) _, Box.new w zero, by simp⟩
theorem One.call {w W W' : World} {g : Nat} {u : Tgt} (h : One w W g u) (hb : Below W.heap.size W W') : One w W' g u :=
  ⟨h.at_, below_chain h.below hb, h.rbox.below hb (by have := h.size; omega), Nat.le_trans h.size hb.size⟩
theorem One.put {w W : World} {g : Nat} {u : Tgt} (h : One w W g u) (t : Tgt) : Below w.heap.size w (TBox.put W g t) := below_put h.below (by rw [h.at_]; exact Nat.le_refl _) t
/-- a target that a law keeps in a variable -/
structure Bx (w W : World) (g : Nat) (t : Tgt) : Prop where
  low : w.heap.size ≤ g
  lt : g < W.heap.size
  box : Box W g t
  below : Below w.heap.size w W
theorem Bx.new {w W : World} (h : Below w.heap.size w W) (fo : Int) (ho : List UInt8) (po : Int) (pa qu : List UInt8) (ha : Bool) :
    Bx w (W.alloc (.cells #[.int .i64 fo, .string (ofL ho), .int .i64 po, .string (ofL pa), .string (ofL qu), .bool ha] 33)) W.heap.size ⟨fo, ho, po, pa, qu, ha⟩ :=
  ⟨h.size, by simp, Box.new W ⟨fo, ho, po, pa, qu, ha⟩, h.alloc h.size _⟩
theorem Bx.call {w W W' : World} {g : Nat} {t : Tgt} (h : Bx w W g t) (hb : Below W.heap.size W W') : Bx w W' g t :=
  ⟨h.low, Nat.lt_of_lt_of_le h.lt hb.size, h.box.below hb h.lt, below_chain h.below hb⟩
theorem Bx.alloc {w W : World} {g : Nat} {t : Tgt} (h : Bx w W g t) (o : Obj) : Bx w (W.alloc o) g t :=
  h.call ((Below.refl _ _).alloc (Nat.le_refl _) o)
end Go.Proofs.YtmlpdhmafmdkcaaGreatDoor.TBox

/- Layer 11 of the program: hostOf. -/
namespace Go.Proofs.YtmlpdhmafmdkcaaGreatDoor.PHost11
open Go.ChangeShapes Go.WideShapes Go.ChangeAt Go.RowKit LexPure Bytes Ret FieldsPure Flds HeadPure HBox HostPure TargetPure InflowPure InJudge PGet TAuth PUnder Mem
set_option maxRecDepth 20000
def hostV (r : List UInt8 × Int × Int) : Value := .tuple #[.string (ofL r.1), .int .i64 r.2.1, .int .i64 r.2.2]
theorem ret_v {a b : Value} (h : a = b) : Ending.returned a = .returned b := by rw [h]
theorem getV_few (n : List UInt8) : ∀ {G : List HField}, Few G → (getV G n).length ≤ 1048576
  | [], _ => Nat.zero_le _
  | f :: G, h => by
    rw [R7Get.getV_cons]
    split
    · exact (h 0 (Nat.zero_lt_succ _)).2
    · exact getV_few n (fun j hj => h (j + 1) (Nat.succ_lt_succ hj))
set_option maxHeartbeats 3200000 in
theorem phost11_any (h : H8) (v : Value) (t : Tgt) (hG : Few h.fields) (w : World) (hF : FL w v h.fields) (hm : MaxInt w) :
    Calls Tryz.prog 36 #[TBox.tv t, hv h v] w fun e w' => e = .returned (hostV (hostP h t)) ∧ Below w.heap.size w w' := by
  have T0 : Has ((w.alloc (.cells (TBox.tc t) 33)).alloc (.cells (hc h v) 31)) w.heap.size 33 (TBox.tc t) := (Has.new w _ _).alloc _
  have B0 : HBox ((w.alloc (.cells (TBox.tc t) 33)).alloc (.cells (hc h v) 31)) (w.heap.size + 1) h v := ⟨by
    have := Has.new (w.alloc (.cells (TBox.tc t) 33)) 31 (hc h v)
    rwa [World.size_alloc] at this⟩
  have hb1 : Below w.heap.size w ((w.alloc (.cells (TBox.tc t) 33)).alloc (.cells (hc h v) 31)) := ((Below.refl w.heap.size w).alloc (Nat.le_refl _) _).alloc (by simp) _
  have hsz : w.heap.size + 1 < ((w.alloc (.cells (TBox.tc t) 33)).alloc (.cells (hc h v) 31)).heap.size := by simp
  have HR := Lib.hid (pget_any v h.fields ⟨#[72, 111, 115, 116]⟩ hG _ (hF.below hb1))
  rw [show toL ⟨#[72, 111, 115, 116]⟩ = aHOST from rfl, getV_same low_h, FrNames.getN_same low_h] at HR
  have hvl : (getV h.fields HOSTN).length ≤ 1048576 := getV_few _ hG
  have HU := Lib.hid (fun w hm => tauth_any (ofL (getV h.fields HOSTN)) (by rw [ofL_size]; omega) w hm)
  rw [toL_ofL] at HU
  have HM := Lib.hid (hm.below hb1)
  obtain ⟨X, hX⟩ : ∃ X, X = hostV (hostP h t) := ⟨_, rfl⟩
  rw [← hX]
  unfold hostP at hX
  generalize getN h.fields HOSTN = n at *
  generalize authE (getV h.fields HOSTN) = ae at *
  generalize authH (getV h.fields HOSTN) = ah at *
  generalize authP (getV h.fields HOSTN) = ap at *
  generalize ofL (getV h.fields HOSTN) = gv at *
  unfold hc TBox.tc at B0 T0 hb1 hsz HR HM
  unfold hv TBox.tv
  replace hb1 := Lib.hid hb1
  clear hF hvl hm
  rcases (show (1 < n ∧ X = hostV ([], 0, 61)) ∨ (n = 0 ∧ 0 < h.minor ∧ X = hostV ([], 0, 61)) ∨ (n = 0 ∧ ¬ 0 < h.minor ∧ X = hostV (t.host, t.port, 0)) ∨ (n = 1 ∧ (ae != 0) = true ∧ X = hostV ([], 0, ae)) ∨
      (n = 1 ∧ ae = 0 ∧ (t.form == 3) = true ∧ X = hostV (t.host, t.port, 0)) ∨ (n = 1 ∧ ae = 0 ∧ (t.form == 3) = false ∧ (t.form == 2) = true ∧ X = hostV (t.host, t.port, 0)) ∨ (n = 1 ∧ ae = 0 ∧ (t.form == 3) = false ∧ (t.form == 2) = false ∧ X = hostV (ah, ap, 0)) by
    by_cases c1 : 1 < n
    · exact .inl ⟨c1, by rw [hX, if_pos (.inl c1)]⟩
    by_cases c2 : n = 0
    · by_cases c3 : 0 < h.minor
      · exact .inr (.inl ⟨c2, c3, by rw [hX, if_pos (.inr ⟨c2, c3⟩)]⟩)
      · exact .inr (.inr (.inl ⟨c2, c3, by rw [hX, if_neg (by rintro (x | x); exact c1 x; exact c3 x.2), if_pos c2]⟩))
    · have n1 : n = 1 := by omega
      rw [if_neg (by rintro (x | x); exact c1 x; exact c2 x.1), if_neg c2] at hX
      by_cases c6 : ae = 0
      · rw [if_neg (fun x => x c6)] at hX
        by_cases c4 : t.form = 3
        · exact .inr (.inr (.inr (.inr (.inl ⟨n1, c6, by rw [c4]; rfl, by rw [hX, if_pos (.inl c4)]⟩))))
        · by_cases c5 : t.form = 2
          · exact .inr (.inr (.inr (.inr (.inr (.inl ⟨n1, c6, beq_eq_false_iff_ne.2 c4, by rw [c5]; rfl, by rw [hX, if_pos (.inr c5)]⟩)))))
          · exact .inr (.inr (.inr (.inr (.inr (.inr ⟨n1, c6, beq_eq_false_iff_ne.2 c4, beq_eq_false_iff_ne.2 c5, by rw [hX, if_neg (by rintro (x | x); exact c4 x; exact c5 x)]⟩)))))
      · exact .inr (.inr (.inr (.inl ⟨n1, bne_iff_ne.2 c6, by rw [hX, if_pos c6]⟩))))
    with ⟨h1, hV⟩ | ⟨rfl, h1, hV⟩ | ⟨rfl, h1, hV⟩ | ⟨rfl, h1, hV⟩ | ⟨rfl, rfl, h1, hV⟩ | ⟨rfl, rfl, h1, h2, hV⟩ | ⟨rfl, rfl, h1, h2, hV⟩
  all_goals
    have HV := Lib.hid hV
    try have h1i : (1 : Int) < (n : Int) := by omega
    clear hX hV
    go_enter Tryz.func36, Tryz.ntmps36
    go_wp2_with fail
    generalize (w.alloc (.cells #[.int .i64 t.form, .string (ofL t.host), .int .i64 t.port, .string (ofL t.path), .string (ofL t.query), .bool t.has] 33)).alloc (.cells #[.string (ofL h.method), .string (ofL h.target), .int .i64 h.status, .string (ofL h.reason), .int .i64 h.minor, v] 31) = W at *
    refine HR.out.mono ?_
    rintro e w2 ⟨rfl, hb2⟩
    have B2 := B0.below hb2 (by omega)
    have T2 := T0.below hb2 (by omega)
    have HB2 := Lib.hid (below_chain hb1.out hb2)
    have HM2 := Lib.hid (HM.out.below hb2)
    have hs2 := Nat.lt_of_lt_of_le hsz hb2.size
    obtain ⟨d0, d1, d2, d3, d4, d5⟩ := B2.cells
    have t0 := (T2.cell 0).trans rfl
    have t1 := (T2.cell 1).trans rfl
    have t2 := (T2.cell 2).trans rfl
    replace T2 := Lib.hid T2
    clear HR hb2 B0 T0 hb1 B2 hsz HM
    go_wp2_with fail
    first
      | (go_ret3; exact ⟨ret_v HV.out.symm, HB2.out⟩)
      | (go_quiet (fail)
         go_wp2_with fail
         go_ret3
         exact ⟨ret_v HV.out.symm, below_drewN HB2.out _⟩)
      | (refine (HU.out _ HM2.out).mono ?_
         rintro e w3 ⟨rfl, hb3⟩
         have T3 := T2.out.below hb3 (by omega)
         have HB3 := Lib.hid (below_chain HB2.out hb3)
         clear t0 t1 t2
         have t0 := (T3.cell 0).trans rfl
         have t1 := (T3.cell 1).trans rfl
         have t2 := (T3.cell 2).trans rfl
         clear HU hb3 T3 T2 HB2 HM2 d0 d1 d2 d3 d4 d5 hs2
         go_wp2_with fail
         first
           | (go_ret3; exact ⟨ret_v HV.out.symm, HB3.out⟩)
           | (go_quiet (fail)
              go_wp2_with fail
              go_ret3
              exact ⟨ret_v HV.out.symm, below_drewN HB3.out _⟩))
end Go.Proofs.YtmlpdhmafmdkcaaGreatDoor.PHost11

/- Layer 4 of the program: what the library's calls answer it (strings.Split at a comma), off the shelf's contracts. -/
namespace Go.Proofs.YtmlpdhmafmdkcaaGreatDoor.PLib
open Go.ChangeShapes Go.WideShapes Go.ChangeAt Go.RowKit LexPure Bytes Ret LexSplit Texts Rows1
/-- internal/bytealg.MaxLen holds an int -/
def MaxInt (w : World) : Prop := ∃ m, w.cell? ⟨0, 0, none⟩ = some (.int .i64 m)
theorem MaxInt.of_shape {w : World} (h : w.ShapedOpen Tryz.prog) : MaxInt w :=
  cell_of_shapedOpen_int (t := 3) (zero := #[.int .i64 0]) h (of_decide_eq_true (by kernel_rfl)) (by kernel_rfl) rfl (by kernel_rfl) (by kernel_rfl) Tryz.underlying3
theorem MaxInt.below {w w' : World} (h : MaxInt w) (hb : Below w.heap.size w w') : MaxInt w' := by
  obtain ⟨m, hm⟩ := h
  exact ⟨m, (hb.cell (p := ⟨0, 0, none⟩) (World.block_lt_of_cell? _ _ hm)).trans hm⟩
theorem lib_split (s : ByteArray) (hs : s.size < 4294967281) (w : World) (hm : MaxInt w) :
    Calls Tryz.prog 100 #[.string s, .string ⟨#[44]⟩] w fun e w' => ∃ v, e = .returned v ∧ Texts w' v (pieces (toL s)) ∧ Below w.heap.size w w' := by
  obtain ⟨m, hm⟩ := hm
  refine (Any.strings_Split Tryz.lays146 (by kernel_rfl) s ⟨#[44]⟩ m w hs hm (by decide)).mono ?_
  rintro e w' ⟨rfl, rfl⟩
  have hl : (Go.Lib.splitB ⟨#[44]⟩ 0 (Go.Lib.countB s ⟨#[44]⟩) s).map (·.data.toList) = pieces (toL s) := by
    rw [Go.Lib.splitB_data, show Go.Lib.countB s ⟨#[44]⟩ = s.data.toList.count 44 from Go.Lib.count_one 44 _]
    exact split_pieces _
  have hn : (pieces (toL s)).length = Go.Lib.countB s ⟨#[44]⟩ + 1 := by
    rw [← hl, List.length_map]
    exact Go.Lib.splitB_all ⟨#[44]⟩ (by decide) 0 _ s rfl
  have hle := Go.Lib.countB_le ⟨#[44]⟩ (by decide) s.size s (Nat.le_refl _)
  generalize Go.Lib.splitB ⟨#[44]⟩ 0 (Go.Lib.countB s ⟨#[44]⟩) s = B at *
  refine ⟨_, rfl, ?_, (Below.refl _ _).alloc (Nat.le_refl _) _⟩
  rw [← hn]
  refine ⟨_, _, rfl, by omega, fun h0 => ⟨w.heap.size, 0, rfl, by simp, fun j hj => ?_⟩⟩
  rw [Nat.zero_add]
  have hB : (pieces (toL s))[j]? = (B[j]?).map (·.data.toList) := by rw [← hl, List.getElem?_map]
  rw [List.getElem?_eq_getElem hj] at hB
  cases hx : B[j]? with
  | none => rw [hx] at hB; cases hB
  | some x =>
    rw [hx] at hB
    have hq : (pieces (toL s))[j] = x.data.toList := by simpa using hB
    rw [World.cell?_alloc_at _ _ _ _ (by simp)]
    rw [hq, show ofL x.data.toList = x from toL_inj (toL_ofL _)]
    simp [hx]
end Go.Proofs.YtmlpdhmafmdkcaaGreatDoor.PLib

/- Layer 4 of the program: Elements. -/
namespace Go.Proofs.YtmlpdhmafmdkcaaGreatDoor.PElements
open Go.ChangeShapes Go.WideShapes Go.ChangeAt Go.RowKit LexPure Bytes Ret LexSplit LexList PLib PTrim Texts Rows1 Mem
set_option maxRecDepth 20000
theorem elements_one (s : List UInt8) : elements s = (pieces s).flatMap one := by
  unfold elements
  induction pieces s with
  | nil => rfl
  | cons p ps ih =>
    rw [List.flatMap_cons, ← ih, List.map_cons, List.filter_cons]
    unfold one
    cases h : (trim p).isEmpty <;> simp
theorem pieces_length (s : List UInt8) : (pieces s).length ≤ s.length + 1 := by
  induction s with
  | nil => simp [pieces]
  | cons c s ih =>
    unfold pieces
    split
    · simp only [List.length_cons]; omega
    · split
      · simp
      · rename_i h
        rw [h] at ih
        simp only [List.length_cons] at ih ⊢; omega
theorem pieces_mem (s : List UInt8) : ∀ p ∈ pieces s, p.length ≤ s.length := by
  induction s with
  | nil => intro p hp; simp [pieces] at hp; subst hp; simp
  | cons c s ih =>
    intro p hp
    unfold pieces at hp
    split at hp
    · rcases List.mem_cons.1 hp with rfl | hp
      · simp
      · have := ih p hp; simp only [List.length_cons]; omega
    · split at hp
      · rcases List.mem_cons.1 hp with rfl | hp
        · simp
        · cases hp
      · rename_i q qs h
        rcases List.mem_cons.1 hp with rfl | hp
        · have := ih q (by rw [h]; exact List.mem_cons_self ..)
          simp only [List.length_cons]; omega
        · have := ih p (by rw [h]; exact List.mem_cons_of_mem _ hp)
          simp only [List.length_cons]; omega
/-- behind the first k pieces -/
structure PInv (w : World) (L : List (List UInt8)) (k : Nat) (v : Value) (G : List (List UInt8)) (wr : World) : Prop where
  row : wr.ownsRow w.heap.size 9 1 v G.length (strs G)
  below : Below w.heap.size w wr
  got : G = (L.take k).flatMap one
  few : G.length ≤ k
theorem ownsRow_mono {w : World} {base base' n size : Nat} {e : TypeId} {v : Value} {xs : List Value} (h : w.ownsRow base e size v n xs) (hb : base' ≤ base) : w.ownsRow base' e size v n xs := by
  refine ⟨h.1, ?_⟩
  rcases h.2 with h0 | ⟨g, cap, cur, h1, h2, h3⟩
  · exact .inl h0
  · exact .inr ⟨g, cap, cur, h1, Nat.le_trans hb h2, h3⟩
theorem ownsRow_below {w w' : World} {base n size : Nat} {e : TypeId} {v : Value} {xs : List Value} (h : w.ownsRow base e size v n xs) (hb : Below w.heap.size w w') : w'.ownsRow base e size v n xs := by
  refine ⟨h.1, ?_⟩
  rcases h.2 with h0 | ⟨g, cap, cur, h1, h2, h3, h4⟩
  · exact .inl h0
  · exact .inr ⟨g, cap, cur, h1, h2, by rw [hb.block g (Array.getElem?_eq_some_iff.1 h3).1]; exact h3, h4⟩
set_option maxHeartbeats 1600000 in
theorem pelements_any (s : ByteArray) (hs : s.size < 4294967281) (w : World) (hm : MaxInt w) :
    Calls Tryz.prog 81 #[.string s] w fun e w' => ∃ v, e = .returned v ∧ w'.ownsRow w.heap.size 9 1 v (elements (toL s)).length (strs (elements (toL s))) ∧ Below w.heap.size w w' := by
  obtain ⟨i0, hi, hz0, hz1, hz2⟩ := info_parts infoS
  have HS := Lib.hid (lib_split s hs w hm)
  have hL := pieces_length (toL s)
  rw [toL_length] at hL
  have hP := pieces_mem (toL s)
  rw [toL_length] at hP
  have HP := Lib.hid hP
  have HE := Lib.hid (elements_one (toL s))
  clear hP hm
  go_enter Tryz.func81, Tryz.ntmps81
  go_wp2_with fail
  refine HS.out.mono ?_
  rintro e w1 ⟨v0, rfl, hT, hb⟩
  clear HS
  obtain ⟨p, cap, rfl, hn1, _⟩ := id hT
  have HT := Lib.hid hT
  clear hT
  generalize pieces (toL s) = L at *
  go_wp2_with fail
  have HI0 : Hid (∃ G, PInv w1 L 0 (.slice none 0 0) G w1) := Lib.hid ⟨[], World.ownsRow_nil _ _ _ _, Below.refl _ _, rfl, Nat.le_refl _⟩
  go_loopw [3, 10] (fun v i wr => ∃ k : Nat, k ≤ L.length ∧ i = .int .i64 k ∧ Hid (∃ G, PInv w1 L k v G wr)) (fun _ i _ => L.length - (intOf i).toNat)
  case atStart => exact ⟨0, Nat.zero_le _, rfl, HI0⟩
  case round =>
    obtain ⟨k, hk, rfl, HI⟩ := hrel
    clear HI0
    obtain ⟨G, I⟩ := HI.out
    by_cases hlt : k < L.length
    · have hki : (k : Int) < (L.length : Int) := by omega
      have hrow := I.row
      have hbw := I.below
      have hfew := I.few
      obtain ⟨p', cap', hv, _, hc⟩ := HT.out.below hbw
      injection hv with hv1 hv2 hv3
      subst hv1
      subst hv3
      obtain ⟨g, o, rfl, hg, hcell⟩ := hc (by omega)
      have cx := hcell k hlt
      have hXs : L[k].length ≤ s.size := HP.out _ (List.getElem_mem hlt)
      have hgot : (L.take (k + 1)).flatMap one = G ++ one L[k] := by
        rw [List.take_add_one, List.getElem?_eq_getElem hlt, List.flatMap_append, ← I.got]
        simp
      generalize L[k] = X at *
      have HTr := Lib.hid (fun w => ptrim_any (ofL X) (by rw [ofL_size]; unfold maxLen; omega) w)
      rw [toL_ofL] at HTr
      by_cases hem : (trim X).isEmpty = true
      · have h1 : one X = [] := by unfold one; rw [if_pos hem]
        have e0 : toL (ofL (trim X)) = [] := by rw [toL_ofL]; exact List.isEmpty_iff.1 hem
        have e1 : (ofL (trim X)).toList = [] := by rw [ByteArray.toList_eq]; exact e0
        have e2 : (ofL (trim X)).toList.isEmpty = true := by rw [e1]; rfl
        have HR : Hid (∀ w2, Below wr.heap.size wr w2 → ∃ G, PInv w1 L (k + 1) u3 G w2) := Lib.hid (fun w2 h2 => ⟨G, ownsRow_below hrow h2, below_chain hbw h2, by rw [hgot, h1, List.append_nil], by omega⟩)
        clear hem h1 e0 hrow hc hcell hgot I HI
        generalize ofL (trim X) = E at *
        go_wp2_with (refine (HTr.out _).mono ?_; rintro e w2 ⟨rfl, hb2⟩)
        have HR2 := Lib.hid (HR.out _ hb2)
        clear HR hb2
        go_roundw
        case rel => exact ⟨k + 1, by omega, by go_num, HR2⟩
        case measure => simp [intOf]; omega
      · have h1 : one X = [trim X] := by unfold one; rw [if_neg hem]
        have e1 : ¬ (ofL (trim X)).toList = [] := fun h => by
          rw [ByteArray.toList_eq] at h
          rw [show (ofL (trim X)).data.toList = trim X from toL_ofL _] at h
          rw [h] at hem
          exact hem rfl
        have e2 : (ofL (trim X)).toList.isEmpty = false := by
          cases h : (ofL (trim X)).toList with
          | nil => exact absurd h e1
          | cons => rfl
        have HR : Hid (∀ w2 v' w3, Below wr.heap.size wr w2 → w3.ownsRow w1.heap.size 9 1 v' (G.length + 1) (strs G ++ [.string (ofL (trim X))]) → Below w1.heap.size w2 w3 → ∃ G, PInv w1 L (k + 1) v' G w3) := Lib.hid (fun w2 v' w3 h2 h3 h4 => ⟨G ++ [trim X], by rw [List.length_append, strs_append]; exact h3, (below_chain hbw h2).trans h4, by rw [hgot, h1], by rw [List.length_append]; simp; omega⟩)
        have hs1 := hbw.size
        clear hem h1 hc hcell hgot I HI
        generalize ofL (trim X) = E at *
        go_wp2_with fail
        refine (HTr.out _).mono ?_
        rintro e w2 ⟨rfl, hb2⟩
        have hrow2 := ownsRow_below hrow hb2
        have hs2 := hb2.size
        have HB2 := Lib.hid hb2
        clear hb2 hrow
        go_wp2_with (at_builtin; refine wpList_append_own _ rfl _ _ 22 rfl w1.heap.size 9 i0 (.string ByteArray.empty) 1 16 Tryz.underlying22 hi hz0 hz1 hz2 rfl (by decide) _ _ _ rfl (hrow2.alloc _) ⟨w2.heap.size, 0, none⟩ 1 1 [.string E] rfl rfl (cell_one_new _ _ _) (fun x hx => by simp at hx; subst hx; rfl) (by unfold maxLen; omega) (by omega) (by simp; omega) ?_; intro v' w3 hown' hgrow3 hnil3)
        have HR2 : Hid (∃ G, PInv w1 L (k + 1) v' G w3) := Lib.hid (HR.out w2 v' w3 HB2.out hown' (Below.grown ((Below.refl _ _).alloc (by omega) _) hgrow3 (by simp; omega) (fun j hj => (hrow2.lt _ hj).1)))
        clear hown' hgrow3 hnil3 HR HB2 hrow2
        go_wp2_with fail
        go_roundw
        case rel => exact ⟨k + 1, by omega, by go_num, HR2⟩
        case measure => simp [intOf]; omega
    · have hall : L.take k = L := List.take_of_length_le (by omega)
      have HF : Hid (G = elements (toL s)) := Lib.hid (by rw [HE.out, I.got, hall])
      have HR : Hid (wr.ownsRow w.heap.size 9 1 u3 G.length (strs G) ∧ Below w.heap.size w wr) := Lib.hid ⟨ownsRow_mono I.row hb.size, below_chain hb I.below⟩
      obtain ⟨pv, cv, hpv, _⟩ := row_form I.row
      subst hpv
      clear I HI hall HE hb HT
      go_wp2_with fail
      go_ret
      rw [← HF.out]
      exact ⟨_, rfl, HR.out⟩
end Go.Proofs.YtmlpdhmafmdkcaaGreatDoor.PElements

/- Layer 4, the document's own Blank. -/
namespace Go.Proofs.YtmlpdhmafmdkcaaGreatDoor.RBlank
open Go.ChangeShapes Go.WideShapes Go.ChangeAt Go.RowKit LexPure Bytes Ret
set_option maxRecDepth 20000
theorem rblank_any (c : UInt8) (w : World) :
    Calls Tryz.prog 15 #[.int .u8 (c.toNat : Int)] w fun e w' => e = .returned (.bool (blankB c)) ∧ w = w' := by
  rw [← blank_eq]
  generalize (c.toNat : Int) = c
  go_enter Tryz.func15, Tryz.ntmps15
  go_wp2_with fail
  all_goals
    go_ret
    refine ⟨ret_bool ?_, rfl⟩
    first
      | exact Eq.symm (decide_eq_true (by omega))
      | exact Eq.symm (decide_eq_false (by omega))
      | (rw [Bool.decide_or]; rfl)
end Go.Proofs.YtmlpdhmafmdkcaaGreatDoor.RBlank

/- Layer 4, the document's own Trim. -/
namespace Go.Proofs.YtmlpdhmafmdkcaaGreatDoor.RTrim
open Go.ChangeShapes Go.WideShapes Go.ChangeAt Go.RowKit LexPure Bytes Ret RBlank
set_option maxRecDepth 20000
theorem drop_at (s : ByteArray) (k : Nat) (h : k < s.size) : ((toL s).drop k).dropWhile blankB = if blankB s[k] then ((toL s).drop (k + 1)).dropWhile blankB else (toL s).drop k := by
  rw [toL_drop s k h, List.dropWhile_cons]
theorem last_at (D : List UInt8) (j : Nat) (c : UInt8) (h : D[j]? = some c) : (D.take (j + 1)).reverse.dropWhile blankB = if blankB c then (D.take j).reverse.dropWhile blankB else (D.take (j + 1)).reverse := by
  rw [List.take_add_one, h]
  simp only [Option.toList_some, List.reverse_append, List.reverse_cons, List.reverse_nil, List.nil_append, List.cons_append]
  rw [List.dropWhile_cons]
end Go.Proofs.YtmlpdhmafmdkcaaGreatDoor.RTrim

/- Layer 4, the document's own Elements. -/
namespace Go.Proofs.YtmlpdhmafmdkcaaGreatDoor.RElements
open Go.ChangeShapes Go.WideShapes Go.ChangeAt Go.RowKit LexPure Bytes Ret RTrim LexList Rows1 Texts
set_option maxRecDepth 20000
def rest (s : ByteArray) (f : Nat) : List (List UInt8) := if f ≤ s.size then elements ((toL s).drop f) else []
/-- behind k bytes, the last comma ahead of f -/
structure EInv (w : World) (s : ByteArray) (k f : Nat) (v : Value) (G : List (List UInt8)) (wr : World) : Prop where
  row : wr.ownsRow w.heap.size 9 1 v G.length (strs G)
  below : Below w.heap.size w wr
  all_ : elements (toL s) = G ++ rest s f
  le : f ≤ k
  in_ : k ≤ s.size → f ≤ s.size
  out_ : s.size < k → s.size < f
  no : noComma (((toL s).drop f).take (k - f)) = true
  few : G.length ≤ k
theorem rest_end {s : ByteArray} {f : Nat} (hf : f ≤ s.size) (h : noComma (((toL s).drop f).take (s.size - f)) = true) : rest s f = one (((toL s).drop f).take (s.size - f)) := by
  unfold rest
  have e : ((toL s).drop f).take (s.size - f) = (toL s).drop f := List.take_of_length_le (by rw [List.length_drop, toL_length]; omega)
  rw [if_pos hf]
  rw [e] at h ⊢
  exact elements_plain h
theorem rest_cut {s : ByteArray} {f k : Nat} (hf : f ≤ k) (hk : k < s.size) (h : noComma (((toL s).drop f).take (k - f)) = true) (hc : s[k] = 44) : rest s f = one (((toL s).drop f).take (k - f)) ++ rest s (k + 1) := by
  unfold rest
  rw [if_pos (by omega), if_pos (by omega)]
  have e : (toL s).drop f = ((toL s).drop f).take (k - f) ++ 44 :: (toL s).drop (k + 1) := by
    have h1 := List.take_append_drop (k - f) ((toL s).drop f)
    rw [List.drop_drop, show f + (k - f) = k by omega, toL_drop s k hk, hc] at h1
    exact h1.symm
  conv => lhs; rw [e]
  exact elements_cut h
theorem piece_eq (s : ByteArray) (f k : Nat) : toL (s.extract f k) = ((toL s).drop f).take (k - f) := by
  rw [toL_extract, List.drop_take]
end Go.Proofs.YtmlpdhmafmdkcaaGreatDoor.RElements

/- append of one row of the call's own onto another: the source nil or not, in one law. No program is named. -/
namespace Go.Proofs.YtmlpdhmafmdkcaaGreatDoor.AppendRow

theorem wpList_append_row {P : Program} {w : World} {ops : Array Oper} {rest : List Oper} {o : Oper} {a : Act} {Q : Exit → Act → World → Prop} (hgd : o.guard = none) (s x : Operand) (t : TypeId)
    (ho : o.op = .call { callee := .builtin .append, args := #[s, x], argTypes := #[t, t] })
    (base : Nat) (e : TypeId) (i : TypeInfo) (z : Value) (size bytes : Nat) (ht : P.underlying t = some (.slice e)) (hi : P.info? e = some i) (hz : i.zero = some z)
    (hsize : i.size = size) (hby : i.bytes = bytes) (hzs : z.cells.size = size) (hsz : 0 < size)
    (v : Value) (n : Nat) (xs : List Value) (hs : a.eval s = v) (hown : w.ownsRow base e size v n xs)
    (y : Value) (base' m : Nat) (ys : List Value) (hx : a.eval x = y) (hrow : w.ownsRow base' e size y m ys) (h1 : ∀ u ∈ ys, u.oneCell' = true)
    (h63 : n + m ≤ maxLen) (hbytes : (n + m) * bytes ≤ 140737488355328) (hbase : base ≤ w.heap.size)
    (h : ∀ v' w', w'.ownsRow base e size v' (n + m) (xs ++ ys) → w.grownBy w' v.ownBlock → (v'.ownBlock = v.ownBlock ∨ v'.ownBlock = some w.heap.size) → wpList P ops Q rest (a.put o.dst v') w') :
    wpList P ops Q (o :: rest) a w := by
  rcases hrow.2 with ⟨rfl, rfl⟩ | ⟨g, cap, cur, rfl, _⟩
  · have hys : ys = [] := List.eq_nil_of_length_eq_zero (by simpa using hrow.1)
    subst hys
    exact wpList_append_own_none hgd s x t ho base e i size ht hi v n xs hs hown hx (h v w (by simpa using hown) (World.grownBy.refl w _) (.inl rfl))
  · exact wpList_append_own_at w hgd s x t ho base e i z size bytes ht hi hz hsize hby hzs hsz v n xs hs hown ⟨g, 0, none⟩ m cap ys hx hrow.1 (hrow.cells rfl) h1 h63 hbytes hbase (fun v' w' a1 a2 _ a4 => h v' w' a1 a2 a4)
end Go.Proofs.YtmlpdhmafmdkcaaGreatDoor.AppendRow

/- Layer 7, the document's own Elements. -/
namespace Go.Proofs.YtmlpdhmafmdkcaaGreatDoor.R7Elements
open Go.ChangeShapes Go.WideShapes Go.ChangeAt Go.RowKit LexPure Bytes Ret Rows1 Texts FieldsPure Flds RAlike7 RElements R7Get KeptRow AppendRow Mem
set_option maxRecDepth 20000
theorem elems_snoc (l : List HField) (f : HField) (n : List UInt8) : elems (l ++ [f]) n = if hit n f then elems l n ++ elements f.2 else elems l n := by
  unfold elems
  rw [List.filter_append, List.flatMap_append]
  cases h : hit n f <;> simp [h]
theorem pieces_len : ∀ s : List UInt8, (pieces s).length ≤ s.length + 1
  | [] => by simp [pieces]
  | c :: s => by
    have ih := pieces_len s
    rw [pieces]
    split
    · simp; omega
    · split
      · simp
      · rename_i p ps hp
        rw [hp] at ih
        simp at ih ⊢
        omega
theorem elements_len (s : List UInt8) : (elements s).length ≤ s.length + 1 := by
  unfold elements
  have h1 := List.length_filter_le (fun e : List UInt8 => !e.isEmpty) ((pieces s).map trim)
  rw [List.length_map] at h1
  have := pieces_len s
  omega
theorem elems_len (l : List HField) (n : List UInt8) (B : Nat) (h : ∀ f ∈ l, f.2.length + 1 ≤ B) : (elems l n).length ≤ l.length * B := by
  induction l with
  | nil => simp [elems]
  | cons f l ih =>
    have ih' := ih (fun g hg => h g (List.mem_cons_of_mem _ hg))
    have hf := h f (List.mem_cons_self)
    have he := elements_len f.2
    unfold elems at *
    rw [List.length_cons, Nat.succ_mul]
    clear h ih
    generalize l.length * B = m at *
    cases hq : hit n f
    · rw [List.filter_cons_of_neg (by rw [hq]; decide)]
      omega
    · rw [List.filter_cons_of_pos hq, List.flatMap_cons, List.length_append]
      omega
/-- the elements of the first k fields -/
structure Gath (w : World) (X : List (List UInt8)) (v : Value) (wr : World) : Prop where
  row : wr.ownsRow w.heap.size 9 1 v X.length (strs X)
  below : Below w.heap.size w wr
theorem Gath.start (w : World) : Gath w [] (.slice none 0 0) w := ⟨World.ownsRow_nil _ _ _ _, Below.refl _ _⟩
theorem Gath.call {w w1 w2 : World} {X : List (List UInt8)} {v : Value} (h : Gath w X v w1) (hb : Below w1.heap.size w1 w2) : Gath w X v w2 :=
  ⟨row_below h.row hb, below_chain h.below hb⟩
theorem Gath.lt {w w1 : World} {X : List (List UInt8)} {v : Value} (h : Gath w X v w1) : ∀ j, v.ownBlock = some j → w.heap.size ≤ j := fun j hj => (h.row.lt j hj).1
theorem strs_cells (L : List (List UInt8)) : ∀ u ∈ Texts.strs L, u.oneCell' = true := by
  intro u hu
  unfold Texts.strs at hu
  obtain ⟨a, _, rfl⟩ := List.mem_map.1 hu
  rfl
end Go.Proofs.YtmlpdhmafmdkcaaGreatDoor.R7Elements

/- append of one row of the call's own onto another, at the operation, inside a fence: the source nil or not. No program is named. -/
namespace Go.Proofs.YtmlpdhmafmdkcaaGreatDoor.AppendIn
open Go.RowKit
theorem run_append_row {P : Program} {w : World} (t ty : TypeId) (base : Nat) (e : TypeId) (i : TypeInfo) (z : Value) (size bytes : Nat) (ht : P.underlying t = some (.slice e)) (hi : P.info? e = some i) (hz : i.zero = some z)
    (hsize : i.size = size) (hby : i.bytes = bytes) (hzs : z.cells.size = size) (hsz : 0 < size)
    (v : Value) (n : Nat) (xs : List Value) (hown : w.ownsRow base e size v n xs)
    (y : Value) (base' m : Nat) (ys : List Value) (hrow : w.ownsRow base' e size y m ys) (h1 : ∀ u ∈ ys, u.oneCell' = true)
    (h63 : n + m ≤ maxLen) (hbytes : (n + m) * bytes ≤ 140737488355328) (hbase : base ≤ w.heap.size) :
    ∃ v' w', (Builtin.append_ #[t, t] ty #[v, y]).run P w = .ok v' w' ∧ w'.ownsRow base e size v' (n + m) (xs ++ ys) ∧ w.grownBy w' v.ownBlock := by
  rcases hrow.2 with ⟨rfl, rfl⟩ | ⟨g, cap, cur, rfl, _⟩
  · have hys : ys = [] := List.eq_nil_of_length_eq_zero (by simpa using hrow.1)
    subst hys
    exact ⟨v, w, run_append_owned_none (P := P) (w := w) base t ty e i size ht hi v n xs hown, by simpa using hown, World.grownBy.refl w _⟩
  · obtain ⟨v', w', hr, h2, h3, _, _⟩ := run_append_own_at (P := P) w base t ty e i z size bytes ht hi hz hsize hby hzs hsz v n xs hown ⟨g, 0, none⟩ m cap ys hrow.1 (hrow.cells rfl) h1 h63 hbytes hbase
    exact ⟨v', w', hr, h2, h3⟩
theorem wpIn_append_row {F : Fence} {nF : Nat} {P : Program} {w : World} {o : Oper} {a : Act} {K : Act → World → Prop} {Q : Exit → Act → World → Prop} (s x : Operand) (t : TypeId)
    (ho : o.op = .call { callee := .builtin .append, args := #[s, x], argTypes := #[t, t] })
    (base : Nat) (e : TypeId) (i : TypeInfo) (z : Value) (size bytes : Nat) (ht : P.underlying t = some (.slice e)) (hi : P.info? e = some i) (hz : i.zero = some z)
    (hsize : i.size = size) (hby : i.bytes = bytes) (hzs : z.cells.size = size) (hsz : 0 < size)
    (v : Value) (n : Nat) (xs : List Value) (hs : a.eval s = v) (hown : w.ownsRow base e size v n xs)
    (y : Value) (base' m : Nat) (ys : List Value) (hx : a.eval x = y) (hrow : w.ownsRow base' e size y m ys) (h1 : ∀ u ∈ ys, u.oneCell' = true)
    (h63 : n + m ≤ maxLen) (hbytes : (n + m) * bytes ≤ 140737488355328) (hbase : base ≤ w.heap.size)
    (h : ∀ v' w', w'.ownsRow base e size v' (n + m) (xs ++ ys) → w.grownBy w' v.ownBlock → K (a.put o.dst v') w') :
    o.wpIn F nF P a w K Q := by
  obtain ⟨v', w', hrun, r1, r2⟩ := run_append_row t o.type base e i z size bytes ht hi hz hsize hby hzs hsz v n xs hown y base' m ys hrow h1 h63 hbytes hbase
  unfold Oper.wpIn
  refine ⟨?_, ?_⟩
  · simp [Oper.about, ho, resolve, Target.leads, Sem.run_pure]
  · rw [Oper.semAt_plain F _ _ (by rw [ho]; intro c hc'; cases hc')]
    simp [execOp, ho, resolve, invoke, builtin, hs, hx, hrun, Result.andThen]
    exact h v' w' r1 r2
/-- behind 'out = append(out, f(..)...)', out in a box: all that the walk owes -/
theorem appended {W w1 w2 : World} {n₀ r0 B : Nat} {t e : TypeId} {size : Nat} {v v' : Value} {k m : Nat} {xs ys : List Value}
    (hv : Boxed W B t v) (hte : t ≠ e) (hrow : W.ownsRow r0 e size v k xs) (hn₀ : n₀ ≤ r0) (hr0 : r0 ≤ W.heap.size) (hB : n₀ ≤ B) (hb : Below W.heap.size W w1) (hrow1 : w1.ownsRow r0 e size v k xs)
    (hown' : w2.ownsRow r0 e size v' m ys) (hg : w1.grownBy w2 v.ownBlock) :
    Boxed w2 B t v ∧ Boxed (w2.setCell ⟨B, 0, none⟩ v') B t v' ∧ (w2.setCell ⟨B, 0, none⟩ v').ownsRow r0 e size v' m ys ∧ KeepsOthers W (w2.setCell ⟨B, 0, none⟩ v') ∧ Below n₀ W (w2.setCell ⟨B, 0, none⟩ v') ∧
      (∀ B' t' u, Boxed W B' t' u → B' < r0 → B' ≠ B → Boxed (w2.setCell ⟨B, 0, none⟩ v') B' t' u) := by
  have hgb : W.grownBy w1 none := ⟨hb.os, hb.tape, hb.output, hb.size, fun k hk _ => hb.block k hk⟩
  have hv0 : Boxed w1 B t v := hv.kept hgb (by simp)
  have hv1 : Boxed w2 B t v := hv0.kept hg (hv.not_row hte hrow)
  have hlt : ∀ j, v.ownBlock = some j → r0 ≤ j := fun j hj => (hrow.lt j hj).1
  refine ⟨hv1, hv1.set v', hown'.kept (grownBy_setCell' w2 B v') (.inr (hv1.not_row hte hown').symm), ?_, ?_, ?_⟩
  · refine ((KeepsOthers.of_grownBy hgb fun j o ej hj => (by cases ej)).trans (KeepsOthers.of_grownBy hg fun j o ej hj => ?_)).trans (KeepsOthers.setCell _ _ _)
    rcases hrow1.2 with ⟨rfl, _⟩ | ⟨g, cap, cur, rfl, _, hgb, _⟩
    · simp [Value.ownBlock] at ej
    · obtain rfl : g = j := by simpa [Value.ownBlock] using ej
      rw [hgb] at hj; cases hj; rfl
  · exact ((hb.mono (Nat.le_trans hn₀ hr0)).grown hg (Nat.le_trans (Nat.le_trans hn₀ hr0) hb.size) fun j ej => Nat.le_trans hn₀ (hlt j ej)).setCell (p := ⟨B, 0, none⟩) hB v'
  · intro B' t' u hu hB' hne
    exact ((hu.kept hgb (by simp)).kept hg (fun e => by have := hlt B' e.symm; omega)).other hne _
end Go.Proofs.YtmlpdhmafmdkcaaGreatDoor.AppendIn

/- Layer 7 of the program: Elements. -/
namespace Go.Proofs.YtmlpdhmafmdkcaaGreatDoor.PElems7
open Go.ChangeShapes Go.WideShapes Go.ChangeAt Go.RowKit LexPure Bytes Ret Rows1 Texts FieldsPure Flds R7Get KeptRow R7Elements PAlike PLib PElements PVals PGet AppendIn Mem Go.Shelf
set_option maxRecDepth 100000
attribute [local go_sem] Oper.semAt_some
def elemsV (l : List V) : List (List UInt8) := l.flatMap (fun x => elements x.1)
theorem elemsV_snoc (pre : List V) (x : V) : elemsV (pre ++ [x]) = elemsV pre ++ elements x.1 := by simp [elemsV]
theorem elemsV_len (pre : List V) : (elemsV pre).length ≤ pre.length * 1048577 := by
  induction pre with
  | nil => simp [elemsV]
  | cons x pre ih =>
    rw [show x :: pre = [x] ++ pre from rfl]
    unfold elemsV at *
    rw [List.flatMap_append, List.length_append, List.flatMap_singleton, List.length_append, List.length_singleton, Nat.add_mul]
    have := elements_len x.1
    have := x.2
    omega
theorem elemsV_vs (G : List HField) (hG : ∀ f ∈ G, f.2.length ≤ 1048576) (n : List UInt8) : elemsV (vs G n) = elems G n := by
  induction G with
  | nil => rfl
  | cons f G ih =>
    have h1 := ih (fun g hg => hG g (List.mem_cons_of_mem _ hg))
    rw [show f :: G = [f] ++ G from rfl, vs_append, vs_one]
    unfold elemsV elems at *
    rw [List.flatMap_append, h1, List.filter_append, List.flatMap_append]
    congr 1
    cases h : hit n f
    · simp [h]
    · simp [h, clamp_val (hG f List.mem_cons_self)]
theorem ownsRow_below2 {w w' : World} {base n size : Nat} {e : TypeId} {v : Value} {xs : List Value} (h : w.ownsRow base e size v n xs) (hb : Below w.heap.size w w') : w'.ownsRow base e size v n xs := row_below h hb
set_option maxHeartbeats 3200000 in
theorem pelems_any (v : Value) (G : List HField) (nm : ByteArray) (hG : Few G) (hle2 : G.length ≤ 1048576) (w : World) (hm : MaxInt w) (hF : FL w v G) :
    Calls Tryz.prog 61 #[v, .string nm] w fun e w' => ∃ v', e = .returned v' ∧ w'.ownsRow w.heap.size 9 1 v' (elems G (toL nm)).length (strs (elems G (toL nm))) ∧ Below w.heap.size w w' := by
  obtain ⟨i0, hi, hz0, hz1, hz2⟩ := info_parts infoS
  have HV := Lib.hid (elemsV_vs G (fun f hf => (few_all hG f hf).2) (toL nm))
  obtain ⟨p, cap, hvv, hle, _⟩ := id hF
  subst hvv
  have HF := Lib.hid hF
  have HG := Lib.hid hG
  have HM := Lib.hid hm
  clear hF hG hm
  refine (callsIn_wide (n := 3)).1 ?_
  refine callsIn_of_wp_marks Tryz.func61 rfl trivial ?_ rfl
  simp only [Tryz.ntmps61, List.size_toArray, List.length_cons, List.length_nil, Nat.reduceAdd, Nat.reduceSub, Array.replicate_succ, Array.replicate_zero, List.push_toArray, List.append_toArray, List.nil_append, List.cons_append]
  gi_wp2_with fail
  refine ⟨trivial, ?_⟩
  refine (callsIn_wide.2 (pvalues_any _ _ _ nm _)).mono ?_
  rintro e w' ⟨rfl, rfl⟩
  gi_wp2
  have b0 := ((Boxed.new w 22 (.slice none 0 0)).alloc (.cells #[.slice p G.length cap] 29)).alloc (.cells #[.string nm] 9)
  have b2 := (Boxed.new (w.alloc (.cells #[.slice none 0 0] 22)) 29 (.slice p G.length cap)).alloc (.cells #[.string nm] 9)
  have b3 := Boxed.new ((w.alloc (.cells #[.slice none 0 0] 22)).alloc (.cells #[.slice p G.length cap] 29)) 9 (.string nm)
  have hB0 : Below w.heap.size w (((w.alloc (.cells #[.slice none 0 0] 22)).alloc (.cells #[.slice p G.length cap] 29)).alloc (.cells #[.string nm] 9)) :=
    (((Below.refl _ w).alloc (Nat.le_refl _) _).alloc (by simp) _).alloc (by simp; omega) _
  have hsz : (((w.alloc (.cells #[.slice none 0 0] 22)).alloc (.cells #[.slice p G.length cap] 29)).alloc (.cells #[.string nm] 9)).heap.size = w.heap.size + 1 + 1 + 1 := by simp
  simp only [World.size_alloc] at b2 b3
  generalize (((w.alloc (.cells #[.slice none 0 0] 22)).alloc (.cells #[.slice p G.length cap] 29)).alloc (.cells #[.string nm] 9)) = W0 at *
  have hU := (FL.under HF.out).below hB0
  clear HF
  refine wpIn_rangeFunc_ownG rfl (by omega) (gf := 76) (lb := #[.pointer (some ⟨w.heap.size + 1, 0, none⟩), .pointer (some ⟨w.heap.size + 1 + 1, 0, none⟩)]) rfl trivial (enters_of Tryz.func76 (by kernel_rfl) rfl)
    (vals_stops (3 - 1) (w.heap.size + 1) (w.heap.size + 1 + 1) w.heap.size G HG.out nm (.slice p G.length cap) W0 b2.lt (by omega) b2.cell b3.cell hU) kp_t (kp_b (by omega) b3.lt) (Below.refl _ _) (fun _ => rfl)
    (fun pre W => (∃ v, Boxed W w.heap.size 22 v ∧ W.ownsRow W0.heap.size 9 1 v (elemsV pre).length (strs (elemsV pre)) ∧ True) ∧ Boxed W (w.heap.size + 1 + 1) 9 (.string nm) ∧ W0.heap.size ≤ W.heap.size ∧ Below w.heap.size w W)
    (fun _ _ _ => False)
    (OwnFrom.and (Own.from (holdsRow_own W0.heap.size w.heap.size 22 9 1 (fun pre => (elemsV pre).length) (fun pre => strs (elemsV pre)) (fun _ _ => True)) _) (OwnFrom.and (Own.from (boxed_own _ _ (fun _ => Value.string nm)) _) (OwnFrom.and (fun _ _ _ _ hs hg _ => Nat.le_trans hs hg.size) (ownFrom_below (Nat.le_refl _) (by omega)))))
    (fun _ _ _ _ _ hs _ _ => hs)
    ⟨⟨_, b0, World.ownsRow_nil _ _ _ _, trivial⟩, b3, Nat.le_refl _, hB0⟩
    (fun x => { tmps := #[.slice p G.length cap, .string nm, undef, undef, .slice none 0 0, .pointer (some ⟨w.heap.size, 0, none⟩), .string (ofL x.1), .slice p G.length cap, .string nm, .func (.func 76) #[] #[.pointer (some ⟨w.heap.size + 1, 0, none⟩), .pointer (some ⟨w.heap.size + 1 + 1, 0, none⟩)], .string (ofL x.1), undef, undef, undef, undef, undef], defers := [] }) ?assign ?body ?done ?stop
  case assign =>
    intro l x W K hK
    dsimp only [encV]
    gi_wp2
    exact hK
  case body =>
    rintro l pre x W ⟨⟨v, h0, hrow, _⟩, h3, hW0, hB⟩ hlt
    clear b0 b2 b3 hU HG HV
    have hc := h0.cell
    have hmx : Tryz.prog.follows .mixedOrders = true := by kernel_rfl
    have hE : Calls Tryz.prog 81 #[.string (ofL x.1)] W.drew fun e w' => ∃ v, e = .returned v ∧ w'.ownsRow W.heap.size 9 1 v (elements x.1).length (strs (elements x.1)) ∧ Below W.heap.size W w' := by
      have h := pelements_any (ofL x.1) (by rw [ofL_size]; have := x.2; omega) W.drew (HM.out.below (hB.trans ⟨rfl, rfl, rfl, Nat.le_refl _, fun _ _ => rfl⟩))
      rw [toL_ofL] at h
      refine h.mono ?_
      rintro e w' ⟨v, rfl, hr, hb⟩
      exact ⟨v, rfl, hr, ⟨hb.os, hb.tape, hb.output, hb.size, hb.block⟩⟩
    replace hE := Lib.hid hE
    have hlen : (elemsV pre).length + (elements x.1).length ≤ 1099512676352 := by
      have h1 := elemsV_len (pre ++ [x])
      rw [elemsV_snoc, List.length_append, List.length_append, List.length_singleton] at h1
      have h2 : pre.length + 1 ≤ 1048576 := by omega
      have h3 := Nat.mul_le_mul_right 1048577 h2
      omega
    have hX : Hid (strs (elemsV (pre ++ [x])) = strs (elemsV pre) ++ strs (elements x.1) ∧ (elemsV (pre ++ [x])).length = (elemsV pre).length + (elements x.1).length) := Lib.hid ⟨by rw [elemsV_snoc, strs_append], by rw [elemsV_snoc, List.length_append]⟩
    gi_wp2
    refine wpIn_region_any hmx ?_
    change wpAnyIn _ _ _ _ _ _ _ _ _ (World.drew _)
    refine wpAnyIn_ready (rs := [0, 1]) (by kernel_rfl) (by simp) (AllReadyIn.cons rfl (fun K hK => ?_) (AllReadyIn.cons rfl (fun K hK => ?_) AllReadyIn.nil))
    · go_simp
      refine hK _ _ ?_
      clear hK K
      refine wpAnyIn_ready (rs := [1]) (by kernel_rfl) (by simp) (AllReadyIn.cons rfl (fun K hK => ?_) AllReadyIn.nil)
      go_simp
      refine hK _ _ ?_
      clear hK K
      refine wpAnyIn_ready (rs := [2]) (by kernel_rfl) (by simp) (AllReadyIn.cons rfl (fun K hK => ?_) AllReadyIn.nil)
      go_simp
      refine ⟨trivial, ?_⟩
      refine (CallsIn.inRound l (callsIn_wide.2 hE.out)).mono ?_
      rintro e w' ⟨v3, rfl, hr3, hb3⟩
      refine hK _ _ ?_
      clear hK K
      have hrow1 := ownsRow_below2 hrow hb3
      refine wpAnyIn_ready (rs := [3]) (by kernel_rfl) (by simp) (AllReadyIn.cons rfl (fun K hK => ?_) AllReadyIn.nil)
      rw [if_pos (by rfl)]
      refine wpIn_append_row _ _ 22 rfl W0.heap.size 9 i0 (.string ByteArray.empty) 1 16 Tryz.underlying22 hi hz0 hz1 hz2 rfl (by decide) v _ _ rfl hrow1 v3 W.heap.size _ _ rfl hr3 (strs_cells _) (by simp only [maxLen]; omega) (by omega) (Nat.le_trans hW0 hb3.size) (fun v4 w4 hown4 hg4 => hK _ _ ?_)
      clear hK K
      obtain ⟨q1, q2, q3, q4, q5, q6⟩ := appended (n₀ := w.heap.size) h0 (by decide) hrow (by omega) hW0 (Nat.le_refl _) hb3 hrow1 hown4 hg4
      obtain ⟨p4, cap4, rfl, _⟩ := row_form hown4
      have qc := q1.cell
      have qf := q1.frozen
      have q7 := q6 _ _ _ h3 (by omega) (by omega)
      have HR := Lib.hid (And.intro (q4.from W0.heap.size) (And.intro q5 (And.intro q2 (And.intro q3 q7))))
      clear q1 q2 q3 q4 q5 q6 q7 hown4 hg4 hr3 hb3 hrow1 h0 hrow hc h3
      refine wpAnyIn_ready (rs := [4]) (by kernel_rfl) (by simp) (AllReadyIn.cons rfl (fun K hK => ?_) AllReadyIn.nil)
      go_simp
      refine hK _ _ ?_
      clear hK K
      refine wpAnyIn_done (by kernel_rfl) ?_ _
      gi_wp2
      obtain ⟨r1, r2, r3, r4, r5⟩ := HR.out; exact ⟨r1, ⟨r2, fun _ => r5.cell⟩, ⟨_, r3, by rw [hX.out.1, hX.out.2]; exact r4, trivial⟩, r5, Nat.le_trans hW0 r2.size, hB.trans r2⟩
    · go_simp
      refine hK _ _ ?_
      clear hK K
      refine wpAnyIn_ready (rs := [0, 2]) (by kernel_rfl) (by simp) (AllReadyIn.cons rfl (fun K hK => ?_) (AllReadyIn.cons rfl (fun K hK => ?_) AllReadyIn.nil))
      · go_simp
        refine hK _ _ ?_
        clear hK K
        refine wpAnyIn_ready (rs := [2]) (by kernel_rfl) (by simp) (AllReadyIn.cons rfl (fun K hK => ?_) AllReadyIn.nil)
        go_simp
        refine ⟨trivial, ?_⟩
        refine (CallsIn.inRound l (callsIn_wide.2 hE.out)).mono ?_
        rintro e w' ⟨v3, rfl, hr3, hb3⟩
        refine hK _ _ ?_
        clear hK K
        have hrow1 := ownsRow_below2 hrow hb3
        refine wpAnyIn_ready (rs := [3]) (by kernel_rfl) (by simp) (AllReadyIn.cons rfl (fun K hK => ?_) AllReadyIn.nil)
        rw [if_pos (by rfl)]
        refine wpIn_append_row _ _ 22 rfl W0.heap.size 9 i0 (.string ByteArray.empty) 1 16 Tryz.underlying22 hi hz0 hz1 hz2 rfl (by decide) v _ _ rfl hrow1 v3 W.heap.size _ _ rfl hr3 (strs_cells _) (by simp only [maxLen]; omega) (by omega) (Nat.le_trans hW0 hb3.size) (fun v4 w4 hown4 hg4 => hK _ _ ?_)
        clear hK K
        obtain ⟨q1, q2, q3, q4, q5, q6⟩ := appended (n₀ := w.heap.size) h0 (by decide) hrow (by omega) hW0 (Nat.le_refl _) hb3 hrow1 hown4 hg4
        obtain ⟨p4, cap4, rfl, _⟩ := row_form hown4
        have qc := q1.cell
        have qf := q1.frozen
        have q7 := q6 _ _ _ h3 (by omega) (by omega)
        have HR := Lib.hid (And.intro (q4.from W0.heap.size) (And.intro q5 (And.intro q2 (And.intro q3 q7))))
        clear q1 q2 q3 q4 q5 q6 q7 hown4 hg4 hr3 hb3 hrow1 h0 hrow hc h3
        refine wpAnyIn_ready (rs := [4]) (by kernel_rfl) (by simp) (AllReadyIn.cons rfl (fun K hK => ?_) AllReadyIn.nil)
        go_simp
        refine hK _ _ ?_
        clear hK K
        refine wpAnyIn_done (by kernel_rfl) ?_ _
        gi_wp2
        obtain ⟨r1, r2, r3, r4, r5⟩ := HR.out; exact ⟨r1, ⟨r2, fun _ => r5.cell⟩, ⟨_, r3, by rw [hX.out.1, hX.out.2]; exact r4, trivial⟩, r5, Nat.le_trans hW0 r2.size, hB.trans r2⟩
      · go_simp
        refine ⟨trivial, ?_⟩
        refine (CallsIn.inRound l (callsIn_wide.2 hE.out)).mono ?_
        rintro e w' ⟨v3, rfl, hr3, hb3⟩
        refine hK _ _ ?_
        clear hK K
        have hrow1 := ownsRow_below2 hrow hb3
        have hc3 := (h0.kept (show W.grownBy w' none from ⟨hb3.os, hb3.tape, hb3.output, hb3.size, fun k hk _ => hb3.block k hk⟩) (by simp)).cell
        refine wpAnyIn_ready (rs := [0]) (by kernel_rfl) (by simp) (AllReadyIn.cons rfl (fun K hK => ?_) AllReadyIn.nil)
        go_simp
        refine hK _ _ ?_
        clear hK K
        refine wpAnyIn_ready (rs := [3]) (by kernel_rfl) (by simp) (AllReadyIn.cons rfl (fun K hK => ?_) AllReadyIn.nil)
        rw [if_pos (by rfl)]
        refine wpIn_append_row _ _ 22 rfl W0.heap.size 9 i0 (.string ByteArray.empty) 1 16 Tryz.underlying22 hi hz0 hz1 hz2 rfl (by decide) v _ _ rfl hrow1 v3 W.heap.size _ _ rfl hr3 (strs_cells _) (by simp only [maxLen]; omega) (by omega) (Nat.le_trans hW0 hb3.size) (fun v4 w4 hown4 hg4 => hK _ _ ?_)
        clear hK K
        obtain ⟨q1, q2, q3, q4, q5, q6⟩ := appended (n₀ := w.heap.size) h0 (by decide) hrow (by omega) hW0 (Nat.le_refl _) hb3 hrow1 hown4 hg4
        obtain ⟨p4, cap4, rfl, _⟩ := row_form hown4
        have qc := q1.cell
        have qf := q1.frozen
        have q7 := q6 _ _ _ h3 (by omega) (by omega)
        have HR := Lib.hid (And.intro (q4.from W0.heap.size) (And.intro q5 (And.intro q2 (And.intro q3 q7))))
        clear q1 q2 q3 q4 q5 q6 q7 hown4 hg4 hr3 hb3 hrow1 h0 hrow hc h3
        refine wpAnyIn_ready (rs := [4]) (by kernel_rfl) (by simp) (AllReadyIn.cons rfl (fun K hK => ?_) AllReadyIn.nil)
        go_simp
        refine hK _ _ ?_
        clear hK K
        refine wpAnyIn_done (by kernel_rfl) ?_ _
        gi_wp2
        obtain ⟨r1, r2, r3, r4, r5⟩ := HR.out; exact ⟨r1, ⟨r2, fun _ => r5.cell⟩, ⟨_, r3, by rw [hX.out.1, hX.out.2]; exact r4, trivial⟩, r5, Nat.le_trans hW0 r2.size, hB.trans r2⟩
  case done =>
    rintro D ys W hD rfl ⟨⟨v, h0, hrow, _⟩, h3, _, hB⟩ hK
    have hc := h0.cell
    clear b0 b2 b3 hU HG
    gi_wp2
    refine ⟨by simp, .inl ⟨_, _, rfl, run_takeDeferred hK, ?_⟩⟩
    rw [HV.out] at hrow
    exact ⟨_, results_tmp rfl _ _ _, v, rfl, ownsRow_mono (ownsRow_putObj hrow _ hK rfl) (by omega), hB.trans (belowK_b (w := w) (Nat.le_refl _) W D _ _ (by omega) hK rfl rfl)⟩
  case stop =>
    rintro D c pre W _ _ h _
    exact h.elim
end Go.Proofs.YtmlpdhmafmdkcaaGreatDoor.PElems7

/- Layer 7 of the program: what it asks of package slices (at texts). -/
namespace Go.Proofs.YtmlpdhmafmdkcaaGreatDoor.PFindT
open Go.ChangeShapes Go.WideShapes Go.ChangeAt Go.RowKit LexPure Bytes Ret Rows1 Texts FieldsPure Flds R7Get KeptRow R7Elements Mem Go.Shelf
set_option maxRecDepth 20000
set_option maxHeartbeats 1600000 in
theorem index_any (fid bx : Nat) (hent : ∀ args w, (callFunc fid args).run Tryz.prog w = .ok (.enter fid args) w) (q : List UInt8 → Bool) (v : Value) (G : List (List UInt8)) (hle2 : G.length ≤ 1099512676352) (w : World) (hF : Texts w v G)
    (hcall : ∀ (j : Nat) (hj : j < G.length) (W : World), Below w.heap.size w W → Calls Tryz.prog fid #[.string (ofL G[j]), .pointer (some ⟨bx, 0, none⟩)] W fun e w' => e = .returned (.bool (q G[j])) ∧ Below W.heap.size W w') :
    Calls Tryz.prog 99 #[v, .func (.func fid) #[] #[.pointer (some ⟨bx, 0, none⟩)]] w fun e w' => ∃ r : Int, e = .returned (.int .i64 r) ∧ (decide (0 ≤ r) = G.any q) ∧ Below w.heap.size w w' := by
  obtain ⟨p, cap, rfl, hle, hc⟩ := hF
  replace hc := Lib.hid hc
  replace hcall := Lib.hid hcall
  have HB0 := Lib.hid (Below.refl w.heap.size w)
  go_enter Tryz.func99, Tryz.ntmps99
  go_wp2_with fail
  go_loopw [5, 8] (fun _ i wr => ∃ k : Nat, k ≤ G.length ∧ i = .int .i64 k ∧ Hid ((G.take k).any q = false) ∧ Hid (Below w.heap.size w wr)) (fun _ i _ => G.length - (intOf i).toNat)
  case atStart => exact ⟨0, Nat.zero_le _, rfl, Lib.hid rfl, HB0⟩
  case round =>
    obtain ⟨k, hk, rfl, ha, HB⟩ := hrel
    clear HB0
    by_cases hlt : k < G.length
    · obtain ⟨g, o, rfl, hgl, hcell⟩ := hc.out (by omega)
      have c1 := (HB.out.cell (p := ⟨g, o + k, none⟩) hgl).trans (hcell k hlt)
      have hki : (k : Int) < (G.length : Int) := by omega
      have HT : Hid ((G.take (k + 1)).any q = q G[k]) := Lib.hid (by rw [List.take_add_one, List.getElem?_eq_getElem hlt, List.any_append, ha.out]; simp)
      have HA := Lib.hid (hcall.out k hlt wr HB.out)
      clear hcell
      cases hh : q G[k]
      · rw [hh] at HT HA
        clear hh ha
        go_wp2_with fail
        refine HA.out.mono ?_
        rintro e w2 ⟨rfl, hb2⟩
        have HB2 := Lib.hid (below_chain HB.out hb2)
        clear hb2
        go_wp2_with fail
        go_roundw
        case rel => exact ⟨k + 1, by omega, by go_num, HT, HB2⟩
        case measure => simp [intOf]; omega
      · have HV : Hid (decide ((0 : Int) ≤ (k : Int)) = G.any q) := Lib.hid (by
          rw [decide_eq_true (by omega)]
          exact (List.any_eq_true.2 ⟨_, List.getElem_mem hlt, hh⟩).symm)
        rw [hh] at HA
        clear hh ha HT
        go_wp2_with fail
        refine HA.out.mono ?_
        rintro e w2 ⟨rfl, hb2⟩
        have HB2 := Lib.hid (below_chain HB.out hb2)
        clear hb2
        go_wp2_with fail
        go_ret
        exact ⟨_, rfl, HV.out, HB2.out⟩
    · have HV : Hid (decide ((0 : Int) ≤ -1) = G.any q) := Lib.hid (by
        have h := ha.out
        rw [List.take_of_length_le (by omega)] at h
        rw [h]
        rfl)
      clear ha
      go_wp2_with fail
      go_ret
      exact ⟨_, rfl, HV.out, HB.out⟩
set_option maxHeartbeats 1600000 in
theorem contains_any (fid bx : Nat) (hent : ∀ args w, (callFunc fid args).run Tryz.prog w = .ok (.enter fid args) w) (q : List UInt8 → Bool) (v : Value) (G : List (List UInt8)) (hle2 : G.length ≤ 1099512676352) (w : World) (hF : Texts w v G)
    (hcall : ∀ (j : Nat) (hj : j < G.length) (W : World), Below w.heap.size w W → Calls Tryz.prog fid #[.string (ofL G[j]), .pointer (some ⟨bx, 0, none⟩)] W fun e w' => e = .returned (.bool (q G[j])) ∧ Below W.heap.size W w') :
    Calls Tryz.prog 80 #[v, .func (.func fid) #[] #[.pointer (some ⟨bx, 0, none⟩)]] w fun e w' => e = .returned (.bool (G.any q)) ∧ Below w.heap.size w w' := by
  have HI := Lib.hid (index_any fid bx hent q v G hle2 w hF hcall)
  obtain ⟨p, cap, rfl, hle, hc⟩ := hF
  clear hc hcall
  generalize G.any q = b at *
  go_enter Tryz.func80, Tryz.ntmps80
  go_wp2_with fail
  refine HI.out.mono ?_
  rintro e w2 ⟨r, rfl, hr, hb2⟩
  have HB := Lib.hid hb2
  have HR := Lib.hid hr
  clear hb2 hr
  go_wp2_with fail
  all_goals
    go_ret
    refine ⟨ret_bool ?_, HB.out⟩
    rw [← HR.out]
end Go.Proofs.YtmlpdhmafmdkcaaGreatDoor.PFindT
