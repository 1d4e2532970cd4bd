/- Texts of this seat, one behind another: RPlain, Rows1, REsc, REscapes, PathForm, Texts. -/
import Derived.Laws.DeepStrings4
import Derived.Laws.AppendOwn
import Derived.Laws.IdiomStrings
import Derived.Lib.BufferRead
import Derived.Maps.AppendAt
import Derived.Lib.Hide
import Derived.Below
import Derived.Outline
import Derived.LoopTactic
import Derived.Deep.Draws
import Derived.Test.YtaiipdjibllodaaDoorA1
/- Layer 5, the document's own Plain, hex and At. -/
namespace Go.Proofs.YtaiipdjibllodaaDoor.RPlain
open Go.ChangeShapes Go.WideShapes Go.ChangeAt Go.RowKit LexPure Bytes Ret LexNum RHex PathPure
def PlainI (c : Int) : Prop := c = 45 ∨ c = 46 ∨ c = 95 ∨ c = 126 ∨ (48 ≤ c ∧ c ≤ 57) ∨ (65 ≤ c ∧ c ≤ 90) ∨ (97 ≤ c ∧ c ≤ 122)
instance (c : Int) : Decidable (PlainI c) := by unfold PlainI; infer_instance
theorem plain_eq {n : Nat} (h : n < 256) : decide (PlainI (n : Int)) = plainP n := by
  have := all_below (p := fun n => decide (PlainI (n : Int)) == plainP n) (by decide +kernel) h
  simpa using this
theorem rplain_any (n : Nat) (h : n < 256) (w : World) :
    Calls Tryd.prog 66 #[.int .u8 (n : Int)] w fun e w' => e = .returned (.bool (plainP n)) ∧ w = w' := by
  rw [← plain_eq h]
  generalize (n : Int) = c
  go_enter Tryd.func66, Tryd.ntmps66
  go_wp2_with fail
  all_goals
    go_ret
    refine ⟨ret_bool ?_, rfl⟩
    try simp only [beq_eq_false_iff_ne, beq_iff_eq, ne_eq] at *
    first
      | exact Eq.symm (decide_eq_true (p := PlainI _) (by unfold PlainI; omega))
      | exact Eq.symm (decide_eq_false (p := PlainI _) (by unfold PlainI; omega))
      | (rw [Bool.eq_iff_iff]; simp only [Bool.or_eq_true, decide_eq_true_eq]; unfold PlainI; omega)
      | (rw [Bool.eq_iff_iff]; simp only [decide_eq_true_eq]; unfold PlainI; omega)
theorem hx_int {n : Nat} (h : n < 16) : ((hx n).toNat : Int) = if (n : Int) < 10 then 48 + (n : Int) else 55 + (n : Int) := by
  have : n = 0 ∨ n = 1 ∨ n = 2 ∨ n = 3 ∨ n = 4 ∨ n = 5 ∨ n = 6 ∨ n = 7 ∨ n = 8 ∨ n = 9 ∨ n = 10 ∨ n = 11 ∨ n = 12 ∨ n = 13 ∨ n = 14 ∨ n = 15 := by omega
  rcases this with h | h | h | h | h | h | h | h | h | h | h | h | h | h | h | h <;> subst h <;> decide
theorem ret_u8 {a b : Int} (h : a = b) : Ending.returned (.int .u8 a) = .returned (.int .u8 b) := by rw [h]
theorem rhexd_any (n : Nat) (h : n < 16) (w : World) :
    Calls Tryd.prog 67 #[.int .i64 (n : Int)] w fun e w' => e = .returned (.int .u8 ((hx n).toNat : Int)) ∧ w = w' := by
  rw [hx_int h]
  by_cases h10 : (n : Int) < 10
  · rw [if_pos h10]
    go_enter Tryd.func67, Tryd.ntmps67
    go_wp2_with fail
    go_ret
    exact ⟨rfl, rfl⟩
  · rw [if_neg h10]
    go_enter Tryd.func67, Tryd.ntmps67
    go_wp2_with fail
    go_ret
    exact ⟨rfl, rfl⟩
/-- the byte of the escape that begins here, or -1 -/
def atL : List UInt8 → Int
  | 37 :: a :: b :: _ => if isHex a && isHex b then (two a b : Int) else -1
  | _ => -1
theorem num_two (a b : UInt8) : numOk 16 (min 2 15) [a, b] = (isHex a && isHex b) ∧ (numOk 16 (min 2 15) [a, b] = true → numR 16 (min 2 15) [a, b] = (two a b : Int)) := by
  have h1 : numOk 16 (min 2 15) [a, b] = (isHex a && isHex b) := by
    unfold numOk isHex
    simp
    intro _ _
    decide
  refine ⟨h1, fun h => ?_⟩
  unfold numR
  rw [h, if_pos rfl]
  unfold numV two
  simp
theorem ret_i64 {a b : Int} (h : a = b) : Ending.returned (.int .i64 a) = .returned (.int .i64 b) := by rw [h]
theorem rat_any (s : ByteArray) (hs : s.size ≤ 140737488355328) (k : Nat) (hk : k < s.size) (w : World) :
    Calls Tryd.prog 65 #[.string s, .int .i64 (k : Int)] w fun e w' => e = .returned (.int .i64 (atL ((toL s).drop k))) ∧ w = w' := by
  have hs2 := hs
  by_cases h3 : k + 2 < s.size
  · have hd : (toL s).drop k = s[k] :: s[k + 1] :: s[k + 2] :: (toL s).drop (k + 3) := by
      rw [toL_drop s k (by omega), toL_drop s (k + 1) (by omega), toL_drop s (k + 2) (by omega)]
    have hi : ((k : Int) + 2) < (s.size : Int) := by omega
    by_cases h37 : s[k] = 37
    · have hq : ((s[k].toNat : Int) != 37) = false := by rw [h37]; rfl
      have he : toL (s.extract (k + 1) (k + 3)) = [s[k + 1], s[k + 2]] := by
        rw [toL_extract, List.drop_take]
        rw [toL_drop s (k + 1) (by omega), toL_drop s (k + 2) (by omega)]
        have : k + 3 - (k + 1) = 2 := by omega
        rw [this]
        rfl
      obtain ⟨n1, n2⟩ := num_two s[k + 1] s[k + 2]
      have hsz2 : (s.extract (k + 1) (k + 3)).size = 2 := by rw [← toL_length, he]; rfl
      have HH := Lib.hid (fun w => rhex_any (s.extract (k + 1) (k + 3)) (by rw [hsz2]; decide) 2 w)
      rw [he] at HH
      have hA : atL ((toL s).drop k) = if isHex s[k + 1] && isHex s[k + 2] then (two s[k + 1] s[k + 2] : Int) else -1 := by rw [hd, h37]; rfl
      have hki : (k : Int) < (s.size : Int) := by omega
      rw [hA]
      rw [n1] at HH n2
      clear n1 he hA hd h37 hs hsz2
      by_cases hok : (isHex s[k + 1] && isHex s[k + 2]) = true
      · rw [n2 hok, hok] at HH
        rw [if_pos hok]
        have hb1 := two_lt (a := s[k + 1]) (b := s[k + 2]) (by simp at hok; exact hok.1) (by simp at hok; exact hok.2)
        clear hok n2
        generalize two s[k + 1] s[k + 2] = n at *
        go_enter Tryd.func65, Tryd.ntmps65
        go_wp2_with fail
        refine (HH.out _).mono ?_
        rintro e w' ⟨rfl, rfl⟩
        go_wp2_with fail
        go_ret
        exact ⟨rfl, rfl⟩
      · have hok : (isHex s[k + 1] && isHex s[k + 2]) = false := by simpa using hok
        rw [hok] at HH
        rw [hok, if_neg (by decide)]
        clear hok n2
        go_enter Tryd.func65, Tryd.ntmps65
        go_wp2_with fail
        refine (HH.out _).mono ?_
        rintro e w' ⟨rfl, rfl⟩
        go_wp2_with fail
        go_ret
        exact ⟨rfl, rfl⟩
    · have hq : ((s[k].toNat : Int) != 37) = true := by
        have := all_bytes (p := fun b => (((b.toNat : Int) != 37) == (b != 37))) (by decide +kernel) s[k]
        rw [beq_iff_eq] at this
        rw [this, bne_iff_ne]
        exact h37
      have hA : atL ((toL s).drop k) = -1 := by
        rw [hd]
        unfold atL
        split
        · rename_i h
          injection h with h
          exact absurd h h37
        · rfl
      rw [hA]
      have hki : (k : Int) < (s.size : Int) := by omega
      clear hA hd h37 hs
      go_enter Tryd.func65, Tryd.ntmps65
      go_wp2_with fail
      go_ret
      exact ⟨rfl, rfl⟩
  · have hA : atL ((toL s).drop k) = -1 := by
      have hl : ((toL s).drop k).length ≤ 2 := by rw [List.length_drop, toL_length]; omega
      unfold atL
      split
      · rename_i h
        rw [h] at hl
        simp at hl
      · rfl
    rw [hA]
    have hi : ¬ ((k : Int) + 2) < (s.size : Int) := by omega
    clear hA hs
    go_enter Tryd.func65, Tryd.ntmps65
    go_wp2_with fail
    go_ret
    exact ⟨rfl, rfl⟩
end Go.Proofs.YtaiipdjibllodaaDoor.RPlain

/- Rows of bytes and of texts that a call owns. No program is named. -/
namespace Go.Proofs.YtaiipdjibllodaaDoor.Rows1
open Bytes Go.RowKit

def bv (c : UInt8) : Value := .int .u8 (c.toNat : Int)
def bvs (l : List UInt8) : List Value := l.map bv
theorem bvs_length (l : List UInt8) : (bvs l).length = l.length := by simp [bvs]
theorem bvs_append (l m : List UInt8) : bvs (l ++ m) = bvs l ++ bvs m := by simp [bvs]
/-- how a row's value looks -/
theorem row_form {w : World} {base n size : Nat} {e : TypeId} {v : Value} {xs : List Value} (h : w.ownsRow base e size v n xs) : ∃ p cap, v = .slice p n cap ∧ (0 < n → ∃ g, p = some ⟨g, 0, none⟩ ∧ v.ownBlock = some g) := by
  rcases h.2 with ⟨hv, hn⟩ | ⟨g, cap, cur, hv, _⟩
  · exact ⟨none, 0, by rw [hv, hn], fun h0 => by omega⟩
  · exact ⟨_, cap, hv, fun _ => ⟨g, rfl, by rw [hv]; rfl⟩⟩
/-- a row of one-cell elements: how it looks, and its cells -/
theorem row_cells {w : World} {base n : Nat} {e : TypeId} {v : Value} {xs : List Value} (h : w.ownsRow base e 1 v n xs) : ∃ p cap, v = .slice p n cap ∧ n ≤ cap ∧ (0 < n → ∃ g, p = some ⟨g, 0, none⟩ ∧ base ≤ g ∧ g < w.heap.size ∧ v.ownBlock = some g ∧ ∀ j, j < n → w.cell? ⟨g, j, none⟩ = xs[j]?) := by
  rcases h.2 with ⟨hv, hn⟩ | ⟨g, cap, cur, hv, hb, hg, hcap, rest⟩
  · exact ⟨none, 0, by rw [hv, hn], by omega, fun h0 => by omega⟩
  · refine ⟨_, cap, hv, hcap, fun _ => ⟨g, rfl, hb, (Array.getElem?_eq_some_iff.1 hg).1, by rw [hv]; rfl, fun j hj => ?_⟩⟩
    have hl : j < xs.length := by have := h.1; omega
    have := h.cells (g := g) (by rw [hv]; rfl) j xs[j] (List.getElem?_eq_getElem hl)
    rw [List.getElem?_eq_getElem hl]
    have e : (⟨g, 0, none⟩ : Addr).add j = ⟨g, j, none⟩ := by unfold Addr.add; split <;> simp_all
    rwa [e] at this
/-- the beginning of a row -/
theorem row_cut {w : World} {base n m cap : Nat} {e : TypeId} {p : Option Addr} {xs : List Value} (h : w.ownsRow base e 1 (.slice p n cap) n xs) (hm : m ≤ n) : w.ownsRow base e 1 (.slice p m cap) m (xs.take m) := by
  refine ⟨by have := h.1; rw [List.length_take]; omega, ?_⟩
  rcases h.2 with ⟨hv, hn⟩ | ⟨g, c, cur, hv, hb, hg, hcap, hmx, hsz, ht⟩
  · injection hv with h1 h2 h3
    exact .inl ⟨by rw [h1, h3, show m = 0 by omega], by omega⟩
  · injection hv with h1 h2 h3
    subst h3
    exact .inr ⟨g, _, cur, by rw [h1], hb, hg, by omega, hmx, hsz, by rw [← ht, List.take_take]; congr 1; omega⟩
/-- 'string(b)' of a row of the call's own -/
theorem own_string {P : Program} {w : World} {base n : Nat} {e : TypeId} {v : Value} {l : List UInt8} (h : w.ownsRow base e 1 v n (bvs l)) (src dst : TypeId) (hs : P.underlying src = some (.slice e)) (he : P.underlying e = some (.int .u8)) (hd : P.underlying dst = some .string) :
    (Go.convert src dst v).run P w = .ok (.string (ofL l)) w := by
  have hl : l.length = n := by have := h.1; rw [bvs_length] at this; omega
  rcases h.2 with ⟨rfl, hn⟩ | ⟨g, cap, cur, rfl, hb, hg, rest⟩
  · have : l = [] := List.length_eq_zero_iff.1 (by omega)
    subst this
    exact Lib.run_convert_nil_bytes w src dst e 0 hs he hd
  · subst hl
    refine run_convert_bytes_back w src dst e ⟨g, 0, none⟩ cap l hs he hd (fun j hj => ?_)
    exact h.cells rfl j _ (by simp [bvs, bv, List.getElem?_eq_getElem hj])
end Go.Proofs.YtaiipdjibllodaaDoor.Rows1

/- Layer 5, the document's own Escapes and Decode: what both gather. -/
namespace Go.Proofs.YtaiipdjibllodaaDoor.REsc
open Go.ChangeShapes Go.WideShapes Go.ChangeAt Go.RowKit LexPure Bytes Ret PathPure RPlain Rows1
theorem infoB : (Tryd.prog.info? 5).map (fun i => (i.zero, i.size, i.bytes)) = some (some (.int .u8 0), 1, 1) := by kernel_rfl
/-- what is gathered behind k bytes -/
structure Got (w : World) (k : Nat) (v : Value) (G : List UInt8) (wr : World) : Prop where
  row : wr.ownsRow w.heap.size 5 1 v G.length (bvs G)
  below : Below w.heap.size w wr
  few : G.length ≤ k
theorem Got.start (w : World) : Got w 0 (.slice none 0 0) [] w := ⟨World.ownsRow_nil _ _ _ _, Below.refl _ _, Nat.le_refl _⟩
theorem atL_none {s : ByteArray} {k : Nat} (hk : k < s.size) (h : s[k] = 37) (hn : atL ((toL s).drop k) < 0) : dec ((toL s).drop k) = none ∧ esc ((toL s).drop k) = none := by
  rw [toL_drop s k hk, h] at *
  rw [dec_cons, if_pos (by decide), esc_cons, if_pos (by decide), if_pos (by decide)]
  generalize (toL s).drop (k + 1) = t at *
  match t with
  | [] => exact ⟨rfl, rfl⟩
  | [_] => exact ⟨rfl, rfl⟩
  | a :: b :: r =>
    unfold atL at hn
    simp only at hn ⊢
    split at hn
    · omega
    · rename_i hh
      rw [if_neg hh, if_neg hh]
      exact ⟨rfl, rfl⟩
theorem atL_some {s : ByteArray} {k : Nat} (hk : k < s.size) (h : s[k] = 37) (hn : ¬ atL ((toL s).drop k) < 0) : ∃ n : Nat, atL ((toL s).drop k) = (n : Int) ∧ n < 256 ∧ k + 2 < s.size ∧
    dec ((toL s).drop k) = (dec ((toL s).drop (k + 3))).map (UInt8.ofNat n :: ·) ∧ esc ((toL s).drop k) = (esc ((toL s).drop (k + 3))).map (wr n ++ ·) := by
  have hl : ((toL s).drop k).length = s.size - k := by rw [List.length_drop, toL_length]
  have hd3 : (toL s).drop (k + 3) = ((toL s).drop (k + 1)).drop 2 := by rw [List.drop_drop]
  rw [hd3]
  rw [toL_drop s k hk, h] at *
  rw [dec_cons, if_pos (by decide), esc_cons, if_pos (by decide), if_pos (by decide)]
  generalize (toL s).drop (k + 1) = t at *
  match t with
  | [] => exact absurd (by decide) hn
  | [_] => exact absurd (show (-1 : Int) < 0 by decide) hn
  | a :: b :: r =>
    unfold atL at hn ⊢
    simp only at hn ⊢
    split at hn
    · rename_i hh
      rw [if_pos hh]
      have h2 := hh
      rw [Bool.and_eq_true] at h2
      exact ⟨two a b, rfl, two_lt h2.1 h2.2, by simp at hl; omega, by rw [if_pos hh]; rfl, by rw [if_pos hh]; rfl⟩
    · omega
theorem got_push {w wr w3 : World} {k j : Nat} {v v' : Value} {G : List UInt8} {c : UInt8} {o : Obj} (I : Got w k v G wr) (h : w3.ownsRow w.heap.size 5 1 v' (G.length + 1) (bvs G ++ [bv c])) (hg : (wr.alloc o).grownBy w3 v.ownBlock) (hj : k < j) : Got w j v' (G ++ [c]) w3 :=
  ⟨by rw [List.length_append, bvs_append]; exact h, Below.grown (I.below.alloc I.below.size _) hg (by have := I.below.size; simp; omega) (fun b hb => (I.row.lt b hb).1), by rw [List.length_append]; have := I.few; simp; omega⟩
/-- whether s[k] is the sign of an escape, as a number -/
theorem sign_ne {c : UInt8} (h : ¬ c = 37) : ((c.toNat : Int) != 37) = true := by
  have := all_bytes (p := fun b => (((b.toNat : Int) != 37) == (b != 37))) (by decide +kernel) c
  rw [beq_iff_eq] at this
  rw [this, bne_iff_ne]
  exact h
end Go.Proofs.YtaiipdjibllodaaDoor.REsc

/- Layer 5, the document's own Escapes. -/
namespace Go.Proofs.YtaiipdjibllodaaDoor.REscapes
open Go.ChangeShapes Go.WideShapes Go.ChangeAt Go.RowKit LexPure Bytes Ret PathPure RPlain Rows1 REsc
theorem okc_true {c : UInt8} (h : okc c = true) : ¬ (c.toNat : Int) ≤ 32 ∧ ¬ 127 ≤ (c.toNat : Int) ∧ ((c.toNat : Int) == 63) = false ∧ ((c.toNat : Int) == 35) = false := by
  have := all_bytes (p := fun c => !okc c || decide (¬ (c.toNat : Int) ≤ 32 ∧ ¬ 127 ≤ (c.toNat : Int) ∧ ((c.toNat : Int) == 63) = false ∧ ((c.toNat : Int) == 35) = false)) (by decide +kernel) c
  rw [h] at this
  simpa only [Bool.not_true, Bool.false_or, decide_eq_true_eq] using this
theorem okc_false {c : UInt8} (h : okc c = false) : (c.toNat : Int) ≤ 32 ∨ (¬ (c.toNat : Int) ≤ 32 ∧ 127 ≤ (c.toNat : Int)) ∨ (¬ (c.toNat : Int) ≤ 32 ∧ ¬ 127 ≤ (c.toNat : Int) ∧ ((c.toNat : Int) == 63) = true) ∨ (¬ (c.toNat : Int) ≤ 32 ∧ ¬ 127 ≤ (c.toNat : Int) ∧ ((c.toNat : Int) == 63) = false ∧ ((c.toNat : Int) == 35) = true) := by
  have := all_bytes (p := fun c => okc c || decide ((c.toNat : Int) ≤ 32 ∨ (¬ (c.toNat : Int) ≤ 32 ∧ 127 ≤ (c.toNat : Int)) ∨ (¬ (c.toNat : Int) ≤ 32 ∧ ¬ 127 ≤ (c.toNat : Int) ∧ ((c.toNat : Int) == 63) = true) ∨ (¬ (c.toNat : Int) ≤ 32 ∧ ¬ 127 ≤ (c.toNat : Int) ∧ ((c.toNat : Int) == 63) = false ∧ ((c.toNat : Int) == 35) = true))) (by decide +kernel) c
  rw [h] at this
  simpa only [Bool.false_or, decide_eq_true_eq] using this
theorem bv_of {n : Nat} (h : n < 256) : bv (UInt8.ofNat n) = .int .u8 (n : Int) := by
  have := all_below (p := fun n => (((UInt8.ofNat n).toNat : Int) == (n : Int))) (by decide +kernel) h
  rw [beq_iff_eq] at this
  unfold bv
  rw [this]
set_option maxRecDepth 20000 in
set_option maxHeartbeats 4000000 in
theorem loop_any (s : ByteArray) (hs : s.size ≤ 140737488351232) (h0 : 0 < s.size) (hsl : s[0] = 47) (w : World) :
    Calls Tryd.prog 49 #[.string s] w fun e w' => e = .returned (.tuple #[.string (ofL ((esc (toL s)).getD [])), .bool (esc (toL s)).isSome]) ∧ Below w.heap.size w w' := by
  obtain ⟨i0, hi, hz0, hz1, hz2⟩ := info_parts infoB
  have hq0 : ((s.size : Int) == 0) = false := beq_eq_false_iff_ne.2 (by omega)
  have hq1 : ((s[0].toNat : Int) != 47) = false := by rw [hsl]; rfl
  clear hsl
  go_enter Tryd.func49, Tryd.ntmps49
  go_wp2_with fail
  go_loopw [4, 5] (fun v i wr => ∃ k : Nat, k ≤ s.size ∧ i = .int .i64 k ∧ Hid (∃ G, Got w k v G wr ∧ esc (toL s) = (esc ((toL s).drop k)).map (G ++ ·))) (fun _ i _ => s.size - (intOf i).toNat)
  case atStart => exact ⟨0, Nat.zero_le _, rfl, Lib.hid ⟨[], Got.start w, by simp⟩⟩
  case round =>
    obtain ⟨k, hk, rfl, HI⟩ := hrel
    obtain ⟨G, I, hd⟩ := HI.out
    have hrow := I.row
    have hbw := I.below
    have hbs := hbw.size
    have hfew := I.few
    by_cases hlt : k < s.size
    · have hki : (k : Int) < (s.size : Int) := by omega
      by_cases hok : okc s[k] = true
      · obtain ⟨o1, o2, o3, o4⟩ := okc_true hok
        by_cases h37 : s[k] = 37
        · have hq : (s[k].toNat : Int) = 37 := by rw [h37]; rfl
          clear o1 o2 o3 o4
          have HA := Lib.hid (fun w => rat_any s (by omega) k hlt w)
          by_cases hn : atL ((toL s).drop k) < 0
          · have HV : Hid (esc (toL s) = none) := Lib.hid (by rw [hd, (atL_none hlt h37 hn).2]; rfl)
            generalize atL ((toL s).drop k) = z at *
            clear hd HI I hrow h37 hok
            go_wp2_with fail
            refine (HA.out _).mono ?_
            rintro e w' ⟨rfl, rfl⟩
            go_wp2_with fail
            go_ret2
            rw [HV.out]
            exact ⟨rfl, hbw⟩
          · obtain ⟨n, hn1, hn2, hn3, _, hn4⟩ := atL_some hlt h37 hn
            have hnb : (n : Int) ≤ 255 := by omega
            have HP := Lib.hid (fun w => rplain_any n hn2 w)
            rw [hn1] at HA
            by_cases hp : plainP n = true
            · have HB := Lib.hid (bv_of hn2)
              have HD : Hid (esc (toL s) = (esc ((toL s).drop (k + 3))).map ((G ++ [UInt8.ofNat n]) ++ ·)) := Lib.hid (by
                rw [hd, hn4, Option.map_map]
                unfold PathPure.wr
                rw [hp]
                congr 1
                funext x
                simp)
              rw [hp] at HP
              have HI2 := Lib.hid I
              clear hd HI h37 hn hn1 hn2 hn4 I hok hp
              go_wp2_with fail
              refine (HA.out _).mono ?_
              rintro e w' ⟨rfl, rfl⟩
              go_wp2_with fail
              refine (HP.out _).mono ?_
              rintro e w' ⟨rfl, rfl⟩
              go_wp2_with (at_builtin; refine wpList_append_own _ rfl _ _ 48 rfl w.heap.size 5 i0 (.int .u8 0) 1 1 Tryd.underlying48 hi hz0 hz1 hz2 rfl (by decide) _ _ _ rfl (hrow.alloc _) ⟨wr.heap.size, 0, none⟩ 1 1 [.int .u8 (n : Int)] rfl rfl (cell_one_new _ _ _) (fun x hx => by simp at hx; subst hx; rfl) (by unfold maxLen; omega) (by omega) (by simp; omega) ?_; intro v' w3 hown' hgrow3 hnil3)
              rw [← HB.out] at hown'
              have HI3 := Lib.hid (got_push HI2.out hown' hgrow3 (j := (k + 3)) (by omega))
              clear hown' hgrow3 hnil3 HI2 hrow hbs hfew
              have hrow := HI3.out.row
              have hbs := HI3.out.below.size
              have hfew := HI3.out.few
              have hglen : (G ++ [UInt8.ofNat n]).length = G.length + 1 := by simp

              have HR : Hid (∃ G, Got w (k + 3) v' G w3 ∧ esc (toL s) = (esc ((toL s).drop (k + 3))).map (G ++ ·)) := Lib.hid ⟨_, HI3.out, HD.out⟩
              clear HI3 HD HB HA HP hrow hbs hfew
              go_wp2_with fail
              go_roundw
              case rel => exact ⟨k + 3, by omega, by go_num, HR⟩
              case measure => simp [intOf]; omega
            · have hp : plainP n = false := by simpa using hp
              have HD : Hid (esc (toL s) = (esc ((toL s).drop (k + 3))).map ((G ++ [37, hx (n / 16), hx (n % 16)]) ++ ·)) := Lib.hid (by
                rw [hd, hn4, Option.map_map]
                unfold PathPure.wr
                rw [hp]
                congr 1
                funext x
                simp)
              rw [hp] at HP
              have HI2 := Lib.hid I
              have HX1 := Lib.hid (fun w => rhexd_any (n / 16) (by omega) w)
              have HX2 := Lib.hid (fun w => rhexd_any (n % 16) (by omega) w)
              clear hd HI h37 hn hn1 hn2 hn4 I hok hp
              go_wp2_with fail
              refine (HA.out _).mono ?_
              rintro e w' ⟨rfl, rfl⟩
              go_wp2_with fail
              refine (HP.out _).mono ?_
              rintro e w' ⟨rfl, rfl⟩
              have HB1 : Hid (bv 37 = .int .u8 37) := Lib.hid rfl
              have HB2 : Hid (bv (hx (n / 16)) = .int .u8 ((hx (n / 16)).toNat : Int)) := Lib.hid rfl
              have HB3 : Hid (bv (hx (n % 16)) = .int .u8 ((hx (n % 16)).toNat : Int)) := Lib.hid rfl
              rw [show ((n / 16 : Nat) : Int) = (n : Int) / 16 by omega] at HX1
              rw [show ((n % 16 : Nat) : Int) = (n : Int) % 16 by omega] at HX2
              have hx1 : ((hx (n / 16)).toNat : Int) ≤ 255 := by have := (hx (n / 16)).toNat_lt; omega
              have hx2 : ((hx (n % 16)).toNat : Int) ≤ 255 := by have := (hx (n % 16)).toNat_lt; omega
              go_wp2_with (at_builtin; refine wpList_append_own _ rfl _ _ 48 rfl w.heap.size 5 i0 (.int .u8 0) 1 1 Tryd.underlying48 hi hz0 hz1 hz2 rfl (by decide) _ _ _ rfl (hrow.alloc _) ⟨wr.heap.size, 0, none⟩ 1 1 [.int .u8 37] rfl rfl (cell_one_new _ _ _) (fun x hx => by simp at hx; subst hx; rfl) (by unfold maxLen; omega) (by omega) (by simp; omega) ?_; intro va wa hown' hgrow3 hnil3)
              rw [← HB1.out] at hown'
              replace HI2 := Lib.hid (got_push HI2.out hown' hgrow3 (j := (k + 1)) (by omega))
              clear hown' hgrow3 hnil3 hrow hbs hfew
              have hrow := HI2.out.row
              have hbs := HI2.out.below.size
              have hfew := HI2.out.few
              go_wp2_with fail
              refine (HX1.out _).mono ?_
              rintro e w' ⟨rfl, rfl⟩
              go_wp2_with (at_builtin; refine wpList_append_own _ rfl _ _ 48 rfl w.heap.size 5 i0 (.int .u8 0) 1 1 Tryd.underlying48 hi hz0 hz1 hz2 rfl (by decide) _ _ _ rfl (hrow.alloc _) ⟨wa.heap.size, 0, none⟩ 1 1 [.int .u8 ((hx (n / 16)).toNat : Int)] rfl rfl (cell_one_new _ _ _) (fun x hx => by simp at hx; subst hx; rfl) (by unfold maxLen; omega) (by omega) (by simp; omega) ?_; intro vb wb hown' hgrow3 hnil3)
              rw [← HB2.out] at hown'
              replace HI2 := Lib.hid (got_push HI2.out hown' hgrow3 (j := (k + 2)) (by omega))
              clear hown' hgrow3 hnil3 hrow hbs hfew
              have hrow := HI2.out.row
              have hbs := HI2.out.below.size
              have hfew := HI2.out.few
              go_wp2_with fail
              refine (HX2.out _).mono ?_
              rintro e w' ⟨rfl, rfl⟩
              go_wp2_with (at_builtin; refine wpList_append_own _ rfl _ _ 48 rfl w.heap.size 5 i0 (.int .u8 0) 1 1 Tryd.underlying48 hi hz0 hz1 hz2 rfl (by decide) _ _ _ rfl (hrow.alloc _) ⟨wb.heap.size, 0, none⟩ 1 1 [.int .u8 ((hx (n % 16)).toNat : Int)] rfl rfl (cell_one_new _ _ _) (fun x hx => by simp at hx; subst hx; rfl) (by unfold maxLen; omega) (by omega) (by simp; omega) ?_; intro vc wc hown' hgrow3 hnil3)
              rw [← HB3.out] at hown'
              replace HI2 := Lib.hid (got_push HI2.out hown' hgrow3 (j := (k + 3)) (by omega))
              clear hown' hgrow3 hnil3 hrow hbs hfew
              have hrow := HI2.out.row
              have hbs := HI2.out.below.size
              have hfew := HI2.out.few
              have HR : Hid (∃ G, Got w (k + 3) vc G wc ∧ esc (toL s) = (esc ((toL s).drop (k + 3))).map (G ++ ·)) := Lib.hid ⟨_, HI2.out, by have := HD.out; simpa using this⟩
              clear HI2 HD HA HP HX1 HX2 HB1 HB2 HB3 hrow hbs hfew
              go_wp2_with fail
              go_roundw
              case rel => exact ⟨k + 3, by omega, by go_num, HR⟩
              case measure => simp [intOf]; omega

        · have hq := sign_ne h37
          have HD : Hid (esc (toL s) = (esc ((toL s).drop (k + 1))).map ((G ++ [s[k]]) ++ ·)) := Lib.hid (by
            rw [hd, toL_drop s k hlt, esc_cons, if_pos hok, if_neg (by simpa using h37), Option.map_map]
            congr 1
            funext x
            simp)
          have HB : Hid (bv s[k] = .int .u8 (s[k].toNat : Int)) := Lib.hid rfl
          have HI2 := Lib.hid I
          clear hd HI h37 I hok
          go_wp2_with (at_builtin; refine wpList_append_own _ rfl _ _ 48 rfl w.heap.size 5 i0 (.int .u8 0) 1 1 Tryd.underlying48 hi hz0 hz1 hz2 rfl (by decide) _ _ _ rfl (hrow.alloc _) ⟨wr.heap.size, 0, none⟩ 1 1 [.int .u8 (s[k].toNat : Int)] rfl rfl (cell_one_new _ _ _) (fun x hx => by simp at hx; subst hx; rfl) (by unfold maxLen; omega) (by omega) (by simp; omega) ?_; intro v' w3 hown' hgrow3 hnil3)
          rw [← HB.out] at hown'
          have HI3 := Lib.hid (got_push HI2.out hown' hgrow3 (j := (k + 1)) (by omega))
          clear hown' hgrow3 hnil3 HI2 hrow hbs hfew
          have hrow := HI3.out.row
          have hbs := HI3.out.below.size
          have hfew := HI3.out.few
          have hglen : (G ++ [s[k]]).length = G.length + 1 := by simp

          have HR : Hid (∃ G, Got w (k + 1) v' G w3 ∧ esc (toL s) = (esc ((toL s).drop (k + 1))).map (G ++ ·)) := Lib.hid ⟨_, HI3.out, HD.out⟩
          clear HI3 HD HB hrow hbs hfew
          go_wp2_with fail
          go_roundw
          case rel => exact ⟨k + 1, by omega, by go_num, HR⟩
          case measure => simp [intOf]; omega
      · have hok : okc s[k] = false := by simpa using hok
        have HV : Hid (esc (toL s) = none) := Lib.hid (by rw [hd, toL_drop s k hlt, esc_cons, if_neg (by simp [hok])]; rfl)
        have ho := okc_false hok
        clear hd HI I hrow hok
        rcases ho with o1 | ⟨o1, o2⟩ | ⟨o1, o2, o3⟩ | ⟨o1, o2, o3, o4⟩
        all_goals
          go_wp2_with fail
          go_ret2
          rw [HV.out]
          exact ⟨rfl, hbw⟩
    · have HC := own_string (P := Tryd.prog) hrow 48 9 Tryd.underlying48 Tryd.underlying5 Tryd.underlying9
      have HV : Hid (esc (toL s) = some G) := Lib.hid (by
        rw [hd, List.drop_eq_nil_of_le (by rw [toL_length]; omega)]
        show some (G ++ []) = _
        rw [List.append_nil])
      clear hd HI I hrow
      go_wp2_with fail
      go_ret2
      rw [HV.out]
      exact ⟨rfl, hbw⟩
theorem slash_ne {c : UInt8} (h : ¬ c = 47) : ((c.toNat : Int) != 47) = true := by
  have := all_bytes (p := fun b => (((b.toNat : Int) != 47) == (b != 47))) (by decide +kernel) c
  rw [beq_iff_eq] at this
  rw [this, bne_iff_ne]
  exact h
theorem rescapes_any (s : ByteArray) (hs : s.size ≤ 140737488351232) (w : World) :
    Calls Tryd.prog 49 #[.string s] w fun e w' => e = .returned (.tuple #[.string (ofL ((escapes (toL s)).getD [])), .bool (escapes (toL s)).isSome]) ∧ Below w.heap.size w w' := by
  by_cases h0 : s.size = 0
  · have hnil : toL s = [] := List.length_eq_zero_iff.1 (by rw [toL_length]; exact h0)
    have hn : escapes (toL s) = none := by rw [hnil]; rfl
    have hq : ((s.size : Int) == 0) = true := by rw [h0]; rfl
    rw [hn]
    clear hn hnil
    go_enter Tryd.func49, Tryd.ntmps49
    go_wp2_with fail
    go_ret2
    exact ⟨rfl, Below.refl _ _⟩
  · have hpos : 0 < s.size := by omega
    have hd : toL s = s[0] :: (toL s).drop 1 := by
      have := toL_drop s 0 hpos
      simpa using this
    by_cases hsl : s[0] = 47
    · have he : escapes (toL s) = esc (toL s) := by
        rw [hd]
        show (if (s[0] == 47) = true then esc (s[0] :: (toL s).drop 1) else none) = _
        rw [if_pos (by rw [hsl]; rfl)]
      rw [he]
      exact loop_any s hs hpos hsl w
    · have hn : escapes (toL s) = none := by
        rw [hd]
        show (if (s[0] == 47) = true then esc (s[0] :: (toL s).drop 1) else none) = _
        rw [if_neg (by simpa using hsl)]
      have hq : ((s.size : Int) == 0) = false := beq_eq_false_iff_ne.2 (by omega)
      have hq2 := slash_ne hsl
      rw [hn]
      clear hn hd hsl h0
      go_enter Tryd.func49, Tryd.ntmps49
      go_wp2_with fail
      go_ret2
      exact ⟨rfl, Below.refl _ _⟩
end Go.Proofs.YtaiipdjibllodaaDoor.REscapes

/- The normal form of a path: it is its own, and how it goes on. No program is named. -/
namespace Go.Proofs.YtaiipdjibllodaaDoor.PathForm
open LexPure Bytes PathPure

/-- a piece that may be kept -/
structure CleanP (p : List UInt8) : Prop where
  dot : isDot p = false
  up : isUp p = false
  no : noSlash p = true
  enc : Enc p
/-- the text of kept pieces, with a slash behind or not -/
def form (kept : List (List UInt8)) (tr : Bool) : List UInt8 := if tr then join kept ++ [47] else join kept
theorem keeps_append : ∀ (ps qs kept : List (List UInt8)), keeps kept (ps ++ qs) = (keeps kept ps).bind (fun k => keeps k qs)
  | [], qs, kept => rfl
  | p :: ps, qs, kept => by
    show keeps kept (p :: (ps ++ qs)) = _
    rw [keeps, keeps]
    split
    · exact keeps_append ps qs kept
    · split
      · split
        · rfl
        · exact keeps_append ps qs _
      · exact keeps_append ps qs _
theorem keeps_clean : ∀ (ps kept : List (List UInt8)), (∀ p ∈ ps, CleanP p) → keeps kept ps = some (kept ++ ps)
  | [], kept, _ => by simp [keeps]
  | p :: ps, kept, h => by
    have hp := h p (by simp)
    rw [keeps, if_neg (by simp [hp.dot]), if_neg (by simp [hp.up]), keeps_clean ps _ (fun q hq => h q (by simp [hq]))]
    simp
theorem keeps_kept : ∀ (ps kept out : List (List UInt8)), (∀ p ∈ kept, CleanP p) → (∀ p ∈ ps, Enc p ∧ noSlash p = true) → keeps kept ps = some out → ∀ p ∈ out, CleanP p
  | [], kept, out, hk, _, h => by
    simp only [keeps, Option.some.injEq] at h
    subst h
    exact hk
  | p :: ps, kept, out, hk, hp, h => by
    have hps : ∀ q ∈ ps, Enc q ∧ noSlash q = true := fun q hq => hp q (by simp [hq])
    rw [keeps] at h
    split at h
    · exact keeps_kept ps kept out hk hps h
    · rename_i h1
      split at h
      · split at h
        · cases h
        · exact keeps_kept ps _ out (fun q hq => hk q ((List.dropLast_sublist kept).subset hq)) hps h
      · rename_i h2
        refine keeps_kept ps _ out (fun q hq => ?_) hps h
        rw [List.mem_append, List.mem_singleton] at hq
        rcases hq with hq | rfl
        · exact hk q hq
        · have := hp q (by simp)
          exact ⟨by simpa using h1, by simpa using h2, this.2, this.1⟩
theorem enc_slash {r : List UInt8} (h : Enc r) : Enc (47 :: r) := Enc.one 47 r (by decide) (by decide) h
theorem join_enc : ∀ {kept : List (List UInt8)}, (∀ p ∈ kept, CleanP p) → Enc (join kept)
  | [], _ => Enc.nil
  | p :: ps, h => by
    show Enc ((47 :: p) ++ join ps)
    exact enc_append (enc_slash (h p (by simp)).enc) (join_enc (fun q hq => h q (by simp [hq])))
theorem form_enc {kept : List (List UInt8)} {tr : Bool} (h : ∀ p ∈ kept, CleanP p) : Enc (form kept tr) := by
  unfold form
  split
  · exact enc_append (join_enc h) (enc_slash Enc.nil)
  · exact join_enc h
/-- a form with something behind -/
theorem cuts_join : ∀ (kept : List (List UInt8)) (r : List UInt8), (∀ p ∈ kept, CleanP p) → cuts (join kept ++ 47 :: r).tail = kept ++ cuts r
  | [], r, _ => rfl
  | p :: ps, r, h => by
    have hp := h p (by simp)
    have ih := cuts_join ps r (fun q hq => h q (by simp [hq]))
    have e : (join (p :: ps) ++ 47 :: r).tail = p ++ (join ps ++ 47 :: r) := by
      show (((47 :: p) ++ join ps) ++ 47 :: r).tail = _
      simp
    rw [e]
    obtain ⟨t, ht⟩ : ∃ t, join ps ++ 47 :: r = 47 :: t := by
      cases ps with
      | nil => exact ⟨r, rfl⟩
      | cons q qs => exact ⟨q ++ join qs ++ 47 :: r, by show ((47 :: q) ++ join qs) ++ 47 :: r = _; simp⟩
    rw [ht] at ih ⊢
    rw [cuts_cut hp.no]
    show p :: cuts t = p :: (ps ++ cuts r)
    rw [show cuts t = ps ++ cuts r from ih]
theorem cuts_join_end (kept : List (List UInt8)) (hne : kept ≠ []) (h : ∀ p ∈ kept, CleanP p) : cuts (join kept).tail = kept := by
  obtain ⟨l, p, rfl⟩ : ∃ l p, kept = l ++ [p] := ⟨kept.dropLast, kept.getLast hne, (List.dropLast_concat_getLast hne).symm⟩
  have hp := h p (by simp)
  have e : join (l ++ [p]) = join l ++ 47 :: p := by simp [join]
  rw [e, cuts_join l p (fun q hq => h q (by simp [hq])), cuts_plain hp.no]
/-- a form's pieces -/
theorem cuts_form (kept : List (List UInt8)) (tr : Bool) (hf : kept = [] → tr = true) (h : ∀ p ∈ kept, CleanP p) : cuts (form kept tr).tail = kept ++ (if tr then [[]] else []) := by
  unfold form
  cases tr with
  | true => exact cuts_join kept [] h
  | false =>
    have hne : kept ≠ [] := fun e => by cases hf e
    simp only [Bool.false_eq_true, if_false, List.append_nil]
    exact cuts_join_end kept hne h
/-- the pieces of a form with more behind it -/
theorem cuts_more (kept : List (List UInt8)) (tr : Bool) (hf : kept = [] → tr = true) (h : ∀ p ∈ kept, CleanP p) (r : List UInt8) : cuts (form kept tr ++ 47 :: r).tail = (kept ++ (if tr then [[]] else [])) ++ cuts r := by
  have hne : form kept tr ≠ [] := by
    unfold form
    cases tr with
    | true => simp
    | false =>
      cases kept with
      | nil => cases hf rfl
      | cons p ps => show (47 :: p) ++ join ps ≠ []; simp
  have e : (form kept tr ++ 47 :: r).tail = (form kept tr).tail ++ 47 :: r := List.tail_append_of_ne_nil hne
  rw [e, cuts_append, cuts_form kept tr hf h]
theorem form_head (kept : List (List UInt8)) (tr : Bool) (hf : kept = [] → tr = true) : ∃ t, form kept tr = 47 :: t := by
  unfold form
  cases kept with
  | nil => rw [hf rfl]; exact ⟨[], rfl⟩
  | cons p ps => cases tr <;> exact ⟨_, rfl⟩
theorem keeps_trail (kept : List (List UInt8)) (tr : Bool) (h : ∀ p ∈ kept, CleanP p) : keeps [] (kept ++ (if tr then [[]] else [])) = some kept := by
  rw [keeps_append, keeps_clean kept [] h]
  cases tr <;> simp [keeps, isDot]
/-- what is answered is a form -/
theorem normal_form {s t : List UInt8} (h : normal s = some t) : ∃ kept tr, t = form kept tr ∧ (kept = [] → tr = true) ∧ (∀ p ∈ kept, CleanP p) := by
  unfold normal at h
  split at h
  · cases h
  · rename_i u hu
    split at h
    · cases h
    · rename_i kept hk
      injection h with h
      have hu2 : ∃ c r, s = c :: r ∧ esc (c :: r) = some u := by
        cases s with
        | nil => cases hu
        | cons c r =>
          refine ⟨c, r, rfl, ?_⟩
          have hu : (if (c == 47) = true then esc (c :: r) else none) = some u := hu
          by_cases h47 : (c == 47) = true
          · rwa [if_pos h47] at hu
          · rw [if_neg h47] at hu
            cases hu
      obtain ⟨c, r, rfl, hu2⟩ := hu2
      have he := esc_enc _ (Nat.le_refl _) hu2
      have het : Enc u.tail := by
        cases u with
        | nil => exact Enc.nil
        | cons d v =>
          have hu : (if (c == 47) = true then esc (c :: r) else none) = some (d :: v) := hu
          by_cases h47 : (c == 47) = true
          · rw [if_pos h47] at hu
            have hc : c = 47 := by simpa using h47
            subst hc
            rw [esc_cons, if_pos (by decide), if_neg (by decide)] at hu
            obtain ⟨v', hv', e⟩ := Option.map_eq_some_iff.1 hu
            injection e with e1 e2
            subst e2
            exact esc_enc _ (Nat.le_refl _) hv'
          · rw [if_neg h47] at hu
            cases hu
      have hclean := keeps_kept _ [] kept (fun p hp => by simp at hp) (fun p hp => ⟨cuts_enc het p hp, cuts_noSlash hp⟩) hk
      subst h
      unfold finish
      refine ⟨kept, kept.isEmpty || endsOpen (cuts u.tail), ?_, fun e => by simp [e], hclean⟩
      unfold form
      rfl
/-- how a form goes on: the escapes of it are itself -/
theorem escapes_more {kept : List (List UInt8)} {tr : Bool} (hf : kept = [] → tr = true) (h : ∀ p ∈ kept, CleanP p) {r u : List UInt8} (hr : esc r = some u) : escapes (form kept tr ++ r) = some (form kept tr ++ u) := by
  obtain ⟨t, ht⟩ := form_head kept tr hf
  have he := enc_esc (form_enc (tr := tr) h)
  have := esc_append _ r (Nat.le_refl _) he
  rw [hr] at this
  rw [ht] at this ⊢
  show (if (47 == (47 : UInt8)) = true then esc (47 :: t ++ r) else none) = _
  rw [if_pos (by decide), this]
  rfl
/-- a normal form is its own -/
theorem normal_fixed {kept : List (List UInt8)} {tr : Bool} (hf : kept = [] → tr = true) (h : ∀ p ∈ kept, CleanP p) : normal (form kept tr) = some (form kept tr) := by
  have he := escapes_more hf h (r := []) (u := []) rfl
  rw [List.append_nil] at he
  unfold normal
  rw [he]
  simp only
  rw [cuts_form kept tr hf h, keeps_trail kept tr h]
  simp only
  congr 1
  unfold finish form
  cases tr with
  | true => simp [endsOpen, isDot]
  | false =>
    have hne : kept ≠ [] := fun e => by cases hf e
    obtain ⟨l, p, rfl⟩ : ∃ l p, kept = l ++ [p] := ⟨kept.dropLast, kept.getLast hne, (List.dropLast_concat_getLast hne).symm⟩
    have hp := h p (by simp)
    simp [endsOpen, hp.dot, hp.up]
theorem normal_normal {s t : List UInt8} (h : normal s = some t) : normal t = some t := by
  obtain ⟨kept, tr, rfl, hf, hc⟩ := normal_form h
  exact normal_fixed hf hc
end Go.Proofs.YtaiipdjibllodaaDoor.PathForm

/- Lists of texts: how they lie in memory. -/
namespace Go.Proofs.YtaiipdjibllodaaDoor.Texts
open Go.ChangeShapes Go.WideShapes Go.ChangeAt Go.RowKit LexPure Bytes Ret Rows1
theorem infoS : (Tryd.prog.info? 9).map (fun i => (i.zero, i.size, i.bytes)) = some (some (.string ByteArray.empty), 1, 16) := by kernel_rfl
def strs (G : List (List UInt8)) : List Value := G.map (fun e => .string (ofL e))
theorem strs_append (G H : List (List UInt8)) : strs (G ++ H) = strs G ++ strs H := by simp [strs]
/-- a list of texts: how it looks and its cells -/
def Texts (w : World) (v : Value) (G : List (List UInt8)) : Prop := ∃ p cap, v = .slice p G.length cap ∧ G.length ≤ 9223372036854775807 ∧ (0 < G.length → ∃ g o, p = some ⟨g, o, none⟩ ∧ g < w.heap.size ∧ ∀ j (hj : j < G.length), w.cell? ⟨g, o + j, none⟩ = some (.string (ofL G[j])))
theorem texts_of {w : World} {base : Nat} {v : Value} {G : List (List UInt8)} (h : w.ownsRow base 9 1 v G.length (Texts.strs G)) : Texts w v G := by
  obtain ⟨p, cap, hv, hle, hc⟩ := row_cells h
  have hcap : cap ≤ maxLen := by
    rcases h.2 with ⟨h1, _⟩ | ⟨_, c2, _, h1, _, _, _, h2, _⟩
    · rw [hv] at h1; injection h1 with _ _ h1; rw [h1]; exact Nat.zero_le _
    · rw [hv] at h1; injection h1 with _ _ h1; rw [h1]; exact h2
  unfold maxLen at hcap
  refine ⟨p, cap, hv, by omega, fun h0 => ?_⟩
  obtain ⟨g, hp, _, hlt, _, hcell⟩ := hc h0
  exact ⟨g, 0, hp, hlt, fun j hj => by rw [Nat.zero_add, hcell j hj]; simp [Texts.strs, List.getElem?_eq_getElem hj]⟩
theorem Texts.below {w w' : World} {v : Value} {G : List (List UInt8)} (h : Texts w v G) (hb : Below w.heap.size w w') : Texts w' v G := by
  obtain ⟨p, cap, hv, hn, hc⟩ := h
  refine ⟨p, cap, hv, hn, fun h0 => ?_⟩
  obtain ⟨g, o, hp, hlt, hcell⟩ := hc h0
  exact ⟨g, o, hp, Nat.lt_of_lt_of_le hlt hb.size, fun j hj => (hb.cell (p := ⟨g, o + j, none⟩) hlt).trans (hcell j hj)⟩
theorem Texts.drewN {w : World} {v : Value} {G : List (List UInt8)} (h : Texts w v G) (m : Nat) : Texts (w.drewN m) v G := h
theorem take_ext {G H : List (List UInt8)} {k : Nat} (hk : k < G.length) (hk2 : k < H.length) (h : G.take k = H.take k) (he : G[k] = H[k]) : G.take (k + 1) = H.take (k + 1) := by
  rw [List.take_add_one, List.take_add_one, h, List.getElem?_eq_getElem hk, List.getElem?_eq_getElem hk2, he]
end Go.Proofs.YtaiipdjibllodaaDoor.Texts
