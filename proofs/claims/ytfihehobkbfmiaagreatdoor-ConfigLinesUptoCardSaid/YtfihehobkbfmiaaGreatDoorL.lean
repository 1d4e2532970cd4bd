/- Texts of this seat, one behind another: ConfigLinesW. -/

import Derived.Test.YtfihehobkbfmiaaGreatDoorB
import Derived.Test.YtfihehobkbfmiaaGreatDoorA14
import Derived.Test.YtfihehobkbfmiaaGreatDoorA15
import Derived.Test.YtfihehobkbfmiaaGreatDoorC
/- A line of no form, put into a right config's text, is told by its number: ConfigLines returns true. -/
namespace Go.Proofs.YtfihehobkbfmiaaGreatDoor.ConfigLinesW
open Go.ChangeShapes Go.WideShapes Go.ChangeAt Go.RowKit Bytes LexPure ConfPure ConfBack ConfLines ConfMem ConfObj R14Bnd R14Name R14Vhost R14Check Ret Mem
set_option maxRecDepth 100000
set_option linter.unusedVariables false
set_option linter.unusedSimpArgs false
/-! ### lines and their ends -/
theorem count_no {l : L} (h : noB 10 l) : l.count 10 = 0 := List.count_eq_zero.2 (fun hm => h 10 hm rfl)
theorem count_text : ∀ Ls : List L, (∀ l ∈ Ls, noB 10 l) → (textL Ls).count 10 = Ls.length
  | [], _ => rfl
  | l :: Ls, h => by
    rw [textL_cons, List.count_append, List.count_cons_self, count_no (h l List.mem_cons_self), count_text Ls (fun x hx => h x (List.mem_cons_of_mem _ hx)), List.length_cons]
    omega
theorem pre_line : ∀ (Ls : List L), (∀ l ∈ Ls, noB 10 l) → ∀ (p r : L), p ++ 10 :: r = textL Ls → p ++ [10] = textL (Ls.take (p.count 10 + 1))
  | [], _, p, r, h => by
    have := congrArg List.length h
    simp [textL] at this
  | l :: Ls, hno, p, r, h => by
    rw [textL_cons] at h
    have hl := hno l List.mem_cons_self
    have done : p = l → p ++ [10] = textL ((l :: Ls).take (p.count 10 + 1)) := fun e => by
      rw [e, count_no hl]
      simp [textL]
    rcases List.append_eq_append_iff.1 h with ⟨a, h1, h2⟩ | ⟨a, h1, h2⟩
    · cases a with
      | nil => exact done (by rw [h1, List.append_nil])
      | cons x a =>
        rw [List.cons_append] at h2
        injection h2 with h2 _
        subst h2
        exact absurd rfl (hl 10 (by rw [h1]; simp))
    · cases a with
      | nil => exact done (by rw [h1, List.append_nil])
      | cons x a =>
        rw [List.cons_append] at h2
        injection h2 with h2 h3
        subst h2
        have := pre_line Ls (fun x hx => hno x (List.mem_cons_of_mem _ hx)) a r h3.symm
        rw [h1, List.count_append, List.count_cons_self, count_no hl, List.append_assoc, List.cons_append, this, Nat.zero_add, List.take_succ_cons, textL_cons]
/-- the text's beginning of a lines -/
def Cut (Ls : List L) (a : Nat) (s : ByteArray) (cut n : Nat) : Prop := cut ≤ s.size ∧ n = ((toL s).take cut).count 10 ∧ n ≤ a ∧ (n = a → (toL s).take cut = textL (Ls.take a))
theorem Cut.zero (Ls : List L) (a : Nat) (s : ByteArray) : Cut Ls a s 0 0 := ⟨Nat.zero_le _, by simp, Nat.zero_le _, fun e => by rw [← e]; simp [textL]⟩
theorem Cut.step {Ls : List L} (hno : ∀ l ∈ Ls, noB 10 l) {a : Nat} {s : ByteArray} (hs : toL s = textL Ls) {cut n : Nat} (h : Cut Ls a s cut n) (hc : cut < s.size) (hn : n < a) :
    Cut Ls a s (cut + 1) (if s[cut] = 10 then n + 1 else n) := by
  obtain ⟨h1, h2, h3, h4⟩ := h
  have ht := toL_take_succ s cut hc
  by_cases he : s[cut] = 10
  · rw [if_pos he]
    rw [he] at ht
    refine ⟨hc, ?_, hn, fun e => ?_⟩
    · rw [ht, List.count_append, h2]; simp
    · rw [ht]
      have hd : (toL s).take cut ++ 10 :: (toL s).drop (cut + 1) = textL Ls := by
        rw [← hs]
        conv => rhs; rw [← List.take_append_drop (cut + 1) (toL s), ht]
        simp
      have := pre_line Ls hno _ _ hd
      rw [← h2, e] at this
      exact this
  · rw [if_neg he]
    refine ⟨hc, ?_, h3, fun e => by omega⟩
    rw [ht, List.count_append, h2]
    simp [he]
theorem Cut.done {Ls : List L} (hno : ∀ l ∈ Ls, noB 10 l) {a : Nat} {s : ByteArray} (hs : toL s = textL Ls) (ha : a ≤ Ls.length) {cut n : Nat} (h : Cut Ls a s cut n) (he : ¬ (cut < s.size ∧ n < a)) :
    (toL s).take cut = textL (Ls.take a) ∧ (toL s).drop cut = textL (Ls.drop a) := by
  obtain ⟨h1, h2, h3, h4⟩ := h
  have hn : n = a := by
    by_cases hc : cut < s.size
    · omega
    · rw [toL_take_all s (by omega), hs, count_text Ls hno] at h2
      omega
  have e := h4 hn
  refine ⟨e, ?_⟩
  have h5 : textL (Ls.take a) ++ textL (Ls.drop a) = textL Ls := by rw [← textL_append, List.take_append_drop]
  have h6 : (toL s).take cut ++ (toL s).drop cut = textL Ls := by rw [List.take_append_drop, hs]
  rw [e] at h6
  exact List.append_cancel_left (h6.trans h5.symm)
theorem u8_10 (x : UInt8) : decide ((x.toNat : Int) = 10) = decide (x = 10) := by
  by_cases h : x = 10
  · rw [h]; rfl
  · rw [decide_eq_false h]
    refine decide_eq_false (fun e => h ?_)
    apply UInt8.toNat_inj.1
    have : (10 : UInt8).toNat = 10 := rfl
    omega
theorem bset {B : Nat} {a w : World} (h : Below B a w) {p : Addr} (hp : B ≤ p.block) (u : Value) : Below B a (w.setCell p u) :=
  ⟨h.os, h.tape, h.output, by simpa [World.setCell] using h.size, fun k hk => (Below.heap_setCell w p u k (by omega)).trans (h.block k hk)⟩
set_option maxHeartbeats 12800000 in
theorem walkIn (c : Conf) (vf vc vv : Value) (hx : FitConf c) (ai wi : Int) (ha : ai ≤ 9223372036854775807) (w : World) (hm : Fit w) (hC : CF w vf vc vv c) :
    Calls Tryz.prog 7 #[.agg (confV c vf vc vv), .int .i64 ai, .int .i64 wi] w fun e w' => e = .returned (.bool true) ∧ Below w.heap.size w w' := by
  have HAn := Lib.hid (fun w h => L14Anchor.anchor_any w h)
  have HChk := Lib.hid (fun w hC => rcheck_any c vf vc vv hx w hC)
  have HPr := Lib.hid (fun hk w hC => R14Print.rprint_any c vf vc vv hx hk w hC)
  have HB := Lib.hid (Kb.start hC)
  have HX := Lib.hid hx
  have HM := Lib.hid hm
  obtain ⟨⟨pf, cf, rfl⟩, ⟨pc, cc, rfl⟩, ⟨pv, cv, rfl⟩⟩ := R14Bnd.CF.vals hC
  obtain ⟨g, hg⟩ : ∃ g, g = w.heap.size := ⟨_, rfl⟩
  rw [← hg] at HB
  have HG := Lib.hid hg
  clear hg hx hC hm
  unfold confV at HChk HPr ⊢
  have HAll := HB.out
  unfold CT at HAll
  go_enter Tryz.func7, Tryz.ntmps7
  go_wp2_with fail
  rw [← HG.out]
  have K1 := Lib.hid HAll
  clear HB HAll
  have hb1 : Below w.heap.size w (w.alloc (.cells #[.int .i64 c.conns, .int .i64 c.body, .int .i64 c.idle, .int .i64 c.grace, .int .i64 c.budget, .int .i64 c.seed, .slice pf c.filters.length cf, .slice pc c.clusters.length cc, .slice pv c.vhosts.length cv] 26)) := HG.out ▸ K1.out.below
  unfold confV at K1
  refine (HAn.out _ (HM.out.below hb1)).mono ?_
  rintro e w2 ⟨rfl, hb2⟩
  have K2 := Lib.hid (K1.out.call hb2)
  clear K1 hb1 hb2 HAn
  have B2 := K2.out.box
  unfold confV CT at B2
  have c0 : w2.cell? ⟨g, 0, none⟩ = some (.int .i64 c.conns) := B2.cell 0
  have c1 : w2.cell? ⟨g, 1, none⟩ = some (.int .i64 c.body) := B2.cell 1
  have c2 : w2.cell? ⟨g, 2, none⟩ = some (.int .i64 c.idle) := B2.cell 2
  have c3 : w2.cell? ⟨g, 3, none⟩ = some (.int .i64 c.grace) := B2.cell 3
  have c4 : w2.cell? ⟨g, 4, none⟩ = some (.int .i64 c.budget) := B2.cell 4
  have c5 : w2.cell? ⟨g, 5, none⟩ = some (.int .i64 c.seed) := B2.cell 5
  have c6 : w2.cell? ⟨g, 6, none⟩ = some (.slice pf c.filters.length cf) := B2.cell 6
  have c7 : w2.cell? ⟨g, 7, none⟩ = some (.slice pc c.clusters.length cc) := B2.cell 7
  have c8 : w2.cell? ⟨g, 8, none⟩ = some (.slice pv c.vhosts.length cv) := B2.cell 8
  clear B2
  go_wp2_with fail
  refine (HChk.out _ K2.out.cf).mono ?_
  rintro e w3 ⟨rfl, hb3⟩
  have K3 := Lib.hid (K2.out.call hb3)
  clear K2 HChk hb3 c0 c1 c2 c3 c4 c5 c6 c7 c8
  have HE : Hid (Below w.heap.size w w3) := Lib.hid (HG.out ▸ K3.out.below)
  obtain ⟨E, hE⟩ : ∃ E, Hid (E = check14 c) := ⟨_, Lib.hid rfl⟩
  rw [← hE.out]
  by_cases h1 : ¬ E = 0
  · have q1 : (E != 0) = true := bne_iff_ne.2 h1
    clear hE
    go_wp2_with fail
    go_ret
    exact ⟨rfl, HE.out⟩
  replace h1 : E = 0 := Decidable.of_not_not h1
  have hk : check14 c = 0 := hE.out.symm.trans h1
  clear hE
  subst h1
  by_cases h2 : ai < 0
  · have q2 : decide (ai < 0) = true := decide_eq_true h2
    go_wp2_with fail
    go_ret
    exact ⟨rfl, HE.out⟩
  have q2 : decide (ai < 0) = false := decide_eq_false h2
  by_cases h3 : wi < 0
  · have q3 : decide (wi < 0) = true := decide_eq_true h3
    go_wp2_with fail
    go_ret
    exact ⟨rfl, HE.out⟩
  have q3 : decide (wi < 0) = false := decide_eq_false h3
  by_cases h4 : 5 < wi
  · have q4 : decide (5 < wi) = true := decide_eq_true h4
    go_wp2_with fail
    go_ret
    exact ⟨rfl, HE.out⟩
  have q4 : decide (5 < wi) = false := decide_eq_false h4
  obtain ⟨k, hkw⟩ : ∃ k : Nat, wi = k := ⟨wi.toNat, by omega⟩
  obtain ⟨a0, haw⟩ : ∃ a : Nat, ai = a := ⟨ai.toNat, by omega⟩
  subst hkw
  subst haw
  have hk6 : k < 6 := by omega
  have hki : (k : Int) < 6 := by omega
  have hk0 : (0 : Int) ≤ (k : Int) := by omega
  obtain ⟨b, hbm, hbc⟩ : ∃ b, b ∈ bads ∧ ∀ W : World, (W.alloc (.cells #[.string ⟨#[]⟩, .string ⟨#[118, 104, 111, 115, 116]⟩, .string ⟨#[108, 105, 115, 116, 101, 110, 32, 52, 32, 49, 48, 48, 32, 53, 48, 32, 50, 48, 32, 50, 32, 55, 32]⟩, .string ⟨#[102, 105, 108, 116, 101, 114, 32, 49, 32, 88, 45, 65, 32, 45, 32, 48, 32, 48]⟩, .string ⟨#[99, 108, 117, 115, 116, 101, 114, 32, 117, 112, 32, 49, 32, 50, 32, 49, 32, 51, 48, 32, 51, 32, 49, 48, 48]⟩, .string ⟨#[35, 32, 110, 111]⟩] 9)).cell? ⟨W.heap.size, k, none⟩ = some (.string (ofL b)) := by
    have cellS : ∀ (W : World) (cs : Array Value) (i : Nat), (W.alloc (.cells cs 9)).cell? ⟨W.heap.size, i, none⟩ = cs[i]? := fun W cs i => (Has.new W _ cs).cell i
    have hcases : k = 0 ∨ k = 1 ∨ k = 2 ∨ k = 3 ∨ k = 4 ∨ k = 5 := by omega
    rcases hcases with rfl | rfl | rfl | rfl | rfl | rfl
    · exact ⟨_, by unfold bads; exact List.mem_cons_self, fun W => by rw [cellS]; rfl⟩
    · exact ⟨_, by unfold bads; exact List.mem_cons_of_mem _ List.mem_cons_self, fun W => by rw [cellS]; rfl⟩
    · exact ⟨_, by unfold bads; exact List.mem_cons_of_mem _ (List.mem_cons_of_mem _ List.mem_cons_self), fun W => by rw [cellS]; rfl⟩
    · exact ⟨_, by unfold bads; exact List.mem_cons_of_mem _ (List.mem_cons_of_mem _ (List.mem_cons_of_mem _ List.mem_cons_self)), fun W => by rw [cellS]; rfl⟩
    · exact ⟨_, by unfold bads; exact List.mem_cons_of_mem _ (List.mem_cons_of_mem _ (List.mem_cons_of_mem _ (List.mem_cons_of_mem _ List.mem_cons_self))), fun W => by rw [cellS]; rfl⟩
    · exact ⟨_, by unfold bads; exact List.mem_cons_of_mem _ (List.mem_cons_of_mem _ (List.mem_cons_of_mem _ (List.mem_cons_of_mem _ (List.mem_cons_of_mem _ List.mem_cons_self)))), fun W => by rw [cellS]; rfl⟩
  have hb3 := hbc w3
  have K4 := Lib.hid (K3.out.call ((Below.refl _ _).alloc (Nat.le_refl _) (.cells #[.string ⟨#[]⟩, .string ⟨#[118, 104, 111, 115, 116]⟩, .string ⟨#[108, 105, 115, 116, 101, 110, 32, 52, 32, 49, 48, 48, 32, 53, 48, 32, 50, 48, 32, 50, 32, 55, 32]⟩, .string ⟨#[102, 105, 108, 116, 101, 114, 32, 49, 32, 88, 45, 65, 32, 45, 32, 48, 32, 48]⟩, .string ⟨#[99, 108, 117, 115, 116, 101, 114, 32, 117, 112, 32, 49, 32, 50, 32, 49, 32, 51, 48, 32, 51, 32, 49, 48, 48]⟩, .string ⟨#[35, 32, 110, 111]⟩] 9)))
  clear K3 HE hbc h2 h3 h4
  have B4 := K4.out.box
  unfold confV CT at B4
  have c0 := B4.cell 0
  have c1 := B4.cell 1
  have c2 := B4.cell 2
  have c3 := B4.cell 3
  have c4 := B4.cell 4
  have c5 := B4.cell 5
  have c6 := B4.cell 6
  have c7 := B4.cell 7
  have c8 := B4.cell 8
  clear B4
  go_wp2_with fail
  refine (HPr.out hk _ K4.out.cf).mono ?_
  rintro e w4 ⟨rfl, hb4⟩
  have HE : Hid (Below w.heap.size w w4) := Lib.hid (HG.out ▸ (K4.out.call hb4).below)
  clear K4 hb4 HPr c0 c1 c2 c3 c4 c5 c6 c7 c8 hb3
  have hno : ∀ l ∈ linesC c, noB 10 l := fun l hl => lines_no10 (conf_small (right_of hk)) l hl
  have hLen : (print14 c).length ≤ 90000000000 := R14Print.print_len HX.out (right_of hk)
  obtain ⟨s, hs⟩ : ∃ s, s = ofL (print14 c) := ⟨_, rfl⟩
  have hts : toL s = textL (linesC c) := by rw [hs, toL_ofL]; rfl
  have hsz : s.size ≤ 90000000000 := by rw [hs, ofL_size]; exact hLen
  have hszi : (s.size : Int) ≤ 90000000000 := by omega
  rw [← hs]
  have HNo := Lib.hid hno
  have HTs := Lib.hid hts
  have HSz := Lib.hid hsz
  have HKc := Lib.hid hk
  have HMb := Lib.hid hbm
  have HSs := Lib.hid hs
  clear hno hts hsz hk hbm hs hLen
  go_wp2_with fail
  go_loopw [10, 41] (fun n i wr => ∃ k2 m : Nat, k2 ≤ s.size ∧ m ≤ k2 ∧ i = .int .i64 k2 ∧ n = .int .i64 m ∧ Hid (m = ((toL s).take k2).count 10) ∧ wr = w4) (fun _ i _ => s.size - (intOf i).toNat)
  case atStart => exact ⟨0, 0, Nat.zero_le _, Nat.le_refl _, rfl, rfl, Lib.hid (by simp), rfl⟩
  case round =>
    obtain ⟨k2, m, hk2, hmk, rfl, rfl, HCnt, rfl⟩ := hrel
    have hmi : (m : Int) ≤ 90000000000 := by have := HSz.out; omega
    have hm0 : (0 : Int) ≤ (m : Int) := by omega
    have hk20 : (0 : Int) ≤ (k2 : Int) := by omega
    by_cases hlt : k2 < s.size
    · have hk2i : (k2 : Int) < (s.size : Int) := by omega
      have HT := Lib.hid (toL_take_succ s k2 hlt)
      by_cases he : s[k2] = 10
      · have q5 : ((s[k2].toNat : Int) == 10) = true := by rw [he]; rfl
        have HC2 : Hid (m + 1 = ((toL s).take (k2 + 1)).count 10) := Lib.hid (by rw [HT.out, he, List.count_append, ← HCnt.out]; simp)
        clear HCnt HT he
        go_wp2_with fail
        go_roundw
        case rel => exact ⟨k2 + 1, m + 1, by omega, by omega, by go_num, by go_num, HC2, trivial⟩
        case measure => simp [intOf]; omega
      · have q5 : ((s[k2].toNat : Int) == 10) = false := by
          have := u8_10 s[k2]
          rw [decide_eq_false he] at this
          exact beq_false_of_ne (of_decide_eq_false this)
        have HC2 : Hid (m = ((toL s).take (k2 + 1)).count 10) := Lib.hid (by rw [HT.out, List.count_append, ← HCnt.out]; simp [he])
        clear HCnt HT he
        go_wp2_with fail
        go_roundw
        case rel => exact ⟨k2 + 1, m, by omega, by omega, by go_num, rfl, HC2, trivial⟩
        case measure => simp [intOf]; omega
    · have hk2i : ¬ (k2 : Int) < (s.size : Int) := by omega
      obtain rfl : k2 = s.size := by omega
      have hmN : m = (linesC c).length := by
        rw [HCnt.out, toL_take_all s (Nat.le_refl _), HTs.out, count_text _ HNo.out]
      obtain ⟨a, haa⟩ : ∃ a, a = a0 % (m + 1) := ⟨_, rfl⟩
      have hal : a ≤ m := by rw [haa]; have := Nat.mod_lt a0 (show m + 1 > 0 by omega); omega
      have q6 : (a0 : Int).tmod ((m : Int) + 1) = (a : Int) := by
        rw [haa, Int.tmod_eq_emod_of_nonneg (by omega)]
        push_cast
        rfl
      have hai : (a : Int) ≤ 90000000000 := by omega
      have hai0 : (0 : Int) ≤ (a : Int) := by omega
      have HmN := Lib.hid hmN
      have HAl := Lib.hid hal
      have a0i : (0 : Int) ≤ (a0 : Int) := by omega
      clear hmN hal haa HCnt hlt
      go_wp2_with fail
      go_loopw [9, 12] (fun n i W => ∃ cut n2 : Nat, cut ≤ s.size ∧ n2 ≤ a ∧ i = .int .i64 cut ∧ n = .int .i64 n2 ∧ Hid (Cut (linesC c) a s cut n2) ∧ W = wr) (fun _ i _ => s.size - (intOf i).toNat)
      case atStart => exact ⟨0, 0, Nat.zero_le _, Nat.zero_le _, rfl, rfl, Lib.hid (Cut.zero _ _ _), rfl⟩
      case round =>
        obtain ⟨cut, n2, hcut, hn2, rfl, rfl, HC, rfl⟩ := hrel
        have hc0 : (0 : Int) ≤ (cut : Int) := by omega
        have hci : (cut : Int) ≤ (s.size : Int) := by omega
        have hn0 : (0 : Int) ≤ (n2 : Int) := by omega
        have hni : (n2 : Int) ≤ 90000000000 := by omega
        by_cases hgo : cut < s.size ∧ n2 < a
        · have hc1 : (cut : Int) < (s.size : Int) := by omega
          have d1 : decide ((cut : Int) < (s.size : Int)) = true := decide_eq_true hc1
          have d2 : decide ((n2 : Int) < (a : Int)) = true := decide_eq_true (by omega)
          have HSt := Lib.hid (Cut.step HNo.out HTs.out HC.out hgo.1 hgo.2)
          have hlt := hgo.1
          by_cases he : s[cut] = 10
          · have q5 : ((s[cut].toNat : Int) == 10) = true := by rw [he]; rfl
            rw [if_pos he] at HSt
            have hn3 : n2 + 1 ≤ a := hgo.2
            clear HC he hgo
            go_wp2_with fail
            go_roundw
            case rel => exact ⟨cut + 1, n2 + 1, by omega, by omega, by go_num, by go_num, HSt, trivial⟩
            case measure => simp [intOf]; omega
          · have q5 : ((s[cut].toNat : Int) == 10) = false := by
              have := u8_10 s[cut]
              rw [decide_eq_false he] at this
              exact beq_false_of_ne (of_decide_eq_false this)
            rw [if_neg he] at HSt
            clear HC he hgo
            have hn3 : (n2 : Int) < (a : Int) := of_decide_eq_true d2
            go_wp2_with fail
            go_roundw
            case rel => exact ⟨cut + 1, n2, by omega, by omega, by go_num, rfl, HSt, trivial⟩
            case measure => simp [intOf]; omega
        · have HDn := Lib.hid (Cut.done HNo.out HTs.out (by rw [← HmN.out]; exact HAl.out) HC.out hgo)
          have ha1 : a ≤ (linesC c).length := by rw [← HmN.out]; exact HAl.out
          have HMe := Lib.hid (Int.natCast_inj.2 HmN.out : (m : Int) = ((linesC c).length : Int))
          have z1 : (s.extract 0 cut).size ≤ 90000000000 := by rw [ByteArray.size_extract]; omega
          have z2 : (s.extract cut s.size).size ≤ 90000000000 := by rw [ByteArray.size_extract]; have := HSz.out; omega
          have z3 : (ofL b).size ≤ 100 := by
            rw [ofL_size]
            have : ∀ x ∈ bads, x.length ≤ 100 := by decide
            exact this b HMb.out
          obtain ⟨X1, hX1⟩ : ∃ X, X = s.extract 0 cut := ⟨_, rfl⟩
          obtain ⟨X2, hX2⟩ : ∃ X, X = s.extract cut s.size := ⟨_, rfl⟩
          have e1 : toL X1 = textL ((linesC c).take a) := by rw [hX1, toL_extract, List.drop_zero]; exact HDn.out.1
          have e2 : toL X2 = textL ((linesC c).drop a) := by rw [hX2, toL_extract, toL_take_all s (Nat.le_refl _)]; exact HDn.out.2
          have hTt : toL (X1 ++ ofL b ++ ⟨#[10]⟩ ++ X2) = textL ((linesC c).take a) ++ b ++ 10 :: textL ((linesC c).drop a) := by
            rw [← e1, ← e2]
            conv => rhs; rw [← toL_ofL b]
            simp [toL]
          have hpa : parse14 (toL (X1 ++ ofL b ++ ⟨#[10]⟩ ++ X2)) = (zeroC, (a : Int), 140) := by
            rw [hTt]
            exact lines14 HKc.out HMb.out ha1
          have hTs : (X1 ++ ofL b ++ ⟨#[10]⟩ ++ X2).size ≤ 274877906944 := by
            rw [ByteArray.size_append, ByteArray.size_append, ByteArray.size_append, hX1, hX2]
            have : (⟨#[10]⟩ : ByteArray).size = 1 := rfl
            omega
          have HP := Lib.hid (fun w h => pparse_any _ hTs (fit_of hpa (.inr rfl) (fun e => absurd e (by decide))) w h)
          rw [hpa] at HP
          have hpl : parse14 (toL (s.extract 0 (s.size - 1))) = (zeroC, (m : Int) - 1, 140) := by
            have h5 := last14 HKc.out
            rw [toL_extract, List.drop_zero, HMe.out, ← h5]
            have h6 : toL s = print14 c := by rw [HSs.out, toL_ofL]
            rw [← h6, toL_length]
          have hXl : (s.extract 0 (s.size - 1)).size ≤ 274877906944 := by rw [ByteArray.size_extract]; have := HSz.out; omega
          have HP2 := Lib.hid (fun w h => pparse_any _ hXl (fit_of hpl (.inr rfl) (fun e => absurd e (by decide))) w h)
          rw [hpl] at HP2
          have hs1 : 1 ≤ s.size := by
            have h6 := congrArg List.length HTs.out
            rw [toL_length] at h6
            unfold linesC at h6
            rw [textL_cons, List.length_append, List.length_cons] at h6
            omega
          have hs1i : (1 : Int) ≤ (s.size : Int) := by omega
          have HZ := Lib.hid HE.out.size
          have hLt : ((s.size : Int) - 1).toNat = s.size - 1 := by omega
          dsimp only at HP HP2
          unfold confV zeroC at HP HP2
          rw [← hX1] at z1
          rw [← hX2] at z2
          have hE1 : s.extract 0 cut = X1 := hX1.symm
          have hE2 : s.extract cut s.size = X2 := hX2.symm
          generalize ofL b = Bb at *
          have t1 : ¬ (9223372036854775807 < X1.size + Bb.size) := by omega
          have t2 : ¬ (9223372036854775807 < X1.size + Bb.size + 1) := by omega
          have t3 : ¬ (9223372036854775807 < X1.size + Bb.size + 1 + X2.size) := by omega
          have hF : Fit wr := HM.out.below HE.out
          have HFit := Lib.hid hF
          have hc5 : (cut : Int) < (s.size : Int) ∨ ¬ (cut : Int) < (s.size : Int) := Decidable.em _
          have hnb : (cut : Int) < (s.size : Int) → ¬ (n2 : Int) < (a : Int) := fun h e => hgo ⟨by omega, by omega⟩
          have q9 : ((a : Int) != (a : Int)) = false := bne_self_eq_false _
          have q10 : (((m : Int) - 1) == ((m : Int) - 1)) = true := beq_self_eq_true _
          clear HC hgo e1 e2 hTt hpa hTs hpl hXl hX1 hX2 z1 z2 z3 ha1 hF
          rcases hc5 with d1 | d1
          · have d2 := hnb d1
            clear hnb
            go_wp2_with fail
            go_region_held3 (fun w' => True) (trivial)
              (first
                | (go_at_call 13; refine Calls.mono (HP.out _ ?_) ?_; · exact HM.out.below (by first | exact below_drew HE.out | exact (below_drew HE.out).alloc (below_drew HE.out).size _)
                   rintro e w5 ⟨vf5, vc5, vv5, rfl, hC5, hb5⟩; obtain ⟨⟨pf5, cf5, rfl⟩, ⟨pc5, cc5, rfl⟩, ⟨pv5, cv5, rfl⟩⟩ := R14Bnd.CF.vals hC5
                   try (have HR5 := (Has.new wr.drew 26 #[.int .i64 0, .int .i64 0, .int .i64 0, .int .i64 0, .int .i64 0, .int .i64 0, .slice none 0 0, .slice none 0 0, .slice none 0 0]).below hb5 (by simp); have k0 : w5.cell? ⟨wr.heap.size, 0, none⟩ = some (.int .i64 0) := HR5.cell 0; have r0 : w5.frozen? ⟨wr.heap.size, 0, none⟩ = false := HR5.free 0; have k1 : w5.cell? ⟨wr.heap.size, 1, none⟩ = some (.int .i64 0) := HR5.cell 1; have r1 : w5.frozen? ⟨wr.heap.size, 1, none⟩ = false := HR5.free 1; have k2 : w5.cell? ⟨wr.heap.size, 2, none⟩ = some (.int .i64 0) := HR5.cell 2; have r2 : w5.frozen? ⟨wr.heap.size, 2, none⟩ = false := HR5.free 2; have k3 : w5.cell? ⟨wr.heap.size, 3, none⟩ = some (.int .i64 0) := HR5.cell 3; have r3 : w5.frozen? ⟨wr.heap.size, 3, none⟩ = false := HR5.free 3; have k4 : w5.cell? ⟨wr.heap.size, 4, none⟩ = some (.int .i64 0) := HR5.cell 4; have r4 : w5.frozen? ⟨wr.heap.size, 4, none⟩ = false := HR5.free 4; have k5 : w5.cell? ⟨wr.heap.size, 5, none⟩ = some (.int .i64 0) := HR5.cell 5; have r5 : w5.frozen? ⟨wr.heap.size, 5, none⟩ = false := HR5.free 5; have k6 : w5.cell? ⟨wr.heap.size, 6, none⟩ = some (.slice none 0 0) := HR5.cell 6; have r6 : w5.frozen? ⟨wr.heap.size, 6, none⟩ = false := HR5.free 6; have k7 : w5.cell? ⟨wr.heap.size, 7, none⟩ = some (.slice none 0 0) := HR5.cell 7; have r7 : w5.frozen? ⟨wr.heap.size, 7, none⟩ = false := HR5.free 7; have k8 : w5.cell? ⟨wr.heap.size, 8, none⟩ = some (.slice none 0 0) := HR5.cell 8; have r8 : w5.frozen? ⟨wr.heap.size, 8, none⟩ = false := HR5.free 8; skip)
                   first | have HW5 := Lib.hid (below_chain (below_drew HE.out) hb5) | have HW5 := Lib.hid (below_chain ((below_drew HE.out).alloc (below_drew HE.out).size _) hb5)))
            · clear HP
              go_wp2_with fail
              refine Calls.mono (HP2.out _ (HM.out.below ?_)) ?_
              · exact HW5.out.alloc HW5.out.size _
              rintro e w6 ⟨vf6, vc6, vv6, rfl, hC6, hb6⟩
              obtain ⟨⟨pf6, cf6, rfl⟩, ⟨pc6, cc6, rfl⟩, ⟨pv6, cv6, rfl⟩⟩ := R14Bnd.CF.vals hC6
              have HF6 : Hid (Below w.heap.size w w6) := Lib.hid (by
                refine below_chain ?_ hb6
                exact HW5.out.alloc HW5.out.size _)
              clear hb6 hC6 hC5 hb5 HP2
              go_wp2_with fail
              go_ret
              exact ⟨rfl, HF6.out⟩
            · clear HP
              go_wp2_with fail
              refine Calls.mono (HP2.out _ (HM.out.below ?_)) ?_
              · exact bset (bset (bset (bset (bset (bset (bset (bset (bset HW5.out HZ.out _) HZ.out _) HZ.out _) HZ.out _) HZ.out _) HZ.out _) HZ.out _) HZ.out _) HZ.out _
              rintro e w6 ⟨vf6, vc6, vv6, rfl, hC6, hb6⟩
              obtain ⟨⟨pf6, cf6, rfl⟩, ⟨pc6, cc6, rfl⟩, ⟨pv6, cv6, rfl⟩⟩ := R14Bnd.CF.vals hC6
              have HF6 : Hid (Below w.heap.size w w6) := Lib.hid (by
                refine below_chain ?_ hb6
                exact bset (bset (bset (bset (bset (bset (bset (bset (bset HW5.out HZ.out _) HZ.out _) HZ.out _) HZ.out _) HZ.out _) HZ.out _) HZ.out _) HZ.out _) HZ.out _)
              clear hb6 hC6 hC5 hb5 HP2
              go_wp2_with fail
              go_ret
              exact ⟨rfl, HF6.out⟩
          · clear hnb
            go_wp2_with fail
            go_region_held3 (fun w' => True) (trivial)
              (first
                | (go_at_call 13; refine Calls.mono (HP.out _ ?_) ?_; · exact HM.out.below (by first | exact below_drew HE.out | exact (below_drew HE.out).alloc (below_drew HE.out).size _)
                   rintro e w5 ⟨vf5, vc5, vv5, rfl, hC5, hb5⟩; obtain ⟨⟨pf5, cf5, rfl⟩, ⟨pc5, cc5, rfl⟩, ⟨pv5, cv5, rfl⟩⟩ := R14Bnd.CF.vals hC5
                   try (have HR5 := (Has.new wr.drew 26 #[.int .i64 0, .int .i64 0, .int .i64 0, .int .i64 0, .int .i64 0, .int .i64 0, .slice none 0 0, .slice none 0 0, .slice none 0 0]).below hb5 (by simp); have k0 : w5.cell? ⟨wr.heap.size, 0, none⟩ = some (.int .i64 0) := HR5.cell 0; have r0 : w5.frozen? ⟨wr.heap.size, 0, none⟩ = false := HR5.free 0; have k1 : w5.cell? ⟨wr.heap.size, 1, none⟩ = some (.int .i64 0) := HR5.cell 1; have r1 : w5.frozen? ⟨wr.heap.size, 1, none⟩ = false := HR5.free 1; have k2 : w5.cell? ⟨wr.heap.size, 2, none⟩ = some (.int .i64 0) := HR5.cell 2; have r2 : w5.frozen? ⟨wr.heap.size, 2, none⟩ = false := HR5.free 2; have k3 : w5.cell? ⟨wr.heap.size, 3, none⟩ = some (.int .i64 0) := HR5.cell 3; have r3 : w5.frozen? ⟨wr.heap.size, 3, none⟩ = false := HR5.free 3; have k4 : w5.cell? ⟨wr.heap.size, 4, none⟩ = some (.int .i64 0) := HR5.cell 4; have r4 : w5.frozen? ⟨wr.heap.size, 4, none⟩ = false := HR5.free 4; have k5 : w5.cell? ⟨wr.heap.size, 5, none⟩ = some (.int .i64 0) := HR5.cell 5; have r5 : w5.frozen? ⟨wr.heap.size, 5, none⟩ = false := HR5.free 5; have k6 : w5.cell? ⟨wr.heap.size, 6, none⟩ = some (.slice none 0 0) := HR5.cell 6; have r6 : w5.frozen? ⟨wr.heap.size, 6, none⟩ = false := HR5.free 6; have k7 : w5.cell? ⟨wr.heap.size, 7, none⟩ = some (.slice none 0 0) := HR5.cell 7; have r7 : w5.frozen? ⟨wr.heap.size, 7, none⟩ = false := HR5.free 7; have k8 : w5.cell? ⟨wr.heap.size, 8, none⟩ = some (.slice none 0 0) := HR5.cell 8; have r8 : w5.frozen? ⟨wr.heap.size, 8, none⟩ = false := HR5.free 8; skip)
                   first | have HW5 := Lib.hid (below_chain (below_drew HE.out) hb5) | have HW5 := Lib.hid (below_chain ((below_drew HE.out).alloc (below_drew HE.out).size _) hb5)))
            · clear HP
              go_wp2_with fail
              refine Calls.mono (HP2.out _ (HM.out.below ?_)) ?_
              · exact HW5.out.alloc HW5.out.size _
              rintro e w6 ⟨vf6, vc6, vv6, rfl, hC6, hb6⟩
              obtain ⟨⟨pf6, cf6, rfl⟩, ⟨pc6, cc6, rfl⟩, ⟨pv6, cv6, rfl⟩⟩ := R14Bnd.CF.vals hC6
              have HF6 : Hid (Below w.heap.size w w6) := Lib.hid (by
                refine below_chain ?_ hb6
                exact HW5.out.alloc HW5.out.size _)
              clear hb6 hC6 hC5 hb5 HP2
              go_wp2_with fail
              go_ret
              exact ⟨rfl, HF6.out⟩
            · clear HP
              go_wp2_with fail
              refine Calls.mono (HP2.out _ (HM.out.below ?_)) ?_
              · exact bset (bset (bset (bset (bset (bset (bset (bset (bset HW5.out HZ.out _) HZ.out _) HZ.out _) HZ.out _) HZ.out _) HZ.out _) HZ.out _) HZ.out _) HZ.out _
              rintro e w6 ⟨vf6, vc6, vv6, rfl, hC6, hb6⟩
              obtain ⟨⟨pf6, cf6, rfl⟩, ⟨pc6, cc6, rfl⟩, ⟨pv6, cv6, rfl⟩⟩ := R14Bnd.CF.vals hC6
              have HF6 : Hid (Below w.heap.size w w6) := Lib.hid (by
                refine below_chain ?_ hb6
                exact bset (bset (bset (bset (bset (bset (bset (bset (bset HW5.out HZ.out _) HZ.out _) HZ.out _) HZ.out _) HZ.out _) HZ.out _) HZ.out _) HZ.out _) HZ.out _)
              clear hb6 hC6 hC5 hb5 HP2
              go_wp2_with fail
              go_ret
              exact ⟨rfl, HF6.out⟩
theorem walk {H : Type} {enc : TypeId × Value → H} {W : World} {base : Nat} (v : Value) (d : DataW H) (p : List MemPlace) (hv : Value.okWide Tryz.prog W .any base 26 v)
    (hd : DataW.Trod enc Tryz.prog W 0 (fun _ => true) true 26 v d p) (hl : ∀ x ∈ p, x.block < W.heap.size) (hb : Rows.uptoBulk d ≤ 1048576)
    (a1 : Int) (w1 : (Lit.int .i64 a1).wf = true) (a2 : Int) (w2 : (Lit.int .i64 a2).wf = true) (hsh : W.ShapedOpen Tryz.prog) (hlaid : laidMetH Tryz.prog Rows.configLinesUptoRow.laid W) :
    Calls Tryz.prog 7 #[v, .int .i64 a1, .int .i64 a2] W fun e w' => e = .returned (.bool true) ∧ Below W.heap.size W w' := by
  obtain ⟨c, vf, vc, vv, rfl, hC, hx⟩ := ConfArg.conf_arg hv hd hb
  exact walkIn c vf vc vv hx a1 a2 (ConfArg.wf_in w1).2 W (Fit.of hsh (ConfObj.pow_of_laid rfl hlaid)) hC
end Go.Proofs.YtfihehobkbfmiaaGreatDoor.ConfigLinesW
