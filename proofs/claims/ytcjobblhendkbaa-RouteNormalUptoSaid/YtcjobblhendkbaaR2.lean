/- Texts of this seat, one behind another: RAuth, R13Dig, R14Host, R14Clus, R14Rout. -/
import Derived.Laws.DeepStrings4
import Derived.Lib.Hide
import Derived.Below
import Derived.Outline
import Derived.LoopTactic
import Derived.Handy
import Derived.Deep.RegionWith
import Derived.Deep.RegionHeld3
import Derived.IntWalk
import Derived.BigQuiet
import Derived.Test.YtcjobblhendkbaaR1
import Derived.Test.YtcjobblhendkbaaA2
import Derived.Test.YtcjobblhendkbaaA1
/- Layer 6, the document's own Authority. -/
namespace Go.Proofs.Ytcjobblhendkbaa.RAuth
open Go.ChangeShapes Go.WideShapes Go.ChangeAt Go.RowKit LexPure Bytes Ret CutAt LexNum HostPure RHostPure RHost RLower RDecimal Mem
set_option maxRecDepth 20000
theorem end_none {s : ByteArray} {x : UInt8} {k : Nat} (hk : k = s.size) (ha : ((toL s).take k).all (fun c => c != x) = true) : aheadOf x (toL s) = (toL s).take k ∧ behind x (toL s) = [] ∧ hasB x (toL s) = false := by
  rw [toL_take_all s (by omega)] at ha ⊢
  have h' : ∀ a ∈ toL s, (a != x) = true := List.all_eq_true.1 ha
  refine ⟨?_, ?_, ?_⟩
  · have := List.takeWhile_append_of_pos (l₂ := []) h'
    rw [List.append_nil] at this
    unfold aheadOf
    rw [this]
    simp
  · have := List.dropWhile_append_of_pos (l₂ := []) h'
    rw [List.append_nil] at this
    unfold behind
    rw [this]
    rfl
  · unfold hasB
    rw [List.any_eq_false]
    intro a hm
    simpa using h' a hm
theorem end_some {s : ByteArray} {x : UInt8} {k : Nat} (hk : k < s.size) (hx : s[k] = x) (ha : ((toL s).take k).all (fun c => c != x) = true) : aheadOf x (toL s) = (toL s).take k ∧ behind x (toL s) = (toL s).drop (k + 1) ∧ hasB x (toL s) = true := by
  have h' : ∀ a ∈ (toL s).take k, (a != x) = true := List.all_eq_true.1 ha
  have hs : toL s = (toL s).take k ++ x :: (toL s).drop (k + 1) := by
    have := toL_drop s k hk
    rw [hx] at this
    rw [← this, List.take_append_drop]
  generalize (toL s).take k = A at *
  generalize (toL s).drop (k + 1) = B at *
  rw [hs]
  refine ⟨?_, ?_, ?_⟩
  · unfold aheadOf
    rw [List.takeWhile_append_of_pos h', List.takeWhile_cons]
    simp
  · unfold behind
    rw [List.dropWhile_append_of_pos h', List.dropWhile_cons]
    simp
  · unfold hasB
    simp
theorem numR_ge (b : Nat) (d : Int) (s : List UInt8) : 0 ≤ numR b d s := by
  unfold numR
  split
  · omega
  · exact Int.le_refl _
theorem x_cases (x b : UInt8) : (b = x ∧ ((b.toNat : Int) != (x.toNat : Int)) = false) ∨ (b ≠ x ∧ ((b.toNat : Int) != (x.toNat : Int)) = true) := by
  by_cases h : b = x
  · left; subst h; exact ⟨rfl, by simp⟩
  · right
    refine ⟨h, bne_iff_ne.2 (fun e => h (UInt8.toNat_inj.1 (by exact_mod_cast e)))⟩
def oH : Option (List UInt8 × Int) → List UInt8 | some (h, _) => h | none => []
def oP : Option (List UInt8 × Int) → Int | some (_, p) => p | none => 0
def oE : Option (List UInt8 × Int) → Int | some _ => 0 | none => 61
theorem auth_of (s : List UInt8) : authH s = oH (authO s) ∧ authP s = oP (authO s) ∧ authE s = oE (authO s) := by
  unfold authH authP authE oH oP oE
  cases authO s with
  | none => exact ⟨rfl, rfl, rfl⟩
  | some p => exact ⟨rfl, rfl, rfl⟩
set_option maxHeartbeats 1600000 in
theorem rauth_any (s : ByteArray) (hs : s.size ≤ 140737488351232) (w : World) :
    Calls Try.prog 47 #[.string s] w fun e w' => e = .returned (.tuple #[.string (ofL (authH (toL s))), .int .i64 (authP (toL s)), .int .i64 (authE (toL s))]) ∧ Below w.heap.size w w' := by
  obtain ⟨v1, v2, v3⟩ := auth_of (toL s)
  rw [v1, v2, v3]
  clear v1 v2 v3
  obtain ⟨x, hx2⟩ : ∃ x, x = authO (toL s) := ⟨_, rfl⟩
  rw [← hx2]
  have HX := Lib.hid hx2
  clear hx2
  go_enter Try.func47, Try.ntmps47
  go_wp2_with fail
  go_loop [5] (fun i => ∃ k : Nat, k ≤ s.size ∧ i = .int .i64 k ∧ Hid (((toL s).take k).all (fun c => c != 58) = true)) (fun i => s.size - (intOf i).toNat)
  case atStart => exact ⟨0, Nat.zero_le _, rfl, Lib.hid rfl⟩
  case round =>
    obtain ⟨k, hk, rfl, ha⟩ := hrel
    by_cases hlt : k < s.size
    · have hki : (k : Int) < (s.size : Int) := by omega
      have HT := Lib.hid (toL_take_succ s k hlt)
      rcases x_cases 58 s[k] with ⟨hx, hq⟩ | ⟨hx, hq⟩
      · rw [show ((58 : UInt8).toNat : Int) = 58 from rfl] at hq
        obtain ⟨a1, a2, a3⟩ := end_some hlt hx ha.out
        have HL := Lib.hid (fun w => rlower_any (s.extract 0 k) (by rw [ByteArray.size_extract]; omega) w)
        have HH := Lib.hid (fun w => rhost_any (ofL (lower (aheadOf 58 (toL s)))) (by rw [ofL_size, lower_length, a1, List.length_take, toL_length]; omega) w)
        have HD := Lib.hid (fun w => rdecimal_any (s.extract (k + 1) s.size) (by rw [ByteArray.size_extract]; unfold maxLen; omega) 5 w)
        rw [toL_extract, List.drop_zero, ← a1] at HL
        rw [toL_ofL, rhost_lower, host_lower] at HH
        rw [toL_extract, List.take_of_length_le (by rw [toL_length]; exact Nat.le_refl _), ← a2, show min (5 : Int) 18 = 5 from rfl] at HD
        have ne : ((k : Int) == (s.size : Int)) = false := beq_eq_false_iff_ne.2 (by omega)
        have c1 : (k : Int) + 1 ≤ (s.size : Int) := by omega
        have c2 : (0 : Int) ≤ (k : Int) + 1 := by omega
        have c3 : (k : Int) ≤ (s.size : Int) := by omega
        clear HT hx ha a1 a2
        have HY : Hid (x = if host (aheadOf 58 (toL s)) then (if portOk (behind 58 (toL s)) then some (lower (aheadOf 58 (toL s)), numR 10 5 (behind 58 (toL s))) else none) else none) := Lib.hid (by
          rw [HX.out]
          unfold authO
          rw [a3]
          rfl)
        clear a3 HX
        cases hh : host (aheadOf 58 (toL s))
        · have hr : x = none := by rw [HY.out, hh]; rfl
          rw [hh] at HH
          subst hr
          clear HY hh HD
          generalize ofL (lower (aheadOf 58 (toL s))) = L at *
          go_wp2_with fail
          refine (HL.out _).mono ?_
          rintro e w1 ⟨rfl, hb1⟩
          go_wp2_with fail
          refine (HH.out _).mono ?_
          rintro e w2 ⟨rfl, rfl⟩
          go_wp2_with fail
          go_ret3
          exact ⟨rfl, hb1⟩
        · rw [hh] at HH
          cases hp : portOk (behind 58 (toL s))
          · have hr : x = none := by rw [HY.out, hh, hp]; rfl
            subst hr
            have hc : numOk 10 5 (behind 58 (toL s)) = false ∨ (numOk 10 5 (behind 58 (toL s)) = true ∧ numR 10 5 (behind 58 (toL s)) = 0) ∨ (numOk 10 5 (behind 58 (toL s)) = true ∧ (numR 10 5 (behind 58 (toL s)) == 0) = false ∧ 65535 < numR 10 5 (behind 58 (toL s))) := by
              have hge := numR_ge 10 5 (behind 58 (toL s))
              unfold portOk at hp
              cases h : numOk 10 5 (behind 58 (toL s))
              · exact .inl rfl
              · right
                rw [h] at hp
                rcases Int.lt_or_le (numR 10 5 (behind 58 (toL s))) 1 with h2 | h2
                · exact .inl ⟨rfl, by omega⟩
                · rcases Int.lt_or_le 65535 (numR 10 5 (behind 58 (toL s))) with h3 | h3
                  · exact .inr ⟨rfl, beq_eq_false_iff_ne.2 (by omega), h3⟩
                  · rw [decide_eq_true h2, decide_eq_true h3] at hp
                    cases hp
            clear HY hh hp
            rcases hc with h1 | ⟨h1, h2⟩ | ⟨h1, h2, h3⟩
            · rw [h1] at HD
              clear h1
              generalize ofL (lower (aheadOf 58 (toL s))) = L at *
              generalize numR 10 5 (behind 58 (toL s)) = n at *
              go_wp2_with fail
              refine (HL.out _).mono ?_
              rintro e w1 ⟨rfl, hb1⟩
              go_wp2_with fail
              refine (HH.out _).mono ?_
              rintro e w2 ⟨rfl, rfl⟩
              go_wp2_with fail
              refine (HD.out _).mono ?_
              rintro e w3 ⟨rfl, rfl⟩
              go_wp2_with fail
              go_ret3
              exact ⟨rfl, hb1⟩
            · rw [h1, h2] at HD
              clear h1 h2
              generalize ofL (lower (aheadOf 58 (toL s))) = L at *
              go_wp2_with fail
              refine (HL.out _).mono ?_
              rintro e w1 ⟨rfl, hb1⟩
              go_wp2_with fail
              refine (HH.out _).mono ?_
              rintro e w2 ⟨rfl, rfl⟩
              go_wp2_with fail
              refine (HD.out _).mono ?_
              rintro e w3 ⟨rfl, rfl⟩
              go_wp2_with fail
              go_ret3
              exact ⟨rfl, hb1⟩
            · rw [h1] at HD
              clear h1
              generalize ofL (lower (aheadOf 58 (toL s))) = L at *
              generalize numR 10 5 (behind 58 (toL s)) = n at *
              go_wp2_with fail
              refine (HL.out _).mono ?_
              rintro e w1 ⟨rfl, hb1⟩
              go_wp2_with fail
              refine (HH.out _).mono ?_
              rintro e w2 ⟨rfl, rfl⟩
              go_wp2_with fail
              refine (HD.out _).mono ?_
              rintro e w3 ⟨rfl, rfl⟩
              go_wp2_with fail
              go_ret3
              exact ⟨rfl, hb1⟩
          · have hr : x = some (lower (aheadOf 58 (toL s)), numR 10 5 (behind 58 (toL s))) := by rw [HY.out, hh, hp]; rfl
            subst hr
            unfold portOk at hp
            simp only [Bool.and_eq_true, decide_eq_true_eq] at hp
            obtain ⟨⟨p1, p2⟩, p3⟩ := hp
            rw [p1] at HD
            have p4 : (numR 10 5 (behind 58 (toL s)) == 0) = false := beq_eq_false_iff_ne.2 (by omega)
            clear HY hh p1
            go_wp2_with fail
            refine (HL.out _).mono ?_
            rintro e w1 ⟨rfl, hb1⟩
            go_wp2_with fail
            refine (HH.out _).mono ?_
            rintro e w2 ⟨rfl, rfl⟩
            go_wp2_with fail
            refine (HD.out _).mono ?_
            rintro e w3 ⟨rfl, rfl⟩
            go_wp2_with fail
            go_ret3
            exact ⟨rfl, hb1⟩
      · rw [show ((58 : UInt8).toNat : Int) = 58 from rfl] at hq
        have HA : Hid (((toL s).take (k + 1)).all (fun c => c != 58) = true) := Lib.hid (by rw [HT.out, List.all_append, ha.out]; simp [hx])
        clear HT ha hx
        go_wp2_with fail
        go_round
        case rel => exact ⟨k + 1, by omega, by go_num, HA⟩
        case measure => simp [intOf]; omega
    · obtain ⟨a1, a2, a3⟩ := end_none (s := s) (x := 58) (k := k) (by omega) ha.out
      have HL := Lib.hid (fun w => rlower_any (s.extract 0 k) (by rw [ByteArray.size_extract]; omega) w)
      have HH := Lib.hid (fun w => rhost_any (ofL (lower (aheadOf 58 (toL s)))) (by rw [ofL_size, lower_length, a1, List.length_take, toL_length]; omega) w)
      rw [toL_extract, List.drop_zero, ← a1] at HL
      rw [toL_ofL, rhost_lower, host_lower] at HH
      have HKS : Hid (k = s.size) := Lib.hid (by omega)
      obtain ⟨eb, heb, e1⟩ : ∃ eb : Bool, Hid (eb = true) ∧ ((k : Int) == (s.size : Int)) = eb := ⟨true, Lib.hid rfl, by rw [beq_iff_eq]; omega⟩
      have c3 : (k : Int) ≤ (s.size : Int) := by omega
      have c4 : ¬ (k : Int) < (s.size : Int) := by omega
      have HY : Hid (x = if host (aheadOf 58 (toL s)) then some (lower (aheadOf 58 (toL s)), 0) else none) := Lib.hid (by
        rw [HX.out]
        unfold authO
        rw [a3]
        rfl)
      clear a1 a2 a3 ha hlt HKS
      cases hh : host (aheadOf 58 (toL s))
      · have hr : x = none := by rw [HY.out, hh]; rfl
        rw [hh] at HH
        subst hr
        clear HY hh HX
        go_wp2_with fail
        refine (HL.out _).mono ?_
        rintro e w1 ⟨rfl, hb1⟩
        go_wp2_with fail
        refine (HH.out _).mono ?_
        rintro e w2 ⟨rfl, rfl⟩
        go_wp2_with fail
        go_ret3
        exact ⟨rfl, hb1⟩
      · have hr : x = some (lower (aheadOf 58 (toL s)), 0) := by rw [HY.out, hh]; rfl
        rw [hh] at HH
        subst hr
        clear HY hh HX
        go_wp2_with fail
        refine (HL.out _).mono ?_
        rintro e w1 ⟨rfl, hb1⟩
        go_wp2_with fail
        refine (HH.out _).mono ?_
        rintro e w2 ⟨rfl, rfl⟩
        obtain rfl := heb.out
        go_wp2_with fail
        go_ret3
        exact ⟨rfl, hb1⟩
end Go.Proofs.Ytcjobblhendkbaa.RAuth

/- The document's layer 13: Digits. -/
namespace Go.Proofs.Ytcjobblhendkbaa.R13Dig
open Go.ChangeShapes Go.WideShapes Go.ChangeAt Go.RowKit Bytes LexPure Ret DecN Mem EmitPure
set_option maxRecDepth 20000
theorem conv_one (W : World) (g : Nat) (c : UInt8) (x : Int) (hx : x = (c.toNat : Int)) (h : W.cell? ⟨g, 0, none⟩ = some (.int .u8 x)) :
    (Go.convert 64 9 (.slice (some ⟨g, 0, none⟩) 1 1)).run Try.prog W = .ok (.string (ofL [c])) W :=
  run_convert_bytes_back _ 64 9 5 ⟨g, 0, none⟩ 1 [c] Try.underlying64 Try.underlying5 Try.underlying9 (fun j hj => by
    match j, hj with
    | 0, _ =>
      rw [show (⟨g, 0, none⟩ : Addr).add 0 = ⟨g, 0, none⟩ by unfold Addr.add; simp, h, hx]
      rfl)
theorem decB_int {n : Nat} (h : n < 10) : ((decB n).toNat : Int) = 48 + (n : Int) := by
  have : ∀ n : Fin 10, ((decB n.1).toNat : Int) = 48 + (n.1 : Int) := by decide
  exact this ⟨n, h⟩
theorem lt_cell {W : World} {g : Nat} {v : Value} (h : W.cell? ⟨g, 0, none⟩ = some v) : g < W.heap.size := World.block_lt_of_cell? _ _ h
set_option maxHeartbeats 1600000 in
theorem digits_pos (n : Nat) : ∀ (_hn : n ≤ 9223372036854775807) (w : World),
    Calls Try.prog 48 #[.int .i64 n] w fun e w' => e = .returned (.string (ofL (decN n))) ∧ Below w.heap.size w w' := by
  induction n using Nat.strongRecOn with
  | ind n ih =>
    intro hn w
    by_cases h : n < 10
    · have hi : (n : Int) < 10 := by omega
      have h0 : (0 : Int) ≤ (n : Int) := by omega
      have HC := conv_one (w.alloc (.cells #[.int .u8 (48 + (n : Int))] 5)) w.heap.size (decB n) (48 + n) (decB_int h).symm ((Has.new w _ _).cell 0)
      have HV : Hid (decN n = [decB n]) := Lib.hid (decN_small h)
      clear ih
      go_enter Try.func48, Try.ntmps48
      go_wp2_with fail
      go_ret
      exact ⟨by rw [HV.out]; rfl, (Below.refl _ _).alloc (Nat.le_refl _) _⟩
    · have hi : ¬ (n : Int) < 10 := by omega
      have qe : IntKind.i64.wrap ((n : Int) / 10) = ((n / 10 : Nat) : Int) := by rw [IntWalk.i64_in _ (by omega)]; omega
      have HI := fun w => ih (n / 10) (by omega) (by omega) w
      rw [← qe] at HI
      replace HI := Lib.hid HI
      have HV : Hid (ofL (decN n) = ofL (decN (n / 10)) ++ ofL [decB (n % 10)]) := Lib.hid (by
        apply toL_inj
        rw [toL_append, toL_ofL, toL_ofL, toL_ofL, decN_more h])
      have hl : (ofL (decN (n / 10))).size ≤ 20 := by
        rw [ofL_size]
        have := decN_len 18 (n / 10) (by omega)
        omega
      clear qe
      have hsz : (ofL (decN (n / 10))).size + (ofL [decB (n % 10)]).size ≤ 9223372036854775807 := by rw [ofL_size [decB (n % 10)], List.length_singleton]; omega
      have q3 : IntKind.u8.wrap (IntKind.i64.wrap (48 + (n : Int).tmod 10)) = ((decB (n % 10)).toNat : Int) := by
        rw [Int.tmod_eq_emod_of_nonneg (by omega), decB_int (by omega), IntWalk.i64_in _ (by omega), IntKind.wrap_u8]
        omega
      have HCa := fun (W : World) => conv_one (W.alloc (.cells #[.int .u8 (IntKind.u8.wrap (IntKind.i64.wrap (48 + (n : Int).tmod 10)))] 5)) W.heap.size (decB (n % 10)) _ q3 ((Has.new W _ _).cell 0)
      have HCc := fun (W : World) (g : Nat) => conv_one W g (decB (n % 10)) _ q3
      clear q3
      go_enter Try.func48, Try.ntmps48
      go_wp2_with fail
      go_region_with (go_at_call 48; refine (HI.out _).mono ?_; rintro e w1 ⟨rfl, hb1⟩; have hcb := fun h => HCc w1 w.heap.size ((hb1.cell (p := ⟨w.heap.size, 0, none⟩) (lt_cell h)).trans h))
      all_goals
        replace hb1 := Lib.hid hb1
        clear HCa HCc hcb HI ih hsz
        go_wp2_with fail
        go_ret
        refine ⟨by rw [HV.out]; rfl, ?_⟩
        first
          | exact (below_chain (Below.drew (Below.refl _ _)) hb1.out).alloc (Nat.le_trans (Nat.le_refl _) hb1.out.size) _
          | exact below_chain (Below.alloc (Below.drew (Below.refl _ _)) (Nat.le_refl _) _) hb1.out
set_option maxHeartbeats 1600000 in
theorem digits_neg (m : Nat) : ∀ (_h1 : 1 ≤ m) (_hn : m ≤ 9223372036854775808) (z : Int) (_hz : Hid (z = -(m : Int))) (w : World),
    Calls Try.prog 48 #[.int .i64 z] w fun e w' => e = .returned (.string (ofL (45 :: decN m))) ∧ Below w.heap.size w w' := by
  induction m using Nat.strongRecOn with
  | ind m ih =>
    intro h1 hn z hz w
    have hz0 : z < 0 := by have := hz.out; omega
    by_cases h : m < 10
    · have hi : (-10 : Int) < z := by have := hz.out; omega
      have q3 : 48 - z = ((decB m).toNat : Int) := by
        have := hz.out
        rw [decB_int h]
        omega
      have HC := conv_one (w.alloc (.cells #[.int .u8 (48 - z)] 5)) w.heap.size (decB m) _ q3 ((Has.new w _ _).cell 0)
      have hsz : (1 : Nat) + (ofL [decB m]).size ≤ 9223372036854775807 := by rw [ofL_size, List.length_singleton]; omega
      have HV : Hid (decN m = [decB m]) := Lib.hid (decN_small h)
      clear ih q3
      go_enter Try.func48, Try.ntmps48
      go_wp2_with fail
      go_ret
      exact ⟨by rw [HV.out]; rfl, (Below.refl _ _).alloc (Nat.le_refl _) _⟩
    · have hi : ¬ (-10 : Int) < z := by have := hz.out; omega
      have qe : IntKind.i64.wrap (z.tdiv 10) = -((m / 10 : Nat) : Int) := by
        rw [hz.out, Int.neg_tdiv, Int.tdiv_eq_ediv_of_nonneg (by omega), IntWalk.i64_in _ (by omega)]
        omega
      have qm : z.tmod 10 = -((m % 10 : Nat) : Int) := by
        rw [hz.out, Int.neg_tmod, Int.tmod_eq_emod_of_nonneg (by omega)]
        omega
      have HI := Lib.hid (fun w => ih (m / 10) (by omega) (by omega) (by omega) _ (Lib.hid qe) w)
      have HV : Hid (ofL (45 :: decN m) = ofL (45 :: decN (m / 10)) ++ ofL [decB (m % 10)]) := Lib.hid (by
        apply toL_inj
        rw [toL_append, toL_ofL, toL_ofL, toL_ofL, decN_more h]
        rfl)
      have hl : (ofL (45 :: decN (m / 10))).size ≤ 21 := by
        rw [ofL_size, List.length_cons]
        have := decN_len 18 (m / 10) (by omega)
        omega
      have hsz : (ofL (45 :: decN (m / 10))).size + (ofL [decB (m % 10)]).size ≤ 9223372036854775807 := by rw [ofL_size [decB (m % 10)], List.length_singleton]; omega
      have q3 : IntKind.u8.wrap (IntKind.i64.wrap (48 - z.tmod 10)) = ((decB (m % 10)).toNat : Int) := by
        rw [qm, decB_int (by omega), IntWalk.i64_in _ (by omega), IntKind.wrap_u8]
        omega
      have HCa := fun (W : World) => conv_one (W.alloc (.cells #[.int .u8 (IntKind.u8.wrap (IntKind.i64.wrap (48 - z.tmod 10)))] 5)) W.heap.size (decB (m % 10)) _ q3 ((Has.new W _ _).cell 0)
      have HCc := fun (W : World) (g : Nat) => conv_one W g (decB (m % 10)) _ q3
      clear q3 qe qm ih
      go_enter Try.func48, Try.ntmps48
      go_wp2_with fail
      go_region_with (go_at_call 48; refine (HI.out _).mono ?_; rintro e w1 ⟨rfl, hb1⟩; have hcb := fun h => HCc w1 w.heap.size ((hb1.cell (p := ⟨w.heap.size, 0, none⟩) (lt_cell h)).trans h))
      all_goals
        replace hb1 := Lib.hid hb1
        clear HCa HCc hcb HI hsz
        go_wp2_with fail
        go_ret
        refine ⟨by rw [HV.out]; rfl, ?_⟩
        first
          | exact (below_chain (Below.drew (Below.refl _ _)) hb1.out).alloc (Nat.le_trans (Nat.le_refl _) hb1.out.size) _
          | exact below_chain (Below.alloc (Below.drew (Below.refl _ _)) (Nat.le_refl _) _) hb1.out
/-- Digits: a '-' where the number is negative -/
theorem digits_any (z : Int) (h0 : -9223372036854775808 ≤ z) (h1 : z ≤ 9223372036854775807) (w : World) :
    Calls Try.prog 48 #[.int .i64 z] w fun e w' => e = .returned (.string (ofL (decZ z))) ∧ Below w.heap.size w w' := by
  unfold decZ
  by_cases hz : z < 0
  · rw [if_pos hz]
    exact digits_neg z.natAbs (by omega) (by omega) z (Lib.hid (by omega)) w
  · rw [if_neg hz]
    have e : z = ((z.natAbs : Nat) : Int) := by omega
    have := digits_pos z.natAbs (by omega) w
    rw [← e] at this
    exact this
end Go.Proofs.Ytcjobblhendkbaa.R13Dig

/- Layer 14, the document's own Host, Domain. -/
namespace Go.Proofs.Ytcjobblhendkbaa.R14Host
open Go.ChangeShapes Go.WideShapes Go.ChangeAt Go.RowKit Bytes LexPure HostPure RHostPure EmitPure ConfPure Ret Mem R14In R14Name
set_option maxRecDepth 100000
set_option linter.unusedSimpArgs false
set_option linter.unusedVariables false
theorem dig_len {n : Int} (h0 : 0 ≤ n) (h1 : n ≤ 65535) : (decZ n).length ≤ 5 := by
  unfold decZ
  rw [if_neg (by omega)]
  exact DecN.decN_len 4 _ (by omega)
set_option maxHeartbeats 1600000 in
theorem rhostB_any (s : ByteArray) (hs : s.size ≤ 1048576) (w : World) :
    Calls Try.prog 33 #[.string s] w fun e w' => e = .returned (.bool (hostB (toL s))) ∧ Below w.heap.size w w' := by
  have HA := Lib.hid (RAuth.rauth_any s (by omega) w)
  unfold hostB
  cases ha : authO (toL s) with
  | none =>
    obtain ⟨e1, e2, e3⟩ := auth_none ha
    rw [e1, e2, e3] at HA
    clear hs ha e1 e2 e3
    go_enter Try.func33, Try.ntmps33
    go_wp2_with fail
    refine HA.out.mono ?_
    rintro e w1 ⟨rfl, hb⟩
    go_wp2_with fail
    go_ret
    exact ⟨rfl, hb⟩
  | some x =>
    obtain ⟨h, p⟩ := x
    obtain ⟨e1, e2, e3⟩ := auth_some ha
    obtain ⟨a1, a2, a3, a4⟩ := authO_some ha
    rw [e1, e2, e3] at HA
    have hh := host_len a1
    dsimp only
    by_cases hp : 0 < p
    · have HD := Lib.hid (fun w => R13Dig.digits_any p (by omega) (by omega) w)
      have hdl := dig_len (by omega) a4
      have hpd : decide (0 < p) = true := decide_eq_true hp
      have l1 : (ofL h).size + (⟨#[58]⟩ : ByteArray).size ≤ 9223372036854775807 := by rw [ofL_size]; exact (by omega : h.length + 1 ≤ 9223372036854775807)
      have l2 : (ofL h ++ ⟨#[58]⟩).size + (ofL (decZ p)).size ≤ 9223372036854775807 := by rw [ByteArray.size_append, ofL_size, ofL_size]; exact (by omega : h.length + 1 + (decZ p).length ≤ 9223372036854775807)
      have hq : (s.toList == (ofL h ++ ⟨#[58]⟩ ++ ofL (decZ p)).toList) = (toL s == h ++ 58 :: decZ p) := by
        rw [ByteArray.toList_eq, ByteArray.toList_eq]
        show (toL s == toL (ofL h ++ ⟨#[58]⟩ ++ ofL (decZ p))) = _
        have : toL (ofL h ++ ⟨#[58]⟩ ++ ofL (decZ p)) = h ++ 58 :: decZ p := by simp [toL, ofL]
        rw [this]
      obtain ⟨b, hb2⟩ : ∃ b, b = (toL s == h ++ 58 :: decZ p) := ⟨_, rfl⟩
      rw [← hb2] at hq ⊢
      rw [hpd]
      clear hs ha e1 e2 e3 hb2 a1 a2 a3 a4 hh hdl hp
      generalize ofL (decZ p) = D at *
      go_enter Try.func33, Try.ntmps33
      go_wp2_with fail
      refine HA.out.mono ?_
      rintro e w1 ⟨rfl, hb⟩
      have HB := Lib.hid hb
      clear HA hb
      go_wp2_with fail
      refine (HD.out _).mono ?_
      rintro e w2 ⟨rfl, hb⟩
      have HB2 := Lib.hid (below_chain HB.out hb)
      clear HD HB hb
      go_wp2_with fail
      go_ret
      exact ⟨rfl, HB2.out⟩
    · have hpd : decide (0 < p) = false := decide_eq_false hp
      rw [hpd]
      clear hs ha e1 e2 e3 a1 a2 a3 a4 hh hp
      go_enter Try.func33, Try.ntmps33
      go_wp2_with fail
      refine HA.out.mono ?_
      rintro e w1 ⟨rfl, hb⟩
      go_wp2_with fail
      go_ret
      exact ⟨rfl, hb⟩
theorem rdomain_any (s : ByteArray) (hs : s.size ≤ 1048576) (w : World) :
    Calls Try.prog 34 #[.string s] w fun e w' => e = .returned (.bool (domainB (toL s))) ∧ w = w' := by
  unfold domainB
  by_cases h1 : toL s = STAR
  · have hq : (s.toList == [42]) = true := by rw [ByteArray.toList_eq]; show (toL s == [42]) = true; rw [h1]; rfl
    rw [if_pos h1]
    clear hs h1
    go_enter Try.func34, Try.ntmps34
    go_wp2_with fail
    go_ret
    exact ⟨rfl, rfl⟩
  · have hq : (s.toList == [42]) = false := by rw [ByteArray.toList_eq]; exact beq_false_of_ne h1
    rw [if_neg h1, toL_length]
    clear h1
    by_cases h2 : 2 < s.size
    · have h2i : (2 : Int) < (s.size : Int) := by omega
      have hz : ¬ (s.size : Int) < 2 := by omega
      have hx : ((s.extract 0 2).toList == [42, 46]) = ((toL s).take 2 == [42, 46]) := by
        rw [ByteArray.toList_eq]
        show (toL (s.extract 0 2) == [42, 46]) = _
        rw [toL_extract, List.drop_zero]
      by_cases h3 : (toL s).take 2 = [42, 46]
      · rw [if_pos ⟨h2, h3⟩]
        rw [show ((toL s).take 2 == [42, 46]) = true by rw [h3]; rfl] at hx
        have HH := Lib.hid (RHost.rhost_any (s.extract 2 s.size) (by simp; omega) w)
        have e : toL (s.extract 2 s.size) = (toL s).drop 2 := by rw [toL_extract, show s.size = (toL s).length by rw [toL_length], List.take_length]
        rw [e] at HH
        clear hs h3 e
        go_enter Try.func34, Try.ntmps34
        go_wp2_with fail
        refine HH.out.mono ?_
        rintro e w1 ⟨rfl, rfl⟩
        go_wp2_with fail
        go_ret
        exact ⟨rfl, rfl⟩
      · rw [if_neg (fun x => h3 x.2)]
        rw [beq_false_of_ne h3] at hx
        have HH := Lib.hid (RHost.rhost_any s (by omega) w)
        clear hs h3
        go_enter Try.func34, Try.ntmps34
        go_wp2_with fail
        refine HH.out.mono ?_
        rintro e w1 ⟨rfl, rfl⟩
        go_wp2_with fail
        go_ret
        exact ⟨rfl, rfl⟩
    · have h2i : ¬ (2 : Int) < (s.size : Int) := by omega
      rw [if_neg (fun x => h2 x.1)]
      have HH := Lib.hid (RHost.rhost_any s (by omega) w)
      clear hs h2
      go_enter Try.func34, Try.ntmps34
      go_wp2_with fail
      refine HH.out.mono ?_
      rintro e w1 ⟨rfl, rfl⟩
      go_wp2_with fail
      go_ret
      exact ⟨rfl, rfl⟩
end Go.Proofs.Ytcjobblhendkbaa.R14Host

/- Layer 14, the document's own Cluster. -/
namespace Go.Proofs.Ytcjobblhendkbaa.R14Clus
open Go.ChangeShapes Go.WideShapes Go.ChangeAt Go.RowKit Bytes LexPure ConfPure ConfMem Ret Mem Texts R14In R14Name R14Host
set_option maxRecDepth 100000
set_option linter.unusedSimpArgs false
set_option linter.unusedVariables false
abbrev KT : TypeId := 53
structure Cb (w : World) (g : Nat) (cs : Array Value) (h : Value) (hosts : List L) (W : World) : Prop where
  box : Has W g KT cs
  tx : Texts W h hosts
  below : Below g w W
theorem Cb.call {w W W' : World} {g : Nat} {cs : Array Value} {h : Value} {hosts : List L} (x : Cb w g cs h hosts W) (hb : Below W.heap.size W W') : Cb w g cs h hosts W' :=
  ⟨x.box.below hb x.box.lt, Texts.below x.tx hb, ⟨hb.os.trans x.below.os, hb.tape.trans x.below.tape, hb.output.trans x.below.output, Nat.le_trans x.below.size hb.size, fun i hi => (hb.block i (Nat.lt_trans hi x.box.lt)).trans (x.below.block i hi)⟩⟩
theorem Cb.drew {w W : World} {g : Nat} {cs : Array Value} {h : Value} {hosts : List L} (x : Cb w g cs h hosts W) : Cb w g cs h hosts W.drew := ⟨x.box.drew, x.tx, below_drew x.below⟩
theorem Cb.start {w : World} {cs : Array Value} {h : Value} {hosts : List L} (hT : Texts w h hosts) : Cb w w.heap.size cs h hosts (w.alloc (.cells cs KT)) :=
  ⟨Has.new w _ _, Texts.below hT ((Below.refl _ _).alloc (Nat.le_refl _) _), (Below.refl _ _).alloc (Nat.le_refl _) _⟩
theorem texts_at {w : World} {gh o n cap : Nat} {G : List L} (h : Texts w (.slice (some ⟨gh, o, none⟩) n cap) G) (j : Nat) (hj : j < G.length) : w.cell? ⟨gh, o + j, none⟩ = some (.string (ofL G[j])) := by
  obtain ⟨_, _, heq, -, hcell⟩ := h
  injection heq with e1 e2 e3
  subst e1
  obtain ⟨g2, o2, hpo, _, hcell⟩ := hcell (by omega)
  injection hpo with hpo
  injection hpo with a1 a2
  subst a1 a2
  exact hcell j hj
theorem hosts_step (ahead hs : List L) (h : L) : hostsB ahead (h :: hs) = (hostB h && !(ahead.contains h) && hostsB (ahead ++ [h]) hs) := by
  conv => lhs; unfold hostsB
def Fresh (hosts : List L) (i k : Nat) : Prop := ∀ j (hj : j < hosts.length) (hi : i < hosts.length), j < k → (hosts[j] == hosts[i]) = false
theorem Fresh.all {hosts : List L} {i : Nat} (hi : i < hosts.length) (h : Fresh hosts i i) : (hosts.take i).contains hosts[i] = false := by
  rw [List.contains_eq_any_beq, List.any_eq_false]
  intro y hy
  obtain ⟨j, hj, rfl⟩ := List.getElem_of_mem hy
  rw [List.length_take] at hj
  rw [List.getElem_take]
  have := h j (by omega) hi (by omega)
  rw [Bool.not_eq_true, beq_eq_false_iff_ne]
  rw [beq_eq_false_iff_ne] at this
  exact fun e => this e.symm
set_option maxHeartbeats 6400000 in
theorem rclus_any (x : Clus) (h : Value) (hx : FitClus x) (w : World) (hT : Texts w h x.hosts) :
    Calls Try.prog 16 #[.agg #[.string (ofL x.name), .int .i64 x.policy, h, .int .i64 x.conns, .int .i64 x.pending, .int .i64 x.try_, .int .i64 x.fails, .int .i64 x.eject, .int .i64 x.panic]] w fun e w' => e = .returned (.bool (clusB x)) ∧ Below w.heap.size w w' := by
  obtain ⟨p, cap, rfl, hn, hc⟩ := id hT
  have H0 := Lib.hid (fun w => rin_any x.policy 1 4 w)
  have H1 := Lib.hid (fun w => rin_any ((x.hosts.length : Nat) : Int) 1 16 w)
  have H2 := Lib.hid (fun w => rin_any x.conns 1 64 w)
  have H3 := Lib.hid (fun w => rin_any x.pending 0 256 w)
  have H4 := Lib.hid (fun w => rin_any x.try_ 1 TICK w)
  have H5 := Lib.hid (fun w => rin_any x.eject 1 TICK w)
  have H6 := Lib.hid (fun w => rin_any x.fails 1 1000 w)
  have H7 := Lib.hid (fun w => rin_any x.panic 0 100 w)
  unfold clusB
  obtain ⟨r0, hr0⟩ : ∃ r0, r0 = inB x.policy 1 4 := ⟨_, rfl⟩
  rw [← hr0] at H0 ⊢
  obtain ⟨r1, hr1⟩ : ∃ r1, r1 = inB ((x.hosts.length : Nat) : Int) 1 16 := ⟨_, rfl⟩
  rw [← hr1] at H1 ⊢
  obtain ⟨r2, hr2⟩ : ∃ r2, r2 = inB x.conns 1 64 := ⟨_, rfl⟩
  rw [← hr2] at H2 ⊢
  obtain ⟨r3, hr3⟩ : ∃ r3, r3 = inB x.pending 0 256 := ⟨_, rfl⟩
  rw [← hr3] at H3 ⊢
  obtain ⟨r4, hr4⟩ : ∃ r4, r4 = inB x.try_ 1 TICK := ⟨_, rfl⟩
  rw [← hr4] at H4 ⊢
  obtain ⟨r5, hr5⟩ : ∃ r5, r5 = inB x.eject 1 TICK := ⟨_, rfl⟩
  rw [← hr5] at H5 ⊢
  obtain ⟨r6, hr6⟩ : ∃ r6, r6 = inB x.fails 1 1000 := ⟨_, rfl⟩
  rw [← hr6] at H6 ⊢
  obtain ⟨r7, hr7⟩ : ∃ r7, r7 = inB x.panic 0 100 := ⟨_, rfl⟩
  rw [← hr7] at H7 ⊢
  unfold TICK at H4 H5
  have HHost := Lib.hid (fun k (hk : k < x.hosts.length) w => rhostB_any (ofL x.hosts[k]) (by rw [ofL_size]; exact hx.hosts.2 _ (List.getElem_mem hk)) w)
  have HC := Lib.hid hc
  have HB := Lib.hid (Cb.start (cs := #[.string (ofL x.name), .int .i64 x.policy, .slice p x.hosts.length cap, .int .i64 x.conns, .int .i64 x.pending, .int .i64 x.try_, .int .i64 x.fails, .int .i64 x.eject, .int .i64 x.panic]) hT)
  have hn2 : x.hosts.length ≤ 1048576 := hx.hosts.1
  unfold KT at HB
  clear hx hT hn hc hr0 hr1 hr2 hr3 hr4 hr5 hr6 hr7
  go_enter Try.func16, Try.ntmps16
  go_wp2_with fail
  refine (H0.out _).mono ?_
  rintro e w1 ⟨rfl, rfl⟩
  clear H0
  cases r0 with
  | false =>
    clear HHost
    go_wp2_with fail
    go_ret
    exact ⟨ret_bool (by simp), HB.out.below⟩
  | true =>
    go_wp2_with fail
    refine (H1.out _).mono ?_
    rintro e w2 ⟨rfl, rfl⟩
    clear H1
    cases r1 with
    | false =>
      clear HHost
      go_wp2_with fail
      go_ret
      exact ⟨ret_bool (by simp), HB.out.below⟩
    | true =>
      go_wp2_with fail
      refine (H2.out _).mono ?_
      rintro e w3 ⟨rfl, rfl⟩
      clear H2
      cases r2 with
      | false =>
        clear HHost
        go_wp2_with fail
        go_ret
        exact ⟨ret_bool (by simp), HB.out.below⟩
      | true =>
        go_wp2_with fail
        refine (H3.out _).mono ?_
        rintro e w4 ⟨rfl, rfl⟩
        clear H3
        cases r3 with
        | false =>
          clear HHost
          go_wp2_with fail
          go_ret
          exact ⟨ret_bool (by simp), HB.out.below⟩
        | true =>
          go_wp2_with fail
          refine (H4.out _).mono ?_
          rintro e w5 ⟨rfl, rfl⟩
          clear H4
          cases r4 with
          | false =>
            clear HHost
            go_wp2_with fail
            go_ret
            exact ⟨ret_bool (by simp), HB.out.below⟩
          | true =>
            go_wp2_with fail
            refine (H5.out _).mono ?_
            rintro e w6 ⟨rfl, rfl⟩
            clear H5
            cases r5 with
            | false =>
              clear HHost
              go_wp2_with fail
              go_ret
              exact ⟨ret_bool (by simp), HB.out.below⟩
            | true =>
              go_wp2_with fail
              refine (H6.out _).mono ?_
              rintro e w7 ⟨rfl, rfl⟩
              clear H6
              cases r6 with
              | false =>
                clear HHost
                go_wp2_with fail
                go_ret
                exact ⟨ret_bool (by simp), HB.out.below⟩
              | true =>
                go_wp2_with fail
                refine (H7.out _).mono ?_
                rintro e w8 ⟨rfl, rfl⟩
                clear H7
                cases r7 with
                | false =>
                  clear HHost
                  go_wp2_with fail
                  go_ret
                  exact ⟨ret_bool (by simp), HB.out.below⟩
                | true =>
                  simp only [Bool.true_and]
                  obtain ⟨g, hg⟩ : ∃ g, g = w.heap.size := ⟨_, rfl⟩
                  rw [← hg] at HB ⊢
                  have HG := Lib.hid hg
                  clear hg
                  go_wp2_with fail
                  generalize w.alloc (.cells #[.string (ofL x.name), .int .i64 x.policy, .slice p x.hosts.length cap, .int .i64 x.conns, .int .i64 x.pending, .int .i64 x.try_, .int .i64 x.fails, .int .i64 x.eject, .int .i64 x.panic] 53) = W1 at HB ⊢
                  go_loopw [3] (fun i wr => ∃ k : Nat, k ≤ x.hosts.length ∧ i = .int .i64 k ∧ Hid (hostsB [] x.hosts = hostsB (x.hosts.take k) (x.hosts.drop k) ∧ Cb w g #[.string (ofL x.name), .int .i64 x.policy, .slice p x.hosts.length cap, .int .i64 x.conns, .int .i64 x.pending, .int .i64 x.try_, .int .i64 x.fails, .int .i64 x.eject, .int .i64 x.panic] (.slice p x.hosts.length cap) x.hosts wr)) (fun i _ => x.hosts.length - (intOf i).toNat)
                  case atStart => exact ⟨0, Nat.zero_le _, rfl, Lib.hid ⟨by simp, HB.out⟩⟩
                  case round =>
                    obtain ⟨k, hk, rfl, HJ⟩ := hrel
                    clear HB
                    have b2 : wr.cell? ⟨g, 2, none⟩ = some (.slice p x.hosts.length cap) := HJ.out.2.box.cell 2
                    by_cases hlt : k < x.hosts.length
                    · have hki : (k : Int) < (x.hosts.length : Int) := by omega
                      have hk0 : (0 : Int) ≤ (k : Int) := by omega
                      obtain ⟨_, _, heq, -, hcell⟩ := HJ.out.2.tx
                      injection heq with e1 e2 e3
                      subst e1 e3
                      obtain ⟨gh, o, rfl, hgh, hcell⟩ := hcell (by omega)
                      have c1 := hcell k hlt
                      have HHo := Lib.hid (HHost.out k hlt)
                      rw [toL_ofL] at HHo
                      obtain ⟨t, ht⟩ : ∃ t, t = x.hosts[k] := ⟨_, rfl⟩
                      rw [← ht] at HHo c1
                      have HT := Lib.hid ht
                      have HS : Hid (hostsB (x.hosts.take k) (x.hosts.drop k) = (hostB t && !((x.hosts.take k).contains t) && hostsB (x.hosts.take (k + 1)) (x.hosts.drop (k + 1)))) := Lib.hid (by
                        rw [List.drop_eq_getElem_cons hlt, hosts_step, ht, List.take_succ_eq_append_getElem hlt])
                      obtain ⟨rb, hrb⟩ : ∃ rb, rb = hostB t := ⟨_, rfl⟩
                      rw [← hrb] at HHo HS
                      clear hcell ht hrb
                      go_wp2_with fail
                      refine (HHo.out _).mono ?_
                      rintro e w5 ⟨rfl, hb5⟩
                      have HJ5 := Lib.hid (And.intro HJ.out.1 (HJ.out.2.call hb5))
                      clear HJ hb5 b2 c1 HHo
                      cases rb with
                      | false =>
                        clear HHost
                        go_wp2_with fail
                        go_ret
                        exact ⟨ret_bool (by rw [HJ5.out.1, HS.out]; rfl), HG.out ▸ HJ5.out.2.below⟩
                      | true =>
                        go_wp2_with fail
                        have HK0 := Lib.hid HJ5.out.1
                        go_loopw [4] (fun i wr => ∃ k2 : Nat, k2 ≤ k ∧ i = .int .i64 k2 ∧ Hid (Fresh x.hosts k k2 ∧ Cb w g #[.string (ofL x.name), .int .i64 x.policy, .slice (some ⟨gh, o, none⟩) x.hosts.length cap, .int .i64 x.conns, .int .i64 x.pending, .int .i64 x.try_, .int .i64 x.fails, .int .i64 x.eject, .int .i64 x.panic] (.slice (some ⟨gh, o, none⟩) x.hosts.length cap) x.hosts wr)) (fun i _ => k - (intOf i).toNat)
                        case atStart => exact ⟨0, Nat.zero_le _, rfl, Lib.hid ⟨fun j _ _ h => absurd h (by omega), HJ5.out.2⟩⟩
                        case round =>
                          obtain ⟨k2, hk2, rfl, HI⟩ := hrel
                          by_cases hlt2 : k2 < k
                          · have hk2i : (k2 : Int) < (k : Int) := by omega
                            have hk20 : (0 : Int) ≤ (k2 : Int) := by omega
                            have hk2n : (k2 : Int) < (x.hosts.length : Int) := by omega
                            have hl2 : k2 < x.hosts.length := by omega
                            have X1 := HI.out.2.drew
                            obtain ⟨y, hy⟩ : ∃ y, y = x.hosts[k2] := ⟨_, rfl⟩
                            have t1 := texts_at X1.tx k2 hl2
                            have t2 := texts_at X1.tx k hlt
                            rw [← hy] at t1
                            rw [← HT.out] at t2
                            have b2 : wr.drew.cell? ⟨g, 2, none⟩ = some (.slice (some ⟨gh, o, none⟩) x.hosts.length cap) := X1.box.cell 2
                            have te := text_eq y t
                            obtain ⟨b, hb⟩ : ∃ b, b = (y == t) := ⟨_, rfl⟩
                            rw [← hb] at te
                            have HY := Lib.hid (And.intro hb hy)
                            clear hb hy HJ5
                            go_wp2_with fail
                            go_region_held3 (fun w' => w'.cell? ⟨g, 2, none⟩ = some (.slice (some ⟨gh, o, none⟩) x.hosts.length cap) ∧ w'.cell? ⟨gh, o + k2, none⟩ = some (.string (ofL y)) ∧ w'.cell? ⟨gh, o + k, none⟩ = some (.string (ofL t))) (exact ⟨b2, t1, t2⟩) (fail)
                            have X2 := Lib.hid X1
                            clear X1 b2 t1 t2
                            cases b with
                            | true =>
                              have HV : Hid (hostsB (x.hosts.take k) (x.hosts.drop k) = false) := Lib.hid (by
                                obtain ⟨q1, q2⟩ := HY.out
                                rw [HS.out]
                                have : (x.hosts.take k).contains t = true := by
                                  rw [List.contains_eq_any_beq, List.any_eq_true]
                                  refine ⟨y, ?_, ?_⟩
                                  · rw [q2]
                                    refine List.mem_iff_getElem.2 ⟨k2, by rw [List.length_take]; omega, by rw [List.getElem_take]⟩
                                  · have e : y = t := eq_of_beq q1.symm
                                    rw [e]
                                    exact beq_self_eq_true t
                                rw [this]
                                rfl)
                              clear HHost HI
                              go_wp2_with fail
                              go_ret
                              exact ⟨ret_bool (by rw [HK0.out, HV.out] <;> rfl), HG.out ▸ X2.out.below⟩
                            | false =>
                              have HK : Hid (Fresh x.hosts k (k2 + 1) ∧ Cb w g #[.string (ofL x.name), .int .i64 x.policy, .slice (some ⟨gh, o, none⟩) x.hosts.length cap, .int .i64 x.conns, .int .i64 x.pending, .int .i64 x.try_, .int .i64 x.fails, .int .i64 x.eject, .int .i64 x.panic] (.slice (some ⟨gh, o, none⟩) x.hosts.length cap) x.hosts wr.drew) := Lib.hid ⟨fun j hj hi hjk => by
                                rcases Nat.lt_or_ge j k2 with h | h
                                · exact HI.out.1 j hj hi h
                                · obtain rfl : j = k2 := by omega
                                  obtain ⟨q1, q2⟩ := HY.out
                                  have q3 := HT.out
                                  rw [← q2, ← q3]
                                  exact q1.symm, X2.out⟩
                              clear HI X2
                              go_wp2_with fail
                              go_roundw
                              case rel => exact ⟨k2 + 1, by omega, by go_num, HK⟩
                              case measure => simp [intOf]; omega
                          · have hkk : ¬ (k2 : Int) < (k : Int) := by omega
                            obtain rfl : k2 = k := by omega
                            have HK : Hid (hostsB [] x.hosts = hostsB (x.hosts.take (k2 + 1)) (x.hosts.drop (k2 + 1)) ∧ Cb w g #[.string (ofL x.name), .int .i64 x.policy, .slice (some ⟨gh, o, none⟩) x.hosts.length cap, .int .i64 x.conns, .int .i64 x.pending, .int .i64 x.try_, .int .i64 x.fails, .int .i64 x.eject, .int .i64 x.panic] (.slice (some ⟨gh, o, none⟩) x.hosts.length cap) x.hosts wr) := Lib.hid ⟨by
                              rw [HK0.out, HS.out]
                              have q3 := HI.out.1.all hlt
                              rw [← HT.out] at q3
                              rw [q3]
                              rfl, HI.out.2⟩
                            clear HI HJ5 HHost hlt2
                            go_wp2_with fail
                            go_roundw
                            case rel => exact ⟨k2 + 1, by omega, by go_num, HK⟩
                            case measure => simp [intOf]; omega
                    · have hki : ¬ (k : Int) < (x.hosts.length : Int) := by omega
                      obtain rfl : k = x.hosts.length := by omega
                      have HV : Hid (hostsB [] x.hosts = true) := Lib.hid (by rw [HJ.out.1, List.drop_length]; rfl)
                      have X2 := Lib.hid HJ.out.2
                      clear HJ HHost hlt
                      go_wp2_with fail
                      go_ret
                      exact ⟨ret_bool HV.out.symm, HG.out ▸ X2.out.below⟩
end Go.Proofs.Ytcjobblhendkbaa.R14Clus

/- Layer 14, the document's own forward and Route. -/
namespace Go.Proofs.Ytcjobblhendkbaa.R14Rout
open Go.ChangeShapes Go.WideShapes Go.ChangeAt Go.RowKit Bytes LexPure ConfPure ConfMem Ret Mem Texts R14In R14Name R14Host R14Clus
set_option maxRecDepth 100000
set_option linter.unusedVariables false
set_option linter.unusedSimpArgs false
abbrev RT : TypeId := 39
theorem ite_int (n m : Int) (A B : Bool) : (if n = m then A else B) = cond (n == m) A B := by
  by_cases h : n = m
  · rw [if_pos h, h, beq_self_eq_true]; rfl
  · rw [if_neg h, beq_false_of_ne h]; rfl
theorem ite_list (l m : L) (A B : Bool) : (if l = m then A else B) = cond (l == m) A B := by
  by_cases h : l = m
  · rw [if_pos h, h, beq_self_eq_true]; rfl
  · rw [if_neg h, beq_false_of_ne h]; rfl
/-- the name of the i-th -/
theorem name_at {w : World} {p : Option Addr} {n cap : Nat} {G : List Clus} (h : Cluss w (.slice p n cap) G) (i : Nat) (hi : i < G.length) : ∃ g o, p = some ⟨g, o, none⟩ ∧ w.cell? ⟨g, o + i * 9, none⟩ = some (.string (ofL G[i].name)) := by
  obtain ⟨p2, c2, heq, _, hc⟩ := h.parts
  injection heq with e1 e2 e3
  obtain ⟨g, o, hp, _, hcell⟩ := hc (by omega)
  obtain ⟨_, _, c0, _⟩ := hcell i hi
  exact ⟨g, o, e1.trans hp, c0⟩
/-- a route's box, the clusters beside it -/
structure Rb (w : World) (g : Nat) (cs : Array Value) (v : Value) (G : List Clus) (W : World) : Prop where
  box : Has W g RT cs
  cl : Cluss W v G
  below : Below g w W
theorem Rb.call {w W W' : World} {g : Nat} {cs : Array Value} {v : Value} {G : List Clus} (x : Rb w g cs v G W) (hb : Below W.heap.size W W') : Rb w g cs v G W' :=
  ⟨x.box.below hb x.box.lt, x.cl.below hb, ⟨hb.os.trans x.below.os, hb.tape.trans x.below.tape, hb.output.trans x.below.output, Nat.le_trans x.below.size hb.size, fun i hi => (hb.block i (Nat.lt_trans hi x.box.lt)).trans (x.below.block i hi)⟩⟩
theorem cluss_drew {w : World} {v : Value} {G : List Clus} (h : Cluss w v G) : Cluss w.drew v G := by
  obtain ⟨hv, h1, h2⟩ := h
  exact ⟨hv, h1, h2⟩
theorem Rb.drew {w W : World} {g : Nat} {cs : Array Value} {v : Value} {G : List Clus} (x : Rb w g cs v G W) : Rb w g cs v G W.drew := ⟨x.box.drew, cluss_drew x.cl, below_drew x.below⟩
theorem cluss_drewN {w : World} {v : Value} {G : List Clus} (h : Cluss w v G) (m : Nat) : Cluss (w.drewN m) v G := by
  obtain ⟨hv, h1, h2⟩ := h
  exact ⟨hv, h1, h2⟩
theorem Rb.drewN {w W : World} {g : Nat} {cs : Array Value} {v : Value} {G : List Clus} (x : Rb w g cs v G W) (m : Nat) : Rb w g cs v G (W.drewN m) := ⟨x.box.drewN m, cluss_drewN x.cl m, ⟨x.below.os, x.below.tape, x.below.output, x.below.size, x.below.block⟩⟩
theorem Rb.start {w : World} {cs : Array Value} {v : Value} {G : List Clus} (hT : Cluss w v G) : Rb w w.heap.size cs v G (w.alloc (.cells cs RT)) :=
  ⟨Has.new w _ _, hT.below ((Below.refl _ _).alloc (Nat.le_refl _) _), (Below.refl _ _).alloc (Nat.le_refl _) _⟩
theorem any_step (G : List Clus) (n : L) (k : Nat) (h : k < G.length) : (G.take (k + 1)).any (fun c => c.name == n) = ((G.take k).any (fun c => c.name == n) || G[k].name == n) := by
  rw [List.take_succ_eq_append_getElem h, List.any_append]
  simp
set_option maxHeartbeats 6400000 in
theorem rforward_any (x : Rout) (hx : FitRout x) (G : List Clus) (v : Value) (hG : G.length ≤ 1048576) (w : World) (hC : Cluss w v G) :
    Calls Try.prog 51 #[.agg #[.bool x.pre, .string (ofL x.path), .string (ofL x.method), .string (ofL x.field), .string (ofL x.value), .int .i64 x.action, .string (ofL x.cluster), .int .i64 x.status, .string (ofL x.text), .string (ofL x.rewrite), .int .i64 x.retries, .int .i64 x.timeout, .bool x.upgrade], v] w fun e w' => e = .returned (.bool (forwB x G)) ∧ Below w.heap.size w w' := by
  have hC0 := hC
  obtain ⟨p, cap, rfl, _, _⟩ := hC0.parts
  have HB := Lib.hid (Rb.start (cs := #[.bool x.pre, .string (ofL x.path), .string (ofL x.method), .string (ofL x.field), .string (ofL x.value), .int .i64 x.action, .string (ofL x.cluster), .int .i64 x.status, .string (ofL x.text), .string (ofL x.rewrite), .int .i64 x.retries, .int .i64 x.timeout, .bool x.upgrade]) hC)
  have H3 := Lib.hid (fun w => rin_any x.retries 0 5 w)
  have H4 := Lib.hid (fun w => rin_any x.timeout 1 TICK w)
  have H9 := Lib.hid (fun w => rnorm_any (ofL x.rewrite) (by rw [ofL_size]; exact hx.rewrite) w)
  rw [toL_ofL] at H9
  obtain ⟨r0, hr0⟩ : ∃ r0, r0 = G.any (fun c => c.name == x.cluster) := ⟨_, rfl⟩
  obtain ⟨r1, hr1⟩ : ∃ r1, r1 = (x.status == 0) := ⟨_, rfl⟩
  have yr1b : (x.status != 0) = !r1 := by rw [hr1]; rfl
  have yr1a : (x.status == 0) = r1 := hr1.symm
  obtain ⟨r2, hr2⟩ : ∃ r2, r2 = (x.text == []) := ⟨_, rfl⟩
  have yr2a : ((ofL x.text).toList == []) = r2 := by rw [hr2, ByteArray.toList_eq]; show (toL (ofL x.text) == []) = _; rw [toL_ofL]
  have yr2b : ((ofL x.text).toList != []) = !r2 := by rw [← yr2a]; rfl
  have yr2c : (ofL x.text).toList.isEmpty = r2 := by rw [← yr2a]; cases (ofL x.text).toList <;> rfl
  obtain ⟨r3, hr3⟩ : ∃ r3, r3 = inB x.retries 0 5 := ⟨_, rfl⟩
  obtain ⟨r4, hr4⟩ : ∃ r4, r4 = inB x.timeout 1 TICK := ⟨_, rfl⟩
  obtain ⟨r5, hr5⟩ : ∃ r5, r5 = (x.method == CONNECT) := ⟨_, rfl⟩
  have yr5a : ((ofL x.method).toList == [67, 79, 78, 78, 69, 67, 84]) = r5 := by rw [hr5, ByteArray.toList_eq]; show (toL (ofL x.method) == [67, 79, 78, 78, 69, 67, 84]) = _; rw [toL_ofL]; rfl
  have yr5b : ((ofL x.method).toList != [67, 79, 78, 78, 69, 67, 84]) = !r5 := by rw [← yr5a]; rfl
  obtain ⟨r6, hr6⟩ : ∃ r6, r6 = (x.rewrite == []) := ⟨_, rfl⟩
  have yr6a : ((ofL x.rewrite).toList == []) = r6 := by rw [hr6, ByteArray.toList_eq]; show (toL (ofL x.rewrite) == []) = _; rw [toL_ofL]
  have yr6b : ((ofL x.rewrite).toList != []) = !r6 := by rw [← yr6a]; rfl
  have yr6c : (ofL x.rewrite).toList.isEmpty = r6 := by rw [← yr6a]; cases (ofL x.rewrite).toList <;> rfl
  obtain ⟨r7, hr7⟩ : ∃ r7, r7 = (x.retries == 0) := ⟨_, rfl⟩
  have yr7b : (x.retries != 0) = !r7 := by rw [hr7]; rfl
  have yr7a : (x.retries == 0) = r7 := hr7.symm
  obtain ⟨r9, hr9⟩ : ∃ r9, r9 = normalB x.rewrite := ⟨_, rfl⟩
  rw [← hr3] at H3
  rw [← hr4] at H4
  rw [← hr9] at H9
  unfold TICK at H4
  have HV : Hid (forwB x G = (r0 && r1 && r2 && r3 && r4 && cond r5 (r6 && r7 && !x.upgrade) (r6 || r9))) := Lib.hid (by
    unfold forwB
    rw [ite_list, hr0, hr1, hr2, hr3, hr4, hr5, hr6, hr7, hr9])
  have HR0 := Lib.hid hr0
  obtain ⟨up, hup⟩ : ∃ up, up = x.upgrade := ⟨_, rfl⟩
  rw [← hup] at HV HB ⊢
  clear hr0 hr1 hr2 hr3 hr4 hr5 hr6 hr7 hr9 hC hC0 hx hup
  obtain ⟨g, hg⟩ : ∃ g, g = w.heap.size := ⟨_, rfl⟩
  rw [← hg] at HB ⊢
  have HGe := Lib.hid hg
  clear hg
  unfold RT at HB
  go_enter Try.func51, Try.ntmps51
  go_wp2_with fail
  rw [← HGe.out]
  generalize w.alloc (.cells #[.bool x.pre, .string (ofL x.path), .string (ofL x.method), .string (ofL x.field), .string (ofL x.value), .int .i64 x.action, .string (ofL x.cluster), .int .i64 x.status, .string (ofL x.text), .string (ofL x.rewrite), .int .i64 x.retries, .int .i64 x.timeout, .bool up] 39) = W1 at HB ⊢
  go_loopw [5, 6] (fun kn i wr => ∃ k : Nat, k ≤ G.length ∧ i = .int .i64 k ∧ kn = .bool ((G.take k).any (fun c => c.name == x.cluster)) ∧ Hid (Rb w g #[.bool x.pre, .string (ofL x.path), .string (ofL x.method), .string (ofL x.field), .string (ofL x.value), .int .i64 x.action, .string (ofL x.cluster), .int .i64 x.status, .string (ofL x.text), .string (ofL x.rewrite), .int .i64 x.retries, .int .i64 x.timeout, .bool up] (.slice p G.length cap) G wr)) (fun _ i _ => G.length - (intOf i).toNat)
  case atStart => exact ⟨0, Nat.zero_le _, rfl, rfl, HB⟩
  case round =>
    obtain ⟨k, hk, rfl, rfl, HJ⟩ := hrel
    clear HB
    by_cases hlt : k < G.length
    · have hki : (k : Int) < (G.length : Int) := by omega
      have hk0 : (0 : Int) ≤ (k : Int) := by omega
      obtain ⟨gc, o, rfl, c1⟩ := name_at HJ.out.cl k hlt
      have b6 : wr.cell? ⟨g, 6, none⟩ = some (.string (ofL x.cluster)) := HJ.out.box.cell 6
      have HS := Lib.hid (any_step G x.cluster k hlt)
      obtain ⟨y, hy⟩ : ∃ y, y = G[k].name := ⟨_, rfl⟩
      rw [← hy] at c1 HS
      have te := text_eq y x.cluster
      obtain ⟨b, hb⟩ : ∃ b, b = (y == x.cluster) := ⟨_, rfl⟩
      rw [← hb] at te HS
      have HK := Lib.hid (fun m => HJ.out.drewN m)
      clear hy hb HJ
      generalize (G.take k).any (fun c => c.name == x.cluster) = kn at *
      cases kn with
      | true =>
        go_wp2_with fail
        go_quiet (fail)
        clear b6 c1 te
        go_wp2_with fail
        go_roundw
        case rel => exact ⟨k + 1, by omega, by go_num, by rw [HS.out]; rfl, Lib.hid (HK.out _)⟩
        case measure => simp [intOf]; omega
      | false =>
        go_wp2_with fail
        go_quiet (fail)
        clear b6 c1 te
        go_wp2_with fail
        go_roundw
        case rel => exact ⟨k + 1, by omega, by go_num, by rw [HS.out]; rfl, Lib.hid (HK.out _)⟩
        case measure => simp [intOf]; omega
    · have hki : ¬ (k : Int) < (G.length : Int) := by omega
      obtain rfl : k = G.length := by omega
      have hany : (G.take G.length).any (fun c => c.name == x.cluster) = r0 := by rw [List.take_length, HR0.out]
      rw [hany]
      have HJ2 := HJ
      have b2 : wr.cell? ⟨g, 2, none⟩ = some (.string (ofL x.method)) := HJ2.out.box.cell 2
      have b7 : wr.cell? ⟨g, 7, none⟩ = some (.int .i64 x.status) := HJ2.out.box.cell 7
      have b8 : wr.cell? ⟨g, 8, none⟩ = some (.string (ofL x.text)) := HJ2.out.box.cell 8
      have b9 : wr.cell? ⟨g, 9, none⟩ = some (.string (ofL x.rewrite)) := HJ2.out.box.cell 9
      have b10 : wr.cell? ⟨g, 10, none⟩ = some (.int .i64 x.retries) := HJ2.out.box.cell 10
      have b11 : wr.cell? ⟨g, 11, none⟩ = some (.int .i64 x.timeout) := HJ2.out.box.cell 11
      have b12 : wr.cell? ⟨g, 12, none⟩ = some (.bool up) := HJ2.out.box.cell 12
      clear HJ hlt hany HR0
      cases r0 with
      | false =>
        go_wp2_with fail
        go_ret
        exact ⟨ret_bool (by rw [HV.out] <;> rfl), HGe.out ▸ HJ2.out.below⟩
      | true =>
      cases r1 with
      | false =>
        go_wp2_with fail
        go_ret
        exact ⟨ret_bool (by rw [HV.out] <;> rfl), HGe.out ▸ HJ2.out.below⟩
      | true =>
      cases r2 with
      | false =>
        go_wp2_with fail
        go_ret
        exact ⟨ret_bool (by rw [HV.out] <;> rfl), HGe.out ▸ HJ2.out.below⟩
      | true =>
      go_wp2_with fail
      refine (H3.out _).mono ?_
      rintro e w3 ⟨rfl, rfl⟩
      clear H3
      cases r3 with
      | false =>
        go_wp2_with fail
        go_ret
        exact ⟨ret_bool (by rw [HV.out] <;> rfl), HGe.out ▸ HJ2.out.below⟩
      | true =>
      go_wp2_with fail
      refine (H4.out _).mono ?_
      rintro e w4 ⟨rfl, rfl⟩
      clear H4
      cases r4 with
      | false =>
        go_wp2_with fail
        go_ret
        exact ⟨ret_bool (by rw [HV.out] <;> rfl), HGe.out ▸ HJ2.out.below⟩
      | true =>
      cases r5 with
      | true =>
        cases r6 <;> cases r7 <;> cases up
        · go_wp2_with fail
          go_ret
          exact ⟨ret_bool (by rw [HV.out] <;> rfl), HGe.out ▸ HJ2.out.below⟩
        · go_wp2_with fail
          go_ret
          exact ⟨ret_bool (by rw [HV.out] <;> rfl), HGe.out ▸ HJ2.out.below⟩
        · go_wp2_with fail
          go_ret
          exact ⟨ret_bool (by rw [HV.out] <;> rfl), HGe.out ▸ HJ2.out.below⟩
        · go_wp2_with fail
          go_ret
          exact ⟨ret_bool (by rw [HV.out] <;> rfl), HGe.out ▸ HJ2.out.below⟩
        · go_wp2_with fail
          go_ret
          exact ⟨ret_bool (by rw [HV.out] <;> rfl), HGe.out ▸ HJ2.out.below⟩
        · go_wp2_with fail
          go_ret
          exact ⟨ret_bool (by rw [HV.out] <;> rfl), HGe.out ▸ HJ2.out.below⟩
        · go_wp2_with fail
          go_ret
          exact ⟨ret_bool (by rw [HV.out] <;> rfl), HGe.out ▸ HJ2.out.below⟩
        · go_wp2_with fail
          go_ret
          exact ⟨ret_bool (by rw [HV.out] <;> rfl), HGe.out ▸ HJ2.out.below⟩
      | false =>
        cases r6 with
        | true =>
          go_wp2_with fail
          go_ret
          exact ⟨ret_bool (by rw [HV.out] <;> rfl), HGe.out ▸ HJ2.out.below⟩
        | false =>
          go_wp2_with fail
          refine (H9.out _).mono ?_
          rintro e w5 ⟨rfl, hb5⟩
          have HJ3 := Lib.hid (HJ2.out.call hb5)
          clear H9 hb5 HJ2
          cases r9 with
          | true =>
            go_wp2_with fail
            go_ret
            exact ⟨ret_bool (by rw [HV.out] <;> rfl), HGe.out ▸ HJ3.out.below⟩
          | false =>
            go_wp2_with fail
            go_ret
            exact ⟨ret_bool (by rw [HV.out] <;> rfl), HGe.out ▸ HJ3.out.below⟩
end Go.Proofs.Ytcjobblhendkbaa.R14Rout
