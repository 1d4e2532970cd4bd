/- Texts of this seat, one behind another: CutAt, HostPure, RHostPure, RHost, RAuth, PathPure, PathForm, PathLen, PEsc, TargetPure, TBox, RBox, RPlainP, RHex, RPlain, REsc, REscapes, RNormP, RNormal. -/
import Derived.Lib.IndexMore
import Derived.Lib.Hide
import Derived.Outline
import Derived.LoopTactic
import Derived.Handy
import Derived.Laws.DeepStrings4
import Derived.Laws.ResultCell
import Derived.Below
import Derived.Maps.AppendAt
import Derived.Test.YtblpooddamkfdaaGreatDoorA1
import Derived.Test.YtblpooddamkfdaaGreatDoorB2
/- A text cut at its first byte of a kind: ahead of it, behind it. No program is named. -/
namespace Go.Proofs.YtblpooddamkfdaaGreatDoor.CutAt
open Bytes
def aheadOf (x : UInt8) (s : List UInt8) : List UInt8 := s.takeWhile (fun c => c != x)
def behind (x : UInt8) (s : List UInt8) : List UInt8 := (s.dropWhile (fun c => c != x)).tail
def hasB (x : UInt8) (s : List UInt8) : Bool := s.any (fun c => c == x)
theorem index_tail (x : UInt8) (c : UInt8) (l : List UInt8) (h : (c == x) = false) : Go.Lib.index (c :: l) [x] = if Go.Lib.index l [x] == -1 then -1 else Go.Lib.index l [x] + 1 := by
  have hp : ([x] : List UInt8).isPrefixOf (c :: l) = false := by
    have : ¬ x = c := fun e => by rw [← e, beq_self_eq_true] at h; cases h
    simp [List.isPrefixOf, this]
  rw [Go.Lib.index, hp]
  rfl
theorem cut_say (x : UInt8) (s : List UInt8) : (Go.Lib.cut s [x]).1 = aheadOf x s ∧ (Go.Lib.cut s [x]).2.1 = behind x s ∧ (Go.Lib.cut s [x]).2.2 = hasB x s := by
  unfold aheadOf behind hasB Go.Lib.cut
  induction s with
  | nil =>
    have : Go.Lib.index [] [x] = -1 := by simp [Go.Lib.index]
    rw [this]
    exact ⟨rfl, rfl, rfl⟩
  | cons c l ih =>
    by_cases hc : c = x
    · subst hc
      have hix : Go.Lib.index (c :: l) [c] = 0 := by rw [Go.Lib.index]; simp [List.isPrefixOf]
      rw [hix]
      simp
    · have hq : (c == x) = false := by simpa using hc
      have hn : (c != x) = true := by simp [hc]
      rw [index_tail x c l hq, List.takeWhile_cons, hn, List.dropWhile_cons, hn, List.any_cons, hq]
      have hge := Go.Lib.index_ge l [x]
      by_cases hm : Go.Lib.index l [x] = -1
      · rw [hm] at ih ⊢
        simp at ih ⊢
        exact ⟨ih.1, ih.2⟩
      · obtain ⟨i, hi⟩ : ∃ i : Nat, Go.Lib.index l [x] = i := ⟨(Go.Lib.index l [x]).toNat, by omega⟩
        rw [hi] at ih ⊢
        have h1 : ((i : Int) == -1) = false := beq_eq_false_iff_ne.2 (by omega)
        have h3 : ((i : Int) + 1).toNat = i + 1 := by omega
        have h4 : (0 : Int) ≤ (i : Int) + 1 := by omega
        have h5 : (0 : Int) ≤ (i : Int) := by omega
        simp only [h1, h3, h4, h5, if_true, Bool.false_eq_true, if_false, Bool.false_or] at ih ⊢
        rw [show i + 1 + ([x] : List UInt8).length = (i + [x].length) + 1 from rfl, List.take_succ_cons, List.drop_succ_cons]
        exact ⟨by rw [← ih.1]; simp, ih.2.1, ih.2.2⟩
end Go.Proofs.YtblpooddamkfdaaGreatDoor.CutAt

/- Layer 6: a host, an authority, over lists of bytes. No program is named. -/
namespace Go.Proofs.YtblpooddamkfdaaGreatDoor.HostPure
open LexPure Bytes LexNum CutAt
def alnum (c : UInt8) : Bool := (decide (48 ≤ c.toNat) && decide (c.toNat ≤ 57)) || (decide (65 ≤ c.toNat) && decide (c.toNat ≤ 90)) || (decide (97 ≤ c.toNat) && decide (c.toNat ≤ 122))
def hostC (c : UInt8) : Bool := alnum c || c == 45 || c == 46
/-- two dots side by side -/
def dotted : List UInt8 → Bool
  | a :: b :: s => (a == 46 && b == 46) || dotted (b :: s)
  | _ => false
def host (s : List UInt8) : Bool := !s.isEmpty && decide (s.length ≤ 64) && !dotted s && s.all hostC && alnum (s.headD 0) && alnum (s.getLastD 0)
def portOk (d : List UInt8) : Bool := numOk 10 5 d && decide (1 ≤ numR 10 5 d) && decide (numR 10 5 d ≤ 65535)
def authO (s : List UInt8) : Option (List UInt8 × Int) :=
  if host (aheadOf 58 s) then
    if hasB 58 s then (if portOk (behind 58 s) then some (lower (aheadOf 58 s), numR 10 5 (behind 58 s)) else none)
    else some (lower (aheadOf 58 s), 0)
  else none
def authH (s : List UInt8) : List UInt8 := match authO s with | some (h, _) => h | none => []
def authP (s : List UInt8) : Int := match authO s with | some (_, p) => p | none => 0
def authE (s : List UInt8) : Int := if (authO s).isSome then 0 else 61

/-! ### bytes -/
theorem small_alnum (b : UInt8) : alnum (small b) = alnum b := by
  have := all_bytes (p := fun b => alnum (small b) == alnum b) (by decide +kernel) b
  simpa using this
theorem small_hostC (b : UInt8) : hostC (small b) = hostC b := by
  have := all_bytes (p := fun b => hostC (small b) == hostC b) (by decide +kernel) b
  simpa using this
theorem small_46 (b : UInt8) : (small b == 46) = (b == 46) := by
  have := all_bytes (p := fun b => (small b == 46) == (b == 46)) (by decide +kernel) b
  simpa using this
theorem small_58 (b : UInt8) : (small b == 58) = (b == 58) := by
  have := all_bytes (p := fun b => (small b == 58) == (b == 58)) (by decide +kernel) b
  simpa using this
theorem small_58n (b : UInt8) : (small b != 58) = (b != 58) := by unfold bne; rw [small_58]
theorem small_dig (b : UInt8) : dig (small b) = dig b := by
  have := all_bytes (p := fun b => dig (small b) == dig b) (by decide +kernel) b
  simpa using this
theorem hostC_58 (b : UInt8) (h : hostC b = true) : (b != 58) = true := by
  have := all_bytes (p := fun b => !hostC b || (b != 58)) (by decide +kernel) b
  rw [h] at this
  simpa using this

/-! ### small letters -/
theorem dotted_lower : ∀ s : List UInt8, dotted (lower s) = dotted s
  | [] => rfl
  | [_] => rfl
  | a :: b :: s => by
    have ih := dotted_lower (b :: s)
    unfold lower at ih ⊢
    rw [List.map_cons] at ih
    rw [List.map_cons, List.map_cons, dotted, dotted, ih, small_46, small_46]
theorem headD_lower (s : List UInt8) : alnum ((lower s).headD 0) = alnum (s.headD 0) := by
  cases s with
  | nil => rfl
  | cons c s => exact small_alnum c
theorem getLastD_lower (s : List UInt8) : alnum ((lower s).getLastD 0) = alnum (s.getLastD 0) := by
  unfold lower
  rw [List.getLastD_eq_getLast?, List.getLastD_eq_getLast?, List.getLast?_map]
  cases s.getLast? with
  | none => rfl
  | some c => exact small_alnum c
theorem host_lower (s : List UInt8) : host (lower s) = host s := by
  unfold host
  rw [dotted_lower, headD_lower, getLastD_lower, lower_length]
  have h1 : (lower s).isEmpty = s.isEmpty := by cases s <;> rfl
  have h2 : (lower s).all hostC = s.all hostC := by
    unfold lower
    rw [List.all_map]
    congr 1
    funext c
    exact small_hostC c
  rw [h1, h2]
theorem ahead_lower (s : List UInt8) : aheadOf 58 (lower s) = lower (aheadOf 58 s) := by
  unfold aheadOf lower
  rw [List.takeWhile_map]
  congr 2
  funext c
  exact small_58n c
theorem behind_lower (s : List UInt8) : behind 58 (lower s) = lower (behind 58 s) := by
  unfold behind lower
  rw [List.dropWhile_map, List.map_tail]
  congr 3
  funext c
  exact small_58n c
theorem has_lower (s : List UInt8) : hasB 58 (lower s) = hasB 58 s := by
  unfold hasB lower
  rw [List.any_map]
  congr 1
  funext c
  exact small_58 c
theorem numV_lower (b : Nat) (s : List UInt8) : numV b (lower s) = numV b s := by
  unfold numV lower
  rw [List.foldl_map]
  congr 1
  funext n c
  rw [small_dig]
theorem numOk_lower (b : Nat) (d : Int) (s : List UInt8) : numOk b d (lower s) = numOk b d s := by
  unfold numOk
  rw [lower_length]
  have h1 : (lower s).isEmpty = s.isEmpty := by cases s <;> rfl
  have h2 : (lower s).all (fun c => decide (dig c < b)) = s.all (fun c => decide (dig c < b)) := by
    unfold lower
    rw [List.all_map]
    congr 1
    funext c
    simp only [Function.comp_apply, small_dig]
  rw [h1, h2]
theorem numR_lower (b : Nat) (d : Int) (s : List UInt8) : numR b d (lower s) = numR b d s := by
  unfold numR
  rw [numOk_lower, numV_lower]
theorem portOk_lower (s : List UInt8) : portOk (lower s) = portOk s := by
  unfold portOk
  rw [numOk_lower, numR_lower]
/-- the case of letters doesn't matter -/
theorem authO_lower (s : List UInt8) : authO (lower s) = authO s := by
  unfold authO
  rw [ahead_lower, has_lower, behind_lower, host_lower, portOk_lower, numR_lower, lower_lower]

/-! ### what is told is an authority that means itself -/
theorem ahead_all {s : List UInt8} (h : s.all (fun c => c != 58) = true) (r : List UInt8) : aheadOf 58 (s ++ 58 :: r) = s ∧ behind 58 (s ++ 58 :: r) = r ∧ hasB 58 (s ++ 58 :: r) = true := by
  have h' : ∀ a ∈ s, (a != 58) = true := List.all_eq_true.1 h
  refine ⟨?_, ?_, ?_⟩
  · unfold aheadOf
    rw [List.takeWhile_append_of_pos h', List.takeWhile_cons]
    simp
  · unfold behind
    rw [List.dropWhile_append_of_pos h', List.dropWhile_cons]
    simp
  · unfold hasB
    simp
theorem ahead_self {s : List UInt8} (h : s.all (fun c => c != 58) = true) : aheadOf 58 s = s ∧ hasB 58 s = false := by
  have h' : ∀ a ∈ s, (a != 58) = true := List.all_eq_true.1 h
  refine ⟨?_, ?_⟩
  · have := List.takeWhile_append_of_pos (l₂ := []) h'
    rw [List.append_nil] at this
    unfold aheadOf
    rw [this]
    simp
  · unfold hasB
    rw [List.any_eq_false]
    intro a ha
    simpa using h' a ha
theorem host_no58 {s : List UInt8} (h : host s = true) : s.all (fun c => c != 58) = true := by
  unfold host at h
  simp only [Bool.and_eq_true] at h
  rw [List.all_eq_true]
  exact fun c hc => hostC_58 c (List.all_eq_true.1 h.1.1.2 c hc)
theorem authO_some {s h : List UInt8} {p : Int} (e : authO s = some (h, p)) : host h = true ∧ lower h = h ∧ 0 ≤ p ∧ p ≤ 65535 := by
  unfold authO at e
  split at e
  · rename_i hh
    split at e
    · split at e
      · rename_i hp
        unfold portOk at hp
        simp only [Bool.and_eq_true, decide_eq_true_eq] at hp
        injection e with e
        injection e with e1 e2
        subst e1; subst e2
        exact ⟨by rw [host_lower]; exact hh, lower_lower _, by omega, hp.2⟩
      · cases e
    · injection e with e
      injection e with e1 e2
      subst e1; subst e2
      exact ⟨by rw [host_lower]; exact hh, lower_lower _, by decide, by decide⟩
  · cases e
theorem authO_host {h : List UInt8} (hh : host h = true) (hl : lower h = h) : authO h = some (h, 0) := by
  obtain ⟨h1, h2⟩ := ahead_self (host_no58 hh)
  unfold authO
  rw [h1, h2, hh, hl]
  rfl
theorem authO_port {h : List UInt8} (hh : host h = true) (hl : lower h = h) : authO (h ++ [58, 48, 48, 48, 56, 48]) = some (h, 80) := by
  obtain ⟨h1, h2, h3⟩ := ahead_all (host_no58 hh) [48, 48, 48, 56, 48]
  unfold authO
  rw [h1, h2, h3, hh, hl]
  rfl
theorem auth_none {s : List UInt8} (h : authO s = none) : authH s = [] ∧ authP s = 0 ∧ authE s = 61 := by
  unfold authH authP authE; rw [h]; exact ⟨rfl, rfl, rfl⟩
theorem auth_some {s h : List UInt8} {p : Int} (e : authO s = some (h, p)) : authH s = h ∧ authP s = p ∧ authE s = 0 := by
  unfold authH authP authE; rw [e]; exact ⟨rfl, rfl, rfl⟩
theorem host_len {s : List UInt8} (h : host s = true) : s.length ≤ 64 := by
  unfold host at h
  simp only [Bool.and_eq_true, decide_eq_true_eq] at h
  exact h.1.1.1.1.2
theorem host_ne {s : List UInt8} (h : host s = true) : s ≠ [] := by
  intro e
  subst e
  cases h
end Go.Proofs.YtblpooddamkfdaaGreatDoor.HostPure

/- Layer 6: a host of small letters, byte by byte. No program is named. -/
namespace Go.Proofs.YtblpooddamkfdaaGreatDoor.RHostPure
open LexPure Bytes HostPure
def ral (c : UInt8) : Bool := (decide (97 ≤ c.toNat) && decide (c.toNat ≤ 122)) || (decide (48 ≤ c.toNat) && decide (c.toNat ≤ 57))
def rhost (s : List UInt8) : Bool := !s.isEmpty && decide (s.length ≤ 64) && !dotted s && s.all (fun c => ral c || c == 45 || c == 46) && ral (s.headD 0) && ral (s.getLastD 0)
theorem ral_small (b : UInt8) : ral (small b) = alnum (small b) := by
  have := all_bytes (p := fun b => ral (small b) == alnum (small b)) (by decide +kernel) b
  simpa using this
theorem rhost_lower (s : List UInt8) : rhost (lower s) = host (lower s) := by
  unfold rhost host
  have h1 : (lower s).all (fun c => ral c || c == 45 || c == 46) = (lower s).all hostC := by
    unfold lower
    rw [List.all_map, List.all_map]
    congr 1
    funext c
    simp only [Function.comp_apply, hostC, ral_small]
  have h2 : ral ((lower s).headD 0) = alnum ((lower s).headD 0) := by
    cases s with
    | nil => rfl
    | cons c s => exact ral_small c
  have h3 : ral ((lower s).getLastD 0) = alnum ((lower s).getLastD 0) := by
    unfold lower
    rw [List.getLastD_eq_getLast?, List.getLast?_map]
    cases s.getLast? with
    | none => rfl
    | some c => exact ral_small c
  rw [h1, h2, h3]
/-- what is asked of the byte at j -/
def Good (s : List UInt8) (j : Nat) : Prop := ∃ c, s[j]? = some c ∧ (ral c = true ∨ (j ≠ 0 ∧ j + 1 ≠ s.length ∧ (c = 45 ∨ (c = 46 ∧ s[j - 1]? ≠ some 46))))
theorem dotted_at : ∀ (s : List UInt8) (i : Nat), s[i]? = some 46 → s[i + 1]? = some 46 → dotted s = true
  | [], _, h, _ => by simp at h
  | [_], i, _, h => by simp at h
  | a :: b :: s, 0, h1, h2 => by
    simp at h1 h2
    subst h1; subst h2
    rfl
  | a :: b :: s, i + 1, h1, h2 => by
    have := dotted_at (b :: s) i (by simpa using h1) (by simpa using h2)
    rw [dotted, this, Bool.or_true]
theorem dotted_ex : ∀ (s : List UInt8), dotted s = true → ∃ i : Nat, s[i]? = some 46 ∧ s[i + 1]? = some 46
  | [], h => by cases h
  | [_], h => by cases h
  | a :: b :: s, h => by
    rw [dotted, Bool.or_eq_true] at h
    rcases h with h | h
    · rw [Bool.and_eq_true, beq_iff_eq, beq_iff_eq] at h
      obtain ⟨rfl, rfl⟩ := h
      exact ⟨0, rfl, rfl⟩
    · obtain ⟨i, h1, h2⟩ := dotted_ex (b :: s) h
      exact ⟨i + 1, by simpa using h1, by simpa using h2⟩
theorem rhost_iff (s : List UInt8) : rhost s = true ↔ 1 ≤ s.length ∧ s.length ≤ 64 ∧ ∀ j, j < s.length → Good s j := by
  unfold rhost
  constructor
  · intro h
    simp only [Bool.and_eq_true, decide_eq_true_eq] at h
    obtain ⟨⟨⟨⟨⟨h1, h2⟩, h3⟩, h4⟩, h5⟩, h6⟩ := h
    have hne : 1 ≤ s.length := by
      cases s with
      | nil => cases h1
      | cons => simp
    refine ⟨hne, h2, fun j hj => ?_⟩
    have hg : s[j]? = some s[j] := List.getElem?_eq_getElem hj
    refine ⟨s[j], hg, ?_⟩
    by_cases hr : ral s[j] = true
    · exact .inl hr
    · right
      have h7 := List.all_eq_true.1 h4 s[j] (List.getElem_mem hj)
      refine ⟨fun e => hr ?_, fun e => hr ?_, ?_⟩
      · subst e
        rw [List.headD_eq_head?_getD, List.head?_eq_getElem?, hg] at h5
        exact h5
      · rw [List.getLastD_eq_getLast?, List.getLast?_eq_getElem?, show s.length - 1 = j by omega, hg] at h6
        exact h6
      · simp only [Bool.or_eq_true, beq_iff_eq] at h7
        rcases h7 with (h7 | h7) | h7
        · exact absurd h7 hr
        · exact .inl h7
        · refine .inr ⟨h7, fun e => ?_⟩
          cases j with
          | zero =>
            apply hr
            rw [List.headD_eq_head?_getD, List.head?_eq_getElem?, hg] at h5
            exact h5
          | succ i =>
            have := dotted_at s i (by simpa using e) (by rw [hg, h7])
            rw [this] at h3
            cases h3
  · rintro ⟨h1, h2, h3⟩
    have hne : s.isEmpty = false := by
      cases s with
      | nil => simp at h1
      | cons => rfl
    have hd : dotted s = false := by
      cases h : dotted s with
      | false => rfl
      | true =>
        obtain ⟨i, e1, e2⟩ := dotted_ex s h
        have hi := (List.getElem?_eq_some_iff.1 e2).1
        obtain ⟨c, hc, h4⟩ := h3 (i + 1) hi
        rw [e2] at hc
        obtain rfl := Option.some.inj hc
        rcases h4 with h4 | ⟨_, _, h4 | ⟨_, h4⟩⟩
        · exact absurd h4 (by decide)
        · exact absurd h4 (by decide)
        · exact absurd e1 h4
    have ha : s.all (fun c => ral c || c == 45 || c == 46) = true := by
      rw [List.all_eq_true]
      intro c hc
      obtain ⟨j, hj, rfl⟩ := List.mem_iff_getElem.1 hc
      obtain ⟨c, h4, h5⟩ := h3 j hj
      rw [List.getElem?_eq_getElem hj] at h4
      rw [Option.some.inj h4]
      rcases h5 with h5 | ⟨_, _, rfl | ⟨rfl, _⟩⟩
      · rw [h5]; rfl
      · decide
      · decide
    have hh : ral (s.headD 0) = true := by
      obtain ⟨c, h4, h5⟩ := h3 0 (by omega)
      rw [List.headD_eq_head?_getD, List.head?_eq_getElem?, h4]
      rcases h5 with h5 | ⟨h5, _⟩
      · exact h5
      · exact absurd rfl h5
    have hl : ral (s.getLastD 0) = true := by
      obtain ⟨c, h4, h5⟩ := h3 (s.length - 1) (by omega)
      rw [List.getLastD_eq_getLast?, List.getLast?_eq_getElem?, h4]
      rcases h5 with h5 | ⟨_, h5, _⟩
      · exact h5
      · exact absurd (by omega) h5
    rw [hne, hd, ha, hh, hl, decide_eq_true h2]
    rfl
theorem rhost_not {s : List UInt8} {j : Nat} (hj : j < s.length) (h : ¬ Good s j) : rhost s = false := by
  cases hr : rhost s with
  | false => rfl
  | true => exact absurd ((rhost_iff s).1 hr |>.2.2 j hj) h
end Go.Proofs.YtblpooddamkfdaaGreatDoor.RHostPure

/- Layer 6, the document's own alnum, Host. -/
namespace Go.Proofs.YtblpooddamkfdaaGreatDoor.RHost
open Go.ChangeShapes Go.WideShapes Go.ChangeAt Go.RowKit LexPure Bytes Ret HostPure RHostPure
set_option maxRecDepth 20000
theorem ral_cases (b : UInt8) : ral b = decide ((97 ≤ (b.toNat : Int) ∧ (b.toNat : Int) ≤ 122) ∨ (48 ≤ (b.toNat : Int) ∧ (b.toNat : Int) ≤ 57)) := by
  have := all_bytes (p := fun b => ral b == decide ((97 ≤ (b.toNat : Int) ∧ (b.toNat : Int) ≤ 122) ∨ (48 ≤ (b.toNat : Int) ∧ (b.toNat : Int) ≤ 57))) (by decide +kernel) b
  simpa only [beq_iff_eq] using this
theorem ralnum_any (b : UInt8) (w : World) :
    Calls Tryz.prog 86 #[.int .u8 (b.toNat : Int)] w fun e w' => e = .returned (.bool (ral b)) ∧ w = w' := by
  rw [ral_cases]
  generalize (b.toNat : Int) = c
  go_enter Tryz.func86, Tryz.ntmps86
  go_wp2_with fail
  all_goals
    go_ret
    refine ⟨ret_bool ?_, rfl⟩
  all_goals first
    | rfl
    | exact Eq.symm (decide_eq_true (by omega))
    | exact Eq.symm (decide_eq_false (by omega))
    | (rw [Bool.eq_iff_iff]; simp only [Bool.or_eq_true, Bool.and_eq_true, decide_eq_true_eq]; omega)
    | (rw [Bool.eq_iff_iff]; simp only [Bool.or_eq_true, Bool.and_eq_true, decide_eq_true_eq, Bool.false_eq_true, false_iff]; omega)
    | trace_state
theorem mark_cases (b : UInt8) : (b = 45 ∧ ((b.toNat : Int) != 45) = false ∧ ((b.toNat : Int) == 46) = false ∧ ((b.toNat : Int) != 46) = true) ∨ (b = 46 ∧ ((b.toNat : Int) != 45) = true ∧ ((b.toNat : Int) == 46) = true ∧ ((b.toNat : Int) != 46) = false) ∨ (b ≠ 45 ∧ b ≠ 46 ∧ ((b.toNat : Int) != 45) = true ∧ ((b.toNat : Int) == 46) = false ∧ ((b.toNat : Int) != 46) = true) := by
  have := all_bytes (p := fun b => decide ((b = 45 ∧ ((b.toNat : Int) != 45) = false ∧ ((b.toNat : Int) == 46) = false ∧ ((b.toNat : Int) != 46) = true) ∨ (b = 46 ∧ ((b.toNat : Int) != 45) = true ∧ ((b.toNat : Int) == 46) = true ∧ ((b.toNat : Int) != 46) = false) ∨ (b ≠ 45 ∧ b ≠ 46 ∧ ((b.toNat : Int) != 45) = true ∧ ((b.toNat : Int) == 46) = false ∧ ((b.toNat : Int) != 46) = true))) (by decide +kernel) b
  exact of_decide_eq_true this
set_option maxHeartbeats 1600000 in
theorem rhost_any (s : ByteArray) (hs : s.size ≤ 140737488351232) (w : World) :
    Calls Tryz.prog 72 #[.string s] w fun e w' => e = .returned (.bool (rhost (toL s))) ∧ w = w' := by
  by_cases hlen : 1 ≤ s.size ∧ s.size ≤ 64
  rotate_left
  · have hv : rhost (toL s) = false := by
      cases h : rhost (toL s) with
      | false => rfl
      | true =>
        have := (rhost_iff _).1 h
        rw [toL_length] at this
        exact absurd ⟨this.1, this.2.1⟩ hlen
    rw [hv]
    rcases (show (s.size : Int) < 1 ∨ (1 ≤ (s.size : Int) ∧ 64 < (s.size : Int)) by omega) with h | ⟨h, h2⟩
    all_goals
      clear hv hlen
      go_enter Tryz.func72, Tryz.ntmps72
      go_wp2_with fail
      go_ret
      exact ⟨rfl, rfl⟩
  obtain ⟨hl1, hl2⟩ := hlen
  have i1 : ¬ (s.size : Int) < 1 := by omega
  have i2 : ¬ 64 < (s.size : Int) := by omega
  go_enter Tryz.func72, Tryz.ntmps72
  go_wp2_with fail
  go_loop [3] (fun i => ∃ k : Nat, k ≤ s.size ∧ i = .int .i64 k ∧ Hid (∀ j, j < k → RHostPure.Good (toL s) j)) (fun i => s.size - (intOf i).toNat)
  case atStart => exact ⟨0, Nat.zero_le _, rfl, Lib.hid (fun j hj => by omega)⟩
  case round =>
    obtain ⟨k, hk, rfl, ha⟩ := hrel
    by_cases hlt : k < s.size
    · have hki : (k : Int) < (s.size : Int) := by omega
      have HG := Lib.hid (toL_get s k hlt)
      have HC := Lib.hid (fun w => ralnum_any s[k] w)
      have HN : RHostPure.Good (toL s) k → Hid (∀ j, j < k + 1 → RHostPure.Good (toL s) j) := fun hg => Lib.hid (fun j hj => by
        rcases Nat.lt_or_ge j k with h | h
        · exact ha.out j h
        · obtain rfl : j = k := by omega
          exact hg)
      have HF : ¬ RHostPure.Good (toL s) k → Hid (rhost (toL s) = false) := fun hg => Lib.hid (rhost_not (by rw [toL_length]; exact hlt) hg)
      have hpos : (k = 0 ∧ Hid (k = 0) ∧ ((k : Int) == 0) = true) ∨ (Hid (k ≠ 0 ∧ k + 1 = s.size) ∧ ((k : Int) == 0) = false ∧ ∃ eb : Bool, Hid (eb = true) ∧ ((k : Int) == (s.size : Int) - 1) = eb) ∨ (Hid (k ≠ 0 ∧ k + 1 ≠ s.size) ∧ ((k : Int) == 0) = false ∧ ((k : Int) == (s.size : Int) - 1) = false) := by
        by_cases h0 : k = 0
        · exact .inl ⟨h0, Lib.hid h0, by rw [h0]; rfl⟩
        · have e0 : ((k : Int) == 0) = false := beq_eq_false_iff_ne.2 (by omega)
          by_cases h1 : k + 1 = s.size
          · exact .inr (.inl ⟨Lib.hid ⟨h0, h1⟩, e0, true, Lib.hid rfl, by rw [beq_iff_eq]; omega⟩)
          · exact .inr (.inr ⟨Lib.hid ⟨h0, h1⟩, e0, beq_eq_false_iff_ne.2 (by omega)⟩)
      by_cases hr : ral s[k] = true
      · have HA := HN ⟨s[k], HG.out, .inl hr⟩
        rw [hr] at HC
        clear hr HG HN HF ha
        rcases hpos with ⟨rfl, _, e0⟩ | ⟨_, e0, eb, heb, e1⟩ | ⟨_, e0, e1⟩
        · clear e0
          go_wp2_with fail
          refine (HC.out _).mono ?_
          rintro e w' ⟨rfl, rfl⟩
          go_wp2_with fail
          go_round
          case rel => exact ⟨1, by omega, by go_num, HA⟩
          case measure => simp [intOf]; omega
        · go_wp2_with fail
          clear e1
          obtain rfl := heb.out
          refine (HC.out _).mono ?_
          rintro e w' ⟨rfl, rfl⟩
          go_wp2_with fail
          go_round
          case rel => exact ⟨k + 1, by omega, by go_num, HA⟩
          case measure => simp [intOf]; omega
        · go_wp2_with fail
          refine (HC.out _).mono ?_
          rintro e w' ⟨rfl, rfl⟩
          go_wp2_with fail
          go_round
          case rel => exact ⟨k + 1, by omega, by go_num, HA⟩
          case measure => simp [intOf]; omega
      · have hrf : ral s[k] = false := by simpa using hr
        rcases hpos with ⟨rfl, h0, e0⟩ | ⟨h0, e0, eb, heb, e1⟩ | ⟨h0, e0, e1⟩
        · have HV := HF (by
            rintro ⟨c, hc, h | ⟨h, _⟩⟩
            · rw [HG.out] at hc; exact hr (by rw [Option.some.inj hc]; exact h)
            · exact h h0.out)
          rw [hrf] at HC
          clear hr hrf HG HN HF ha h0
          clear e0
          go_wp2_with (refine (HC.out _).mono ?_; rintro e w' ⟨rfl, rfl⟩)
          go_ret
          exact ⟨ret_bool HV.out.symm, rfl⟩
        · have HV := HF (by
            rintro ⟨c, hc, h | ⟨_, h, _⟩⟩
            · rw [HG.out] at hc; exact hr (by rw [Option.some.inj hc]; exact h)
            · exact h (by rw [toL_length]; exact h0.out.2))
          rw [hrf] at HC
          clear hr hrf HG HN HF ha h0
          go_wp2_with fail
          clear e1
          obtain rfl := heb.out
          refine (HC.out _).mono ?_
          rintro e w' ⟨rfl, rfl⟩
          go_wp2_with fail
          go_ret
          exact ⟨ret_bool HV.out.symm, rfl⟩
        · rcases mark_cases s[k] with ⟨m0, m1, m2, m3⟩ | ⟨m0, m1, m2, m3⟩ | ⟨m0, m4, m1, m2, m3⟩
          · have HA := HN ⟨s[k], HG.out, .inr ⟨h0.out.1, by rw [toL_length]; exact h0.out.2, .inl m0⟩⟩
            rw [hrf] at HC
            clear hr hrf HG HN HF ha h0 m0
            go_wp2_with (refine (HC.out _).mono ?_; rintro e w' ⟨rfl, rfl⟩)
            go_round
            case rel => exact ⟨k + 1, by omega, by go_num, HA⟩
            case measure => simp [intOf]; omega
          · obtain ⟨j, rfl⟩ : ∃ j, k = j + 1 := ⟨k - 1, by have := h0.out.1; omega⟩
            have hj : j < s.size := by omega
            have hji : (j : Int) < (s.size : Int) := by omega
            have GJ := Lib.hid (toL_get s j hj)
            have e2 : ((j : Int) + 1 == 0) = false := beq_eq_false_iff_ne.2 (by omega)
            have e3 : ((j : Int) + 1 == (s.size : Int) - 1) = false := beq_eq_false_iff_ne.2 (fun h => h0.out.2 (by omega))
            have e4 : (j : Int) + 1 < (s.size : Int) := by omega
            have e5 : (0 : Int) ≤ (j : Int) + 1 := by omega
            clear e0 e1 hki
            rcases (show ((s[j].toNat : Int) == 46) = true ∧ s[j] = 46 ∨ ((s[j].toNat : Int) == 46) = false ∧ s[j] ≠ 46 by
              rcases mark_cases s[j] with ⟨n0, _, n2, _⟩ | ⟨n0, _, n2, _⟩ | ⟨_, n0, _, n2, _⟩
              · exact .inr ⟨n2, by rw [n0]; decide⟩
              · exact .inl ⟨n2, n0⟩
              · exact .inr ⟨n2, n0⟩) with ⟨n1, n2⟩ | ⟨n1, n2⟩
            · have HV := HF (by
                rintro ⟨c, hc, h | ⟨_, _, h | ⟨_, h⟩⟩⟩
                · rw [HG.out] at hc; exact hr (by rw [Option.some.inj hc]; exact h)
                · rw [HG.out, m0] at hc
                  rw [← Option.some.inj hc] at h
                  exact absurd h (by decide)
                · exact h (by rw [Nat.add_sub_cancel, GJ.out, n2]))
              rw [hrf] at HC
              clear hr hrf HG HN HF ha h0 m0 n2 GJ
              go_wp2_with (refine (HC.out _).mono ?_; rintro e w' ⟨rfl, rfl⟩)
              go_ret
              exact ⟨ret_bool HV.out.symm, rfl⟩
            · have HA := HN ⟨s[j + 1], HG.out, .inr ⟨h0.out.1, by rw [toL_length]; exact h0.out.2, .inr ⟨m0, by rw [Nat.add_sub_cancel, GJ.out]; exact fun e => n2 (Option.some.inj e)⟩⟩⟩
              rw [hrf] at HC
              clear hr hrf HG HN HF ha h0 m0 n2 GJ
              go_wp2_with (refine (HC.out _).mono ?_; rintro e w' ⟨rfl, rfl⟩)
              go_round
              case rel => exact ⟨j + 1 + 1, by omega, by go_num, HA⟩
              case measure => simp [intOf]; omega
          · have HV := HF (by
              rintro ⟨c, hc, h | ⟨_, _, h | ⟨h, _⟩⟩⟩
              · rw [HG.out] at hc; exact hr (by rw [Option.some.inj hc]; exact h)
              · rw [HG.out] at hc; exact m0 (by rw [Option.some.inj hc]; exact h)
              · rw [HG.out] at hc; exact m4 (by rw [Option.some.inj hc]; exact h))
            rw [hrf] at HC
            clear hr hrf HG HN HF ha h0 m0 m4
            go_wp2_with (refine (HC.out _).mono ?_; rintro e w' ⟨rfl, rfl⟩)
            go_ret
            exact ⟨ret_bool HV.out.symm, rfl⟩
    · have HV : Hid (rhost (toL s) = true) := Lib.hid ((rhost_iff _).2 ⟨by rw [toL_length]; omega, by rw [toL_length]; omega, fun j hj => ha.out j (by rw [toL_length] at hj; omega)⟩)
      clear ha
      go_wp2_with fail
      go_ret
      exact ⟨ret_bool HV.out.symm, rfl⟩
end Go.Proofs.YtblpooddamkfdaaGreatDoor.RHost

/- Layer 6, the document's own Authority. -/
namespace Go.Proofs.YtblpooddamkfdaaGreatDoor.RAuth
open Go.ChangeShapes Go.WideShapes Go.ChangeAt Go.RowKit LexPure Bytes Ret CutAt LexNum HostPure RHostPure RHost RLower RDecimal Mem
set_option maxRecDepth 20000
theorem end_none {s : ByteArray} {x : UInt8} {k : Nat} (hk : k = s.size) (ha : ((toL s).take k).all (fun c => c != x) = true) : aheadOf x (toL s) = (toL s).take k ∧ behind x (toL s) = [] ∧ hasB x (toL s) = false := by
  rw [toL_take_all s (by omega)] at ha ⊢
  have h' : ∀ a ∈ toL s, (a != x) = true := List.all_eq_true.1 ha
  refine ⟨?_, ?_, ?_⟩
  · have := List.takeWhile_append_of_pos (l₂ := []) h'
    rw [List.append_nil] at this
    unfold aheadOf
    rw [this]
    simp
  · have := List.dropWhile_append_of_pos (l₂ := []) h'
    rw [List.append_nil] at this
    unfold behind
    rw [this]
    rfl
  · unfold hasB
    rw [List.any_eq_false]
    intro a hm
    simpa using h' a hm
theorem end_some {s : ByteArray} {x : UInt8} {k : Nat} (hk : k < s.size) (hx : s[k] = x) (ha : ((toL s).take k).all (fun c => c != x) = true) : aheadOf x (toL s) = (toL s).take k ∧ behind x (toL s) = (toL s).drop (k + 1) ∧ hasB x (toL s) = true := by
  have h' : ∀ a ∈ (toL s).take k, (a != x) = true := List.all_eq_true.1 ha
  have hs : toL s = (toL s).take k ++ x :: (toL s).drop (k + 1) := by
    have := toL_drop s k hk
    rw [hx] at this
    rw [← this, List.take_append_drop]
  generalize (toL s).take k = A at *
  generalize (toL s).drop (k + 1) = B at *
  rw [hs]
  refine ⟨?_, ?_, ?_⟩
  · unfold aheadOf
    rw [List.takeWhile_append_of_pos h', List.takeWhile_cons]
    simp
  · unfold behind
    rw [List.dropWhile_append_of_pos h', List.dropWhile_cons]
    simp
  · unfold hasB
    simp
theorem numR_ge (b : Nat) (d : Int) (s : List UInt8) : 0 ≤ numR b d s := by
  unfold numR
  split
  · omega
  · exact Int.le_refl _
theorem x_cases (x b : UInt8) : (b = x ∧ ((b.toNat : Int) != (x.toNat : Int)) = false) ∨ (b ≠ x ∧ ((b.toNat : Int) != (x.toNat : Int)) = true) := by
  by_cases h : b = x
  · left; subst h; exact ⟨rfl, by simp⟩
  · right
    refine ⟨h, bne_iff_ne.2 (fun e => h (UInt8.toNat_inj.1 (by exact_mod_cast e)))⟩
def oH : Option (List UInt8 × Int) → List UInt8 | some (h, _) => h | none => []
def oP : Option (List UInt8 × Int) → Int | some (_, p) => p | none => 0
def oE : Option (List UInt8 × Int) → Int | some _ => 0 | none => 61
theorem auth_of (s : List UInt8) : authH s = oH (authO s) ∧ authP s = oP (authO s) ∧ authE s = oE (authO s) := by
  unfold authH authP authE oH oP oE
  cases authO s with
  | none => exact ⟨rfl, rfl, rfl⟩
  | some p => exact ⟨rfl, rfl, rfl⟩
set_option maxHeartbeats 1600000 in
theorem rauth_any (s : ByteArray) (hs : s.size ≤ 140737488351232) (w : World) :
    Calls Tryz.prog 50 #[.string s] w fun e w' => e = .returned (.tuple #[.string (ofL (authH (toL s))), .int .i64 (authP (toL s)), .int .i64 (authE (toL s))]) ∧ Below w.heap.size w w' := by
  obtain ⟨v1, v2, v3⟩ := auth_of (toL s)
  rw [v1, v2, v3]
  clear v1 v2 v3
  obtain ⟨x, hx2⟩ : ∃ x, x = authO (toL s) := ⟨_, rfl⟩
  rw [← hx2]
  have HX := Lib.hid hx2
  clear hx2
  go_enter Tryz.func50, Tryz.ntmps50
  go_wp2_with fail
  go_loop [5] (fun i => ∃ k : Nat, k ≤ s.size ∧ i = .int .i64 k ∧ Hid (((toL s).take k).all (fun c => c != 58) = true)) (fun i => s.size - (intOf i).toNat)
  case atStart => exact ⟨0, Nat.zero_le _, rfl, Lib.hid rfl⟩
  case round =>
    obtain ⟨k, hk, rfl, ha⟩ := hrel
    by_cases hlt : k < s.size
    · have hki : (k : Int) < (s.size : Int) := by omega
      have HT := Lib.hid (toL_take_succ s k hlt)
      rcases x_cases 58 s[k] with ⟨hx, hq⟩ | ⟨hx, hq⟩
      · rw [show ((58 : UInt8).toNat : Int) = 58 from rfl] at hq
        obtain ⟨a1, a2, a3⟩ := end_some hlt hx ha.out
        have HL := Lib.hid (fun w => rlower_any (s.extract 0 k) (by rw [ByteArray.size_extract]; omega) w)
        have HH := Lib.hid (fun w => rhost_any (ofL (lower (aheadOf 58 (toL s)))) (by rw [ofL_size, lower_length, a1, List.length_take, toL_length]; omega) w)
        have HD := Lib.hid (fun w => rdecimal_any (s.extract (k + 1) s.size) (by rw [ByteArray.size_extract]; unfold maxLen; omega) 5 w)
        rw [toL_extract, List.drop_zero, ← a1] at HL
        rw [toL_ofL, rhost_lower, host_lower] at HH
        rw [toL_extract, List.take_of_length_le (by rw [toL_length]; exact Nat.le_refl _), ← a2, show min (5 : Int) 18 = 5 from rfl] at HD
        have ne : ((k : Int) == (s.size : Int)) = false := beq_eq_false_iff_ne.2 (by omega)
        have c1 : (k : Int) + 1 ≤ (s.size : Int) := by omega
        have c2 : (0 : Int) ≤ (k : Int) + 1 := by omega
        have c3 : (k : Int) ≤ (s.size : Int) := by omega
        clear HT hx ha a1 a2
        have HY : Hid (x = if host (aheadOf 58 (toL s)) then (if portOk (behind 58 (toL s)) then some (lower (aheadOf 58 (toL s)), numR 10 5 (behind 58 (toL s))) else none) else none) := Lib.hid (by
          rw [HX.out]
          unfold authO
          rw [a3]
          rfl)
        clear a3 HX
        cases hh : host (aheadOf 58 (toL s))
        · have hr : x = none := by rw [HY.out, hh]; rfl
          rw [hh] at HH
          subst hr
          clear HY hh HD
          generalize ofL (lower (aheadOf 58 (toL s))) = L at *
          go_wp2_with fail
          refine (HL.out _).mono ?_
          rintro e w1 ⟨rfl, hb1⟩
          go_wp2_with fail
          refine (HH.out _).mono ?_
          rintro e w2 ⟨rfl, rfl⟩
          go_wp2_with fail
          go_ret3
          exact ⟨rfl, hb1⟩
        · rw [hh] at HH
          cases hp : portOk (behind 58 (toL s))
          · have hr : x = none := by rw [HY.out, hh, hp]; rfl
            subst hr
            have hc : numOk 10 5 (behind 58 (toL s)) = false ∨ (numOk 10 5 (behind 58 (toL s)) = true ∧ numR 10 5 (behind 58 (toL s)) = 0) ∨ (numOk 10 5 (behind 58 (toL s)) = true ∧ (numR 10 5 (behind 58 (toL s)) == 0) = false ∧ 65535 < numR 10 5 (behind 58 (toL s))) := by
              have hge := numR_ge 10 5 (behind 58 (toL s))
              unfold portOk at hp
              cases h : numOk 10 5 (behind 58 (toL s))
              · exact .inl rfl
              · right
                rw [h] at hp
                rcases Int.lt_or_le (numR 10 5 (behind 58 (toL s))) 1 with h2 | h2
                · exact .inl ⟨rfl, by omega⟩
                · rcases Int.lt_or_le 65535 (numR 10 5 (behind 58 (toL s))) with h3 | h3
                  · exact .inr ⟨rfl, beq_eq_false_iff_ne.2 (by omega), h3⟩
                  · rw [decide_eq_true h2, decide_eq_true h3] at hp
                    cases hp
            clear HY hh hp
            rcases hc with h1 | ⟨h1, h2⟩ | ⟨h1, h2, h3⟩
            · rw [h1] at HD
              clear h1
              generalize ofL (lower (aheadOf 58 (toL s))) = L at *
              generalize numR 10 5 (behind 58 (toL s)) = n at *
              go_wp2_with fail
              refine (HL.out _).mono ?_
              rintro e w1 ⟨rfl, hb1⟩
              go_wp2_with fail
              refine (HH.out _).mono ?_
              rintro e w2 ⟨rfl, rfl⟩
              go_wp2_with fail
              refine (HD.out _).mono ?_
              rintro e w3 ⟨rfl, rfl⟩
              go_wp2_with fail
              go_ret3
              exact ⟨rfl, hb1⟩
            · rw [h1, h2] at HD
              clear h1 h2
              generalize ofL (lower (aheadOf 58 (toL s))) = L at *
              go_wp2_with fail
              refine (HL.out _).mono ?_
              rintro e w1 ⟨rfl, hb1⟩
              go_wp2_with fail
              refine (HH.out _).mono ?_
              rintro e w2 ⟨rfl, rfl⟩
              go_wp2_with fail
              refine (HD.out _).mono ?_
              rintro e w3 ⟨rfl, rfl⟩
              go_wp2_with fail
              go_ret3
              exact ⟨rfl, hb1⟩
            · rw [h1] at HD
              clear h1
              generalize ofL (lower (aheadOf 58 (toL s))) = L at *
              generalize numR 10 5 (behind 58 (toL s)) = n at *
              go_wp2_with fail
              refine (HL.out _).mono ?_
              rintro e w1 ⟨rfl, hb1⟩
              go_wp2_with fail
              refine (HH.out _).mono ?_
              rintro e w2 ⟨rfl, rfl⟩
              go_wp2_with fail
              refine (HD.out _).mono ?_
              rintro e w3 ⟨rfl, rfl⟩
              go_wp2_with fail
              go_ret3
              exact ⟨rfl, hb1⟩
          · have hr : x = some (lower (aheadOf 58 (toL s)), numR 10 5 (behind 58 (toL s))) := by rw [HY.out, hh, hp]; rfl
            subst hr
            unfold portOk at hp
            simp only [Bool.and_eq_true, decide_eq_true_eq] at hp
            obtain ⟨⟨p1, p2⟩, p3⟩ := hp
            rw [p1] at HD
            have p4 : (numR 10 5 (behind 58 (toL s)) == 0) = false := beq_eq_false_iff_ne.2 (by omega)
            clear HY hh p1
            go_wp2_with fail
            refine (HL.out _).mono ?_
            rintro e w1 ⟨rfl, hb1⟩
            go_wp2_with fail
            refine (HH.out _).mono ?_
            rintro e w2 ⟨rfl, rfl⟩
            go_wp2_with fail
            refine (HD.out _).mono ?_
            rintro e w3 ⟨rfl, rfl⟩
            go_wp2_with fail
            go_ret3
            exact ⟨rfl, hb1⟩
      · rw [show ((58 : UInt8).toNat : Int) = 58 from rfl] at hq
        have HA : Hid (((toL s).take (k + 1)).all (fun c => c != 58) = true) := Lib.hid (by rw [HT.out, List.all_append, ha.out]; simp [hx])
        clear HT ha hx
        go_wp2_with fail
        go_round
        case rel => exact ⟨k + 1, by omega, by go_num, HA⟩
        case measure => simp [intOf]; omega
    · obtain ⟨a1, a2, a3⟩ := end_none (s := s) (x := 58) (k := k) (by omega) ha.out
      have HL := Lib.hid (fun w => rlower_any (s.extract 0 k) (by rw [ByteArray.size_extract]; omega) w)
      have HH := Lib.hid (fun w => rhost_any (ofL (lower (aheadOf 58 (toL s)))) (by rw [ofL_size, lower_length, a1, List.length_take, toL_length]; omega) w)
      rw [toL_extract, List.drop_zero, ← a1] at HL
      rw [toL_ofL, rhost_lower, host_lower] at HH
      have HKS : Hid (k = s.size) := Lib.hid (by omega)
      obtain ⟨eb, heb, e1⟩ : ∃ eb : Bool, Hid (eb = true) ∧ ((k : Int) == (s.size : Int)) = eb := ⟨true, Lib.hid rfl, by rw [beq_iff_eq]; omega⟩
      have c3 : (k : Int) ≤ (s.size : Int) := by omega
      have c4 : ¬ (k : Int) < (s.size : Int) := by omega
      have HY : Hid (x = if host (aheadOf 58 (toL s)) then some (lower (aheadOf 58 (toL s)), 0) else none) := Lib.hid (by
        rw [HX.out]
        unfold authO
        rw [a3]
        rfl)
      clear a1 a2 a3 ha hlt HKS
      cases hh : host (aheadOf 58 (toL s))
      · have hr : x = none := by rw [HY.out, hh]; rfl
        rw [hh] at HH
        subst hr
        clear HY hh HX
        go_wp2_with fail
        refine (HL.out _).mono ?_
        rintro e w1 ⟨rfl, hb1⟩
        go_wp2_with fail
        refine (HH.out _).mono ?_
        rintro e w2 ⟨rfl, rfl⟩
        go_wp2_with fail
        go_ret3
        exact ⟨rfl, hb1⟩
      · have hr : x = some (lower (aheadOf 58 (toL s)), 0) := by rw [HY.out, hh]; rfl
        rw [hh] at HH
        subst hr
        clear HY hh HX
        go_wp2_with fail
        refine (HL.out _).mono ?_
        rintro e w1 ⟨rfl, hb1⟩
        go_wp2_with fail
        refine (HH.out _).mono ?_
        rintro e w2 ⟨rfl, rfl⟩
        obtain rfl := heb.out
        go_wp2_with fail
        go_ret3
        exact ⟨rfl, hb1⟩
end Go.Proofs.YtblpooddamkfdaaGreatDoor.RAuth

/- Paths: escapes, pieces, the normal form. No program is named. -/
namespace Go.Proofs.YtblpooddamkfdaaGreatDoor.PathPure
open LexPure Bytes

/-- a plain byte -/
def plainP (n : Nat) : Bool := n == 45 || n == 46 || n == 95 || n == 126 || (decide (48 ≤ n) && decide (n ≤ 57)) || (decide (65 ≤ n) && decide (n ≤ 90)) || (decide (97 ≤ n) && decide (n ≤ 122))
/-- a byte that a path may have, but for the sign of an escape -/
def okc (c : UInt8) : Bool := decide (33 ≤ c.toNat) && decide (c.toNat ≤ 126) && c != 63 && c != 35
/-- a large digit -/
def hx (n : Nat) : UInt8 := UInt8.ofNat (if n < 10 then 48 + n else 55 + n)
/-- how a byte that was escaped is written -/
def wr (n : Nat) : List UInt8 := if plainP n then [UInt8.ofNat n] else [37, hx (n / 16), hx (n % 16)]
def two (a b : UInt8) : Nat := 16 * dig a + dig b
def isHex (c : UInt8) : Bool := decide (dig c < 16)
/-- plain escapes undone, the others in large digits -/
def esc : List UInt8 → Option (List UInt8)
  | [] => some []
  | c :: s => if okc c then
      if c == 37 then match s with
        | a :: b :: r => if isHex a && isHex b then (esc r).map (wr (two a b) ++ ·) else none
        | _ => none
      else (esc s).map (c :: ·)
    else none
def escapes : List UInt8 → Option (List UInt8)
  | [] => none
  | c :: s => if c == 47 then esc (c :: s) else none
/-- the pieces between slashes -/
def cuts : List UInt8 → List (List UInt8)
  | [] => [[]]
  | c :: s => if c == 47 then [] :: cuts s else match cuts s with
    | [] => [[c]]
    | p :: ps => (c :: p) :: ps
def isDot (p : List UInt8) : Bool := p.isEmpty || p == [46]
def isUp (p : List UInt8) : Bool := p == [46, 46]
/-- the pieces that are kept -/
def keeps : List (List UInt8) → List (List UInt8) → Option (List (List UInt8))
  | kept, [] => some kept
  | kept, p :: ps => if isDot p then keeps kept ps else if isUp p then (if kept.isEmpty then none else keeps kept.dropLast ps) else keeps (kept ++ [p]) ps
def join (kept : List (List UInt8)) : List UInt8 := kept.flatMap (fun p => 47 :: p)
def endsOpen (ps : List (List UInt8)) : Bool := isDot (ps.getLastD []) || isUp (ps.getLastD [])
def finish (kept : List (List UInt8)) (ps : List (List UInt8)) : List UInt8 := if kept.isEmpty || endsOpen ps then join kept ++ [47] else join kept
def normal (s : List UInt8) : Option (List UInt8) :=
  match escapes s with
  | none => none
  | some t => match keeps [] (cuts t.tail) with
    | none => none
    | some kept => some (finish kept (cuts t.tail))
/-- escapes undone -/
def dec : List UInt8 → Option (List UInt8)
  | [] => some []
  | c :: s => if c == 37 then match s with
      | a :: b :: r => if isHex a && isHex b then (dec r).map (UInt8.ofNat (two a b) :: ·) else none
      | _ => none
    else (dec s).map (c :: ·)
def under (p q : List UInt8) : Bool := p.take q.length == q && (p.length == q.length || p[q.length]? == some 47 || q.getLast? == some 47)

theorem esc_cons (c : UInt8) (s : List UInt8) : esc (c :: s) = if okc c then
      if c == 37 then (match s with
        | a :: b :: r => if isHex a && isHex b then (esc r).map (wr (two a b) ++ ·) else none
        | _ => none)
      else (esc s).map (c :: ·)
    else none := by rw [esc.eq_def]
theorem dec_cons (c : UInt8) (s : List UInt8) : dec (c :: s) = if c == 37 then (match s with
      | a :: b :: r => if isHex a && isHex b then (dec r).map (UInt8.ofNat (two a b) :: ·) else none
      | _ => none)
    else (dec s).map (c :: ·) := by rw [dec.eq_def]
theorem cuts_cons (c : UInt8) (s : List UInt8) : cuts (c :: s) = if c == 47 then [] :: cuts s else (match cuts s with
    | [] => [[c]]
    | p :: ps => (c :: p) :: ps) := by rw [cuts.eq_def]
/-! ### what is escaped once -/
/-- a text in which every byte that need not be escaped isn't -/
inductive Enc : List UInt8 → Prop
  | nil : Enc []
  | one (c : UInt8) (r : List UInt8) : okc c = true → (c == 37) = false → Enc r → Enc (c :: r)
  | tri (n : Nat) (r : List UInt8) : n < 256 → plainP n = false → Enc r → Enc (37 :: hx (n / 16) :: hx (n % 16) :: r)
theorem all_below {p : Nat → Bool} (h : (List.range 256).all p = true) {n : Nat} (hn : n < 256) : p n = true := List.all_eq_true.1 h n (List.mem_range.2 hn)
theorem two_lt {a b : UInt8} (ha : isHex a = true) (hb : isHex b = true) : two a b < 256 := by
  unfold isHex at ha hb
  simp only [decide_eq_true_eq] at ha hb
  unfold two
  omega
theorem hx_dig {n : Nat} (h : n < 256) : isHex (hx (n / 16)) = true ∧ isHex (hx (n % 16)) = true ∧ two (hx (n / 16)) (hx (n % 16)) = n := by
  have := all_below (p := fun n => isHex (hx (n / 16)) && isHex (hx (n % 16)) && two (hx (n / 16)) (hx (n % 16)) == n) (by decide +kernel) h
  simpa [and_assoc] using this
theorem hx_okc {n : Nat} (h : n < 256) : okc (hx (n / 16)) = true ∧ okc (hx (n % 16)) = true ∧ (hx (n / 16) == 37) = false ∧ (hx (n % 16) == 37) = false ∧ (hx (n / 16) == 47) = false ∧ (hx (n % 16) == 47) = false := by
  have := all_below (p := fun n => okc (hx (n / 16)) && okc (hx (n % 16)) && !(hx (n / 16) == 37) && !(hx (n % 16) == 37) && !(hx (n / 16) == 47) && !(hx (n % 16) == 47)) (by decide +kernel) h
  simp only [Bool.and_eq_true, Bool.not_eq_true'] at this
  exact ⟨this.1.1.1.1.1, this.1.1.1.1.2, this.1.1.1.2, this.1.1.2, this.1.2, this.2⟩
theorem plain_okc {n : Nat} (h : n < 256) (hp : plainP n = true) : okc (UInt8.ofNat n) = true ∧ (UInt8.ofNat n == 37) = false ∧ (UInt8.ofNat n == 47) = false := by
  have := all_below (p := fun n => !plainP n || (okc (UInt8.ofNat n) && !(UInt8.ofNat n == 37) && !(UInt8.ofNat n == 47))) (by decide +kernel) h
  rw [hp] at this
  simp only [Bool.not_true, Bool.false_or, Bool.and_eq_true, Bool.not_eq_true'] at this
  exact ⟨this.1.1, this.1.2, this.2⟩
theorem enc_wr {n : Nat} (h : n < 256) {r : List UInt8} (hr : Enc r) : Enc (wr n ++ r) := by
  unfold wr
  by_cases hp : plainP n = true
  · rw [if_pos hp]
    have := plain_okc h hp
    exact Enc.one _ _ this.1 this.2.1 hr
  · rw [if_neg hp]
    exact Enc.tri n r h (by simpa using hp) hr
/-- what comes out of escapes is escaped once -/
theorem esc_enc : ∀ (n : Nat) {s t : List UInt8}, s.length ≤ n → esc s = some t → Enc t
  | _, [], t, _, h => by
    simp only [esc, Option.some.injEq] at h
    subst h
    exact Enc.nil
  | 0, c :: s, t, hn, _ => by simp at hn
  | n + 1, c :: s, t, hn, h => by
    rw [esc_cons] at h
    split at h
    · rename_i hc
      split at h
      · split at h
        · rename_i a b r
          split at h
          · rename_i hab
            rw [Bool.and_eq_true] at hab
            obtain ⟨u, hu, rfl⟩ := Option.map_eq_some_iff.1 h
            exact enc_wr (two_lt hab.1 hab.2) (esc_enc n (by simp at hn; omega) hu)
          · cases h
        · cases h
      · rename_i h37
        obtain ⟨u, hu, rfl⟩ := Option.map_eq_some_iff.1 h
        exact Enc.one _ _ hc (by simpa using h37) (esc_enc n (by simp at hn; omega) hu)
    · cases h
theorem enc_esc {t : List UInt8} (h : Enc t) : esc t = some t := by
  induction h with
  | nil => rfl
  | one c r hc h37 _ ih => rw [esc_cons, if_pos hc, if_neg (by simp [h37]), ih]; rfl
  | tri n r hn hp _ ih =>
    have hd := hx_dig hn
    have h37 : okc 37 = true := by decide
    rw [esc_cons, if_pos h37, if_pos (by decide)]
    simp only [hd.1, hd.2.1, Bool.and_self, if_true, hd.2.2, ih]
    unfold wr
    rw [hp]
    rfl
theorem esc_append : ∀ (n : Nat) {s t : List UInt8} (r : List UInt8), s.length ≤ n → esc s = some t → esc (s ++ r) = (esc r).map (t ++ ·)
  | _, [], t, r, _, h => by
    simp only [esc, Option.some.injEq] at h
    subst h
    simp
  | 0, c :: s, t, r, hn, _ => by simp at hn
  | n + 1, c :: s, t, r, hn, h => by
    rw [esc_cons] at h
    split at h
    · rename_i hc
      split at h
      · rename_i h37
        split at h
        · rename_i a b q
          split at h
          · rename_i hab
            obtain ⟨u, hu, rfl⟩ := Option.map_eq_some_iff.1 h
            have ih := esc_append n r (s := q) (by simp at hn; omega) hu
            show esc (c :: a :: b :: (q ++ r)) = _
            rw [esc_cons, if_pos hc, if_pos h37]
            simp only [hab, if_true, ih, Option.map_map]
            congr 1
            funext x
            simp
          · cases h
        · cases h
      · rename_i h37
        obtain ⟨u, hu, rfl⟩ := Option.map_eq_some_iff.1 h
        have ih := esc_append n r (s := s) (by simp at hn; omega) hu
        show esc (c :: (s ++ r)) = _
        rw [esc_cons, if_pos hc, if_neg h37, ih, Option.map_map]
        congr 1
    · cases h
theorem enc_append {s t : List UInt8} (hs : Enc s) (ht : Enc t) : Enc (s ++ t) := by
  induction hs with
  | nil => exact ht
  | one c r hc h37 _ ih => exact Enc.one c _ hc h37 ih
  | tri n r hn hp _ ih => exact Enc.tri n _ hn hp ih

/-! ### pieces -/
theorem cuts_ne (s : List UInt8) : cuts s ≠ [] := by
  cases s with
  | nil => simp [cuts]
  | cons c s =>
    rw [cuts_cons]
    split
    · simp
    · split <;> simp
def noSlash (p : List UInt8) : Bool := p.all (fun c => c != 47)
theorem cuts_plain : ∀ {p : List UInt8}, noSlash p = true → cuts p = [p]
  | [], _ => rfl
  | c :: p, h => by
    unfold noSlash at h
    rw [List.all_cons, Bool.and_eq_true] at h
    rw [cuts_cons, if_neg (by simpa using h.1), cuts_plain (p := p) h.2]
theorem cuts_cut : ∀ {p : List UInt8} {r : List UInt8}, noSlash p = true → cuts (p ++ 47 :: r) = p :: cuts r
  | [], r, _ => by
    show cuts (47 :: r) = _
    rw [cuts_cons, if_pos (by decide)]
  | c :: p, r, h => by
    unfold noSlash at h
    rw [List.all_cons, Bool.and_eq_true] at h
    show cuts (c :: (p ++ 47 :: r)) = _
    rw [cuts_cons, if_neg (by simpa using h.1), cuts_cut (p := p) (r := r) h.2]
/-- what stands ahead doesn't hang on what stands behind a slash -/
theorem cuts_append : ∀ (s r : List UInt8), cuts (s ++ 47 :: r) = cuts s ++ cuts r
  | [], r => by
    show cuts (47 :: r) = _
    rw [cuts_cons, if_pos (by decide)]
    rfl
  | c :: s, r => by
    have ih := cuts_append s r
    show cuts (c :: (s ++ 47 :: r)) = cuts (c :: s) ++ cuts r
    rw [cuts_cons, cuts_cons]
    split
    · rw [ih]; rfl
    · rw [ih]
      cases h : cuts s with
      | nil => exact absurd h (cuts_ne s)
      | cons p ps => rfl
theorem cuts_noSlash : ∀ {s p : List UInt8}, p ∈ cuts s → noSlash p = true
  | [], p, h => by
    simp only [cuts, List.mem_singleton] at h
    subst h
    rfl
  | c :: s, p, h => by
    rw [cuts_cons] at h
    by_cases hc : (c == 47) = true
    · rw [if_pos hc, List.mem_cons] at h
      rcases h with rfl | h
      · rfl
      · exact cuts_noSlash h
    · rw [if_neg hc] at h
      have hc' : (c == 47) = false := by simpa using hc
      split at h
      · rename_i hp
        exact absurd hp (cuts_ne s)
      · rename_i q qs hp
        rw [List.mem_cons] at h
        rcases h with rfl | h
        · have := cuts_noSlash (s := s) (p := q) (by rw [hp]; simp)
          unfold noSlash at *
          rw [List.all_cons, this]
          simp [bne, hc']
        · exact cuts_noSlash (s := s) (p := p) (by rw [hp]; simp [h])
theorem cuts_enc {t : List UInt8} (h : Enc t) : ∀ p ∈ cuts t, Enc p := by
  induction h with
  | nil =>
    intro p hp
    simp only [cuts, List.mem_singleton] at hp
    subst hp
    exact Enc.nil
  | one c r hc h37 _ ih =>
    intro p hp
    rw [cuts_cons] at hp
    split at hp
    · rw [List.mem_cons] at hp
      rcases hp with rfl | hp
      · exact Enc.nil
      · exact ih p hp
    · split at hp
      · rename_i hq
        exact absurd hq (cuts_ne r)
      · rename_i q qs hq
        rw [List.mem_cons] at hp
        rcases hp with rfl | hp
        · exact Enc.one c q hc h37 (ih q (by rw [hq]; simp))
        · exact ih p (by rw [hq]; simp [hp])
  | tri n r hn hp _ ih =>
    intro p hm
    have hk := hx_okc hn
    obtain ⟨q, qs, hq⟩ : ∃ q qs, cuts r = q :: qs := by
      cases h : cuts r with
      | nil => exact absurd h (cuts_ne r)
      | cons q qs => exact ⟨q, qs, rfl⟩
    have e : cuts (37 :: hx (n / 16) :: hx (n % 16) :: r) = (37 :: hx (n / 16) :: hx (n % 16) :: q) :: qs := by
      rw [cuts_cons, if_neg (by decide), cuts_cons, if_neg (by simp [hk.2.2.2.2.1]), cuts_cons, if_neg (by simp [hk.2.2.2.2.2]), hq]
    rw [e, List.mem_cons] at hm
    rcases hm with rfl | hm
    · exact Enc.tri n q hn hp (ih q (by rw [hq]; simp))
    · exact ih p (by rw [hq]; simp [hm])
end Go.Proofs.YtblpooddamkfdaaGreatDoor.PathPure

/- The normal form of a path: it is its own, and how it goes on. No program is named. -/
namespace Go.Proofs.YtblpooddamkfdaaGreatDoor.PathForm
open LexPure Bytes PathPure

/-- a piece that may be kept -/
structure CleanP (p : List UInt8) : Prop where
  dot : isDot p = false
  up : isUp p = false
  no : noSlash p = true
  enc : Enc p
/-- the text of kept pieces, with a slash behind or not -/
def form (kept : List (List UInt8)) (tr : Bool) : List UInt8 := if tr then join kept ++ [47] else join kept
theorem keeps_append : ∀ (ps qs kept : List (List UInt8)), keeps kept (ps ++ qs) = (keeps kept ps).bind (fun k => keeps k qs)
  | [], qs, kept => rfl
  | p :: ps, qs, kept => by
    show keeps kept (p :: (ps ++ qs)) = _
    rw [keeps, keeps]
    split
    · exact keeps_append ps qs kept
    · split
      · split
        · rfl
        · exact keeps_append ps qs _
      · exact keeps_append ps qs _
theorem keeps_clean : ∀ (ps kept : List (List UInt8)), (∀ p ∈ ps, CleanP p) → keeps kept ps = some (kept ++ ps)
  | [], kept, _ => by simp [keeps]
  | p :: ps, kept, h => by
    have hp := h p (by simp)
    rw [keeps, if_neg (by simp [hp.dot]), if_neg (by simp [hp.up]), keeps_clean ps _ (fun q hq => h q (by simp [hq]))]
    simp
theorem keeps_kept : ∀ (ps kept out : List (List UInt8)), (∀ p ∈ kept, CleanP p) → (∀ p ∈ ps, Enc p ∧ noSlash p = true) → keeps kept ps = some out → ∀ p ∈ out, CleanP p
  | [], kept, out, hk, _, h => by
    simp only [keeps, Option.some.injEq] at h
    subst h
    exact hk
  | p :: ps, kept, out, hk, hp, h => by
    have hps : ∀ q ∈ ps, Enc q ∧ noSlash q = true := fun q hq => hp q (by simp [hq])
    rw [keeps] at h
    split at h
    · exact keeps_kept ps kept out hk hps h
    · rename_i h1
      split at h
      · split at h
        · cases h
        · exact keeps_kept ps _ out (fun q hq => hk q ((List.dropLast_sublist kept).subset hq)) hps h
      · rename_i h2
        refine keeps_kept ps _ out (fun q hq => ?_) hps h
        rw [List.mem_append, List.mem_singleton] at hq
        rcases hq with hq | rfl
        · exact hk q hq
        · have := hp q (by simp)
          exact ⟨by simpa using h1, by simpa using h2, this.2, this.1⟩
theorem enc_slash {r : List UInt8} (h : Enc r) : Enc (47 :: r) := Enc.one 47 r (by decide) (by decide) h
theorem join_enc : ∀ {kept : List (List UInt8)}, (∀ p ∈ kept, CleanP p) → Enc (join kept)
  | [], _ => Enc.nil
  | p :: ps, h => by
    show Enc ((47 :: p) ++ join ps)
    exact enc_append (enc_slash (h p (by simp)).enc) (join_enc (fun q hq => h q (by simp [hq])))
theorem form_enc {kept : List (List UInt8)} {tr : Bool} (h : ∀ p ∈ kept, CleanP p) : Enc (form kept tr) := by
  unfold form
  split
  · exact enc_append (join_enc h) (enc_slash Enc.nil)
  · exact join_enc h
/-- a form with something behind -/
theorem cuts_join : ∀ (kept : List (List UInt8)) (r : List UInt8), (∀ p ∈ kept, CleanP p) → cuts (join kept ++ 47 :: r).tail = kept ++ cuts r
  | [], r, _ => rfl
  | p :: ps, r, h => by
    have hp := h p (by simp)
    have ih := cuts_join ps r (fun q hq => h q (by simp [hq]))
    have e : (join (p :: ps) ++ 47 :: r).tail = p ++ (join ps ++ 47 :: r) := by
      show (((47 :: p) ++ join ps) ++ 47 :: r).tail = _
      simp
    rw [e]
    obtain ⟨t, ht⟩ : ∃ t, join ps ++ 47 :: r = 47 :: t := by
      cases ps with
      | nil => exact ⟨r, rfl⟩
      | cons q qs => exact ⟨q ++ join qs ++ 47 :: r, by show ((47 :: q) ++ join qs) ++ 47 :: r = _; simp⟩
    rw [ht] at ih ⊢
    rw [cuts_cut hp.no]
    show p :: cuts t = p :: (ps ++ cuts r)
    rw [show cuts t = ps ++ cuts r from ih]
theorem cuts_join_end (kept : List (List UInt8)) (hne : kept ≠ []) (h : ∀ p ∈ kept, CleanP p) : cuts (join kept).tail = kept := by
  obtain ⟨l, p, rfl⟩ : ∃ l p, kept = l ++ [p] := ⟨kept.dropLast, kept.getLast hne, (List.dropLast_concat_getLast hne).symm⟩
  have hp := h p (by simp)
  have e : join (l ++ [p]) = join l ++ 47 :: p := by simp [join]
  rw [e, cuts_join l p (fun q hq => h q (by simp [hq])), cuts_plain hp.no]
/-- a form's pieces -/
theorem cuts_form (kept : List (List UInt8)) (tr : Bool) (hf : kept = [] → tr = true) (h : ∀ p ∈ kept, CleanP p) : cuts (form kept tr).tail = kept ++ (if tr then [[]] else []) := by
  unfold form
  cases tr with
  | true => exact cuts_join kept [] h
  | false =>
    have hne : kept ≠ [] := fun e => by cases hf e
    simp only [Bool.false_eq_true, if_false, List.append_nil]
    exact cuts_join_end kept hne h
/-- the pieces of a form with more behind it -/
theorem cuts_more (kept : List (List UInt8)) (tr : Bool) (hf : kept = [] → tr = true) (h : ∀ p ∈ kept, CleanP p) (r : List UInt8) : cuts (form kept tr ++ 47 :: r).tail = (kept ++ (if tr then [[]] else [])) ++ cuts r := by
  have hne : form kept tr ≠ [] := by
    unfold form
    cases tr with
    | true => simp
    | false =>
      cases kept with
      | nil => cases hf rfl
      | cons p ps => show (47 :: p) ++ join ps ≠ []; simp
  have e : (form kept tr ++ 47 :: r).tail = (form kept tr).tail ++ 47 :: r := List.tail_append_of_ne_nil hne
  rw [e, cuts_append, cuts_form kept tr hf h]
theorem form_head (kept : List (List UInt8)) (tr : Bool) (hf : kept = [] → tr = true) : ∃ t, form kept tr = 47 :: t := by
  unfold form
  cases kept with
  | nil => rw [hf rfl]; exact ⟨[], rfl⟩
  | cons p ps => cases tr <;> exact ⟨_, rfl⟩
theorem keeps_trail (kept : List (List UInt8)) (tr : Bool) (h : ∀ p ∈ kept, CleanP p) : keeps [] (kept ++ (if tr then [[]] else [])) = some kept := by
  rw [keeps_append, keeps_clean kept [] h]
  cases tr <;> simp [keeps, isDot]
/-- what is answered is a form -/
theorem normal_form {s t : List UInt8} (h : normal s = some t) : ∃ kept tr, t = form kept tr ∧ (kept = [] → tr = true) ∧ (∀ p ∈ kept, CleanP p) := by
  unfold normal at h
  split at h
  · cases h
  · rename_i u hu
    split at h
    · cases h
    · rename_i kept hk
      injection h with h
      have hu2 : ∃ c r, s = c :: r ∧ esc (c :: r) = some u := by
        cases s with
        | nil => cases hu
        | cons c r =>
          refine ⟨c, r, rfl, ?_⟩
          have hu : (if (c == 47) = true then esc (c :: r) else none) = some u := hu
          by_cases h47 : (c == 47) = true
          · rwa [if_pos h47] at hu
          · rw [if_neg h47] at hu
            cases hu
      obtain ⟨c, r, rfl, hu2⟩ := hu2
      have he := esc_enc _ (Nat.le_refl _) hu2
      have het : Enc u.tail := by
        cases u with
        | nil => exact Enc.nil
        | cons d v =>
          have hu : (if (c == 47) = true then esc (c :: r) else none) = some (d :: v) := hu
          by_cases h47 : (c == 47) = true
          · rw [if_pos h47] at hu
            have hc : c = 47 := by simpa using h47
            subst hc
            rw [esc_cons, if_pos (by decide), if_neg (by decide)] at hu
            obtain ⟨v', hv', e⟩ := Option.map_eq_some_iff.1 hu
            injection e with e1 e2
            subst e2
            exact esc_enc _ (Nat.le_refl _) hv'
          · rw [if_neg h47] at hu
            cases hu
      have hclean := keeps_kept _ [] kept (fun p hp => by simp at hp) (fun p hp => ⟨cuts_enc het p hp, cuts_noSlash hp⟩) hk
      subst h
      unfold finish
      refine ⟨kept, kept.isEmpty || endsOpen (cuts u.tail), ?_, fun e => by simp [e], hclean⟩
      unfold form
      rfl
/-- how a form goes on: the escapes of it are itself -/
theorem escapes_more {kept : List (List UInt8)} {tr : Bool} (hf : kept = [] → tr = true) (h : ∀ p ∈ kept, CleanP p) {r u : List UInt8} (hr : esc r = some u) : escapes (form kept tr ++ r) = some (form kept tr ++ u) := by
  obtain ⟨t, ht⟩ := form_head kept tr hf
  have he := enc_esc (form_enc (tr := tr) h)
  have := esc_append _ r (Nat.le_refl _) he
  rw [hr] at this
  rw [ht] at this ⊢
  show (if (47 == (47 : UInt8)) = true then esc (47 :: t ++ r) else none) = _
  rw [if_pos (by decide), this]
  rfl
/-- a normal form is its own -/
theorem normal_fixed {kept : List (List UInt8)} {tr : Bool} (hf : kept = [] → tr = true) (h : ∀ p ∈ kept, CleanP p) : normal (form kept tr) = some (form kept tr) := by
  have he := escapes_more hf h (r := []) (u := []) rfl
  rw [List.append_nil] at he
  unfold normal
  rw [he]
  simp only
  rw [cuts_form kept tr hf h, keeps_trail kept tr h]
  simp only
  congr 1
  unfold finish form
  cases tr with
  | true => simp [endsOpen, isDot]
  | false =>
    have hne : kept ≠ [] := fun e => by cases hf e
    obtain ⟨l, p, rfl⟩ : ∃ l p, kept = l ++ [p] := ⟨kept.dropLast, kept.getLast hne, (List.dropLast_concat_getLast hne).symm⟩
    have hp := h p (by simp)
    simp [endsOpen, hp.dot, hp.up]
theorem normal_normal {s t : List UInt8} (h : normal s = some t) : normal t = some t := by
  obtain ⟨kept, tr, rfl, hf, hc⟩ := normal_form h
  exact normal_fixed hf hc
end Go.Proofs.YtblpooddamkfdaaGreatDoor.PathForm

/- Paths: the normal form is not longer. No program is named. -/
namespace Go.Proofs.YtblpooddamkfdaaGreatDoor.PathLen
open LexPure Bytes PathPure PathForm
/-- what pieces weigh, a slash each -/
def wt (ps : List (List UInt8)) : Nat := (ps.map (fun p => p.length + 1)).sum
theorem wt_append (a b : List (List UInt8)) : wt (a ++ b) = wt a + wt b := by simp [wt]
theorem wt_cuts : ∀ s : List UInt8, wt (cuts s) = s.length + 1
  | [] => rfl
  | c :: s => by
    have ih := wt_cuts s
    rw [cuts_cons]
    split
    · show 1 + wt (cuts s) = _
      rw [ih]
      simp
      omega
    · cases h : cuts s with
      | nil => exact absurd h (cuts_ne s)
      | cons p ps =>
        rw [h] at ih
        simp [wt] at ih ⊢
        omega
theorem join_wt (k : List (List UInt8)) : (join k).length = wt k := by
  induction k with
  | nil => rfl
  | cons p k ih =>
    show ((47 :: p) ++ join k).length = _
    rw [List.length_append, ih]
    simp [wt]
theorem wt_dropLast (k : List (List UInt8)) : wt k.dropLast ≤ wt k := by
  rcases List.eq_nil_or_concat k with rfl | ⟨l, p, rfl⟩
  · exact Nat.le_refl _
  · simp [wt]
theorem keeps_wt : ∀ (ps G K : List (List UInt8)), keeps G ps = some K → wt K ≤ wt G + wt ps
  | [], G, K, h => by
    simp only [keeps, Option.some.injEq] at h
    subst h
    exact Nat.le_add_right _ _
  | p :: ps, G, K, h => by
    have hw : wt (p :: ps) = p.length + 1 + wt ps := by simp [wt]
    rw [keeps] at h
    split at h
    · have := keeps_wt ps G K h
      omega
    · split at h
      · split at h
        · cases h
        · have := keeps_wt ps _ K h
          have := wt_dropLast G
          omega
      · have := keeps_wt ps _ K h
        rw [wt_append] at this
        have : wt [p] = p.length + 1 := by simp [wt]
        omega
theorem keeps_open {ps G K : List (List UInt8)} (hne : ps ≠ []) (ho : endsOpen ps = true) (h : keeps G ps = some K) : wt K + 1 ≤ wt G + wt ps := by
  rcases List.eq_nil_or_concat ps with rfl | ⟨l, p, rfl⟩
  · exact absurd rfl hne
  · rw [List.concat_eq_append] at *
    rw [keeps_append] at h
    obtain ⟨k, hk, h2⟩ := Option.bind_eq_some_iff.1 h
    have h1 := keeps_wt l G k hk
    rw [wt_append]
    have hp : wt [p] = p.length + 1 := by simp [wt]
    unfold endsOpen at ho
    rw [List.getLastD_eq_getLast?, List.getLast?_append] at ho
    simp only [List.getLast?_singleton, Option.some_or, Option.getD_some, Bool.or_eq_true] at ho
    rw [keeps] at h2
    split at h2
    · simp only [keeps, Option.some.injEq] at h2
      subst h2
      omega
    · split at h2
      · split at h2
        · cases h2
        · simp only [keeps, Option.some.injEq] at h2
          subst h2
          have := wt_dropLast k
          omega
      · rename_i a b
        rcases ho with h | h
        · exact absurd h a
        · exact absurd h b
theorem finish_len {u : List UInt8} {K : List (List UInt8)} (hu : 1 ≤ u.length) (h : keeps [] (cuts u.tail) = some K) : (finish K (cuts u.tail)).length ≤ u.length := by
  have hw := wt_cuts u.tail
  have h1 := keeps_wt _ _ _ h
  have hl : u.tail.length + 1 = u.length := by rw [List.length_tail]; omega
  have h0 : wt [] = 0 := rfl
  unfold finish
  split
  · rename_i hb
    rw [List.length_append, join_wt]
    rw [Bool.or_eq_true] at hb
    rcases hb with hb | hb
    · have : K = [] := List.isEmpty_iff.1 hb
      subst this
      simp [wt]
      omega
    · have := keeps_open (cuts_ne _) hb h
      simp
      omega
  · rw [join_wt]
    omega
theorem normal_len {s t : List UInt8} (he : ∀ u, escapes s = some u → 1 ≤ u.length ∧ u.length ≤ s.length) (h : normal s = some t) : t.length ≤ s.length := by
  unfold normal at h
  split at h
  · cases h
  · rename_i u hu
    split at h
    · cases h
    · rename_i K hK
      injection h with h
      subst h
      have := he u hu
      have := finish_len this.1 hK
      omega
/-- a form's last byte -/
theorem form_last (kept : List (List UInt8)) (tr : Bool) (hf : kept = [] → tr = true) (hc : ∀ p ∈ kept, CleanP p) : ((form kept tr).getLast? == some 47) = tr := by
  unfold form
  cases tr with
  | true => simp
  | false =>
    have hne : kept ≠ [] := fun e => by cases hf e
    obtain ⟨l, p, rfl⟩ : ∃ l p, kept = l ++ [p] := ⟨kept.dropLast, kept.getLast hne, (List.dropLast_concat_getLast hne).symm⟩
    have hp := hc p (by simp)
    have e : join (l ++ [p]) = join l ++ 47 :: p := by simp [join]
    simp only [Bool.false_eq_true, if_false]
    rw [e, List.getLast?_append]
    have hpn : p ≠ [] := fun h => by have := hp.dot; rw [h] at this; exact absurd this (by decide)
    have hl : (47 :: p).getLast? = some (p.getLast hpn) := by
      rw [List.getLast?_eq_some_getLast (by simp), List.getLast_cons hpn]
    rw [hl]
    simp only [Option.some_or]
    rw [beq_eq_false_iff_ne]
    intro h
    injection h with h
    have := hp.no
    unfold noSlash at this
    rw [List.all_eq_true] at this
    have h2 := this _ (List.getLast_mem hpn)
    rw [h] at h2
    exact absurd h2 (by decide)
end Go.Proofs.YtblpooddamkfdaaGreatDoor.PathLen

/- Layer 5 of the program: what one round of its loops over a text takes off the front. No program is named. -/
namespace Go.Proofs.YtblpooddamkfdaaGreatDoor.PEsc
open LexPure Bytes PathPure
/-- whether an escape stands at the front -/
def escO : List UInt8 → Bool
  | _ :: a :: b :: _ => isHex a && isHex b
  | _ => false
/-- the byte of the escape at the front, else 0 -/
def escN : List UInt8 → Nat
  | _ :: a :: b :: _ => if isHex a && isHex b then two a b else 0
  | _ => 0
theorem escN_lt (s : List UInt8) : escN s < 256 := by
  unfold escN
  split
  · split
    · rename_i h
      rw [Bool.and_eq_true] at h
      exact two_lt h.1 h.2
    · decide
  · decide
theorem esc_three {s : List UInt8} (h : escO s = true) : 3 ≤ s.length := by
  unfold escO at h
  split at h
  · simp
  · cases h
theorem dec_yes {t : List UInt8} (h : escO (37 :: t) = true) : dec (37 :: t) = (dec ((37 :: t).drop 3)).map (UInt8.ofNat (escN (37 :: t)) :: ·) := by
  rw [dec_cons, if_pos (by decide)]
  match t with
  | [] => cases h
  | [_] => cases h
  | a :: b :: r =>
    have hh : (isHex a && isHex b) = true := h
    have e : escN (37 :: a :: b :: r) = two a b := by unfold escN; simp only; rw [if_pos hh]
    simp only [hh, if_true, e]
    rfl
theorem dec_no {t : List UInt8} (h : escO (37 :: t) = false) : dec (37 :: t) = none := by
  rw [dec_cons, if_pos (by decide)]
  match t with
  | [] => rfl
  | [_] => rfl
  | a :: b :: r =>
    have hh : (isHex a && isHex b) = false := h
    simp only [hh]
    rfl
theorem dec_other {c : UInt8} {t : List UInt8} (h : ¬ c = 37) : dec (c :: t) = (dec t).map (c :: ·) := by
  rw [dec_cons, if_neg (by simpa using h)]
theorem esc_bad {c : UInt8} {t : List UInt8} (h : okc c = false) : esc (c :: t) = none := by
  rw [esc_cons, if_neg (by simp [h])]
theorem esc_other {c : UInt8} {t : List UInt8} (h0 : okc c = true) (h : ¬ c = 37) : esc (c :: t) = (esc t).map (c :: ·) := by
  rw [esc_cons, if_pos h0, if_neg (by simpa using h)]
theorem esc_yes {t : List UInt8} (h : escO (37 :: t) = true) : esc (37 :: t) = (esc ((37 :: t).drop 3)).map (wr (escN (37 :: t)) ++ ·) := by
  rw [esc_cons, if_pos (by decide), if_pos (by decide)]
  match t with
  | [] => cases h
  | [_] => cases h
  | a :: b :: r =>
    have hh : (isHex a && isHex b) = true := h
    have e : escN (37 :: a :: b :: r) = two a b := by unfold escN; simp only; rw [if_pos hh]
    simp only [hh, if_true, e]
    rfl
theorem esc_no {t : List UInt8} (h : escO (37 :: t) = false) : esc (37 :: t) = none := by
  rw [esc_cons, if_pos (by decide), if_pos (by decide)]
  match t with
  | [] => rfl
  | [_] => rfl
  | a :: b :: r =>
    have hh : (isHex a && isHex b) = false := h
    simp only [hh]
    rfl
theorem wr_le (n : Nat) : (wr n).length ≤ 3 := by unfold wr; split <;> simp
theorem map_map {o : Option (List UInt8)} (acc x : List UInt8) : (o.map (x ++ ·)).map (acc ++ ·) = o.map ((acc ++ x) ++ ·) := by
  cases o <;> simp
theorem map_cons {o : Option (List UInt8)} (acc : List UInt8) (c : UInt8) : (o.map (c :: ·)).map (acc ++ ·) = o.map ((acc ++ [c]) ++ ·) := by
  cases o <;> simp
end Go.Proofs.YtblpooddamkfdaaGreatDoor.PEsc

/- Layer 6: what a target means, over lists of bytes. No program is named. -/
namespace Go.Proofs.YtblpooddamkfdaaGreatDoor.TargetPure
open LexPure Bytes LexNum CutAt HostPure PathPure PathForm PathLen
structure Tgt where
  form : Int
  host : List UInt8
  port : Int
  path : List UInt8
  query : List UInt8
  has : Bool
def zero : Tgt := ⟨0, [], 0, [], [], false⟩
def qc (c : UInt8) : Bool := decide (33 ≤ c.toNat) && decide (c.toNat ≤ 126) && c != 35
def qok (s : List UInt8) : Bool := s.all qc
/-- path and query -/
def local6 (t : Tgt) (s : List UInt8) : Tgt × Int :=
  match normal (aheadOf 63 s) with
  | none => (zero, 50)
  | some p => if qok (behind 63 s) then ({ t with path := p, query := behind 63 s, has := hasB 63 s }, 0) else (zero, 60)
def endC (c : UInt8) : Bool := c == 47 || c == 63
def inA (s : List UInt8) : List UInt8 := s.takeWhile (fun c => !endC c)
def outA (s : List UInt8) : List UInt8 := s.dropWhile (fun c => !endC c)
def slashed (s : List UInt8) : List UInt8 := if s.head? == some 47 then s else 47 :: s
def CONNECT : List UInt8 := [67, 79, 78, 78, 69, 67, 84]
def OPTIONS : List UInt8 := [79, 80, 84, 73, 79, 78, 83]
def SCHEME : List UInt8 := [104, 116, 116, 112, 58, 47, 47]
def remote6 (s : List UInt8) : Tgt × Int :=
  match authO s with
  | some (h, p) => if p = 0 then (zero, 60) else (⟨3, h, p, [], [], false⟩, 0)
  | none => (zero, 60)
def star6 (m : List UInt8) : Tgt × Int := if m == OPTIONS then (⟨4, [], 0, [], [], false⟩, 0) else (zero, 60)
def absolute6 (s : List UInt8) : Tgt × Int :=
  match authO (inA s) with
  | some (h, p) => local6 ⟨2, h, p, [], [], false⟩ (slashed (outA s))
  | none => (zero, 61)
def hasScheme (s : List UInt8) : Bool := decide (7 ≤ s.length) && alike (s.take 7) SCHEME
def parse6 (m s : List UInt8) : Tgt × Int :=
  if m == CONNECT then remote6 s
  else if s == [42] then star6 m
  else if s.head? == some 47 then local6 ⟨1, [], 0, [], [], false⟩ s
  else if hasScheme s then absolute6 (s.drop 7)
  else (zero, 60)
def origin6 (t : Tgt) : List UInt8 :=
  if t.form = 1 ∨ t.form = 2 then (if t.has then t.path ++ 63 :: t.query else t.path)
  else if t.form = 4 then [42] else []

/-! ### what comes out -/
theorem local_cases (t : Tgt) (s : List UInt8) : (local6 t s = (zero, 50)) ∨ (local6 t s = (zero, 60)) ∨
    ∃ p, normal (aheadOf 63 s) = some p ∧ qok (behind 63 s) = true ∧ local6 t s = ({ t with path := p, query := behind 63 s, has := hasB 63 s }, 0) := by
  unfold local6
  split
  · exact .inl rfl
  · rename_i p hp
    by_cases h : qok (behind 63 s) = true
    · exact .inr (.inr ⟨p, hp, h, by rw [if_pos h]⟩)
    · exact .inr (.inl (by rw [if_neg h]))
/-- an error comes with the zero target -/
theorem local_err (t : Tgt) (s : List UInt8) (h : (local6 t s).2 ≠ 0) : (local6 t s).1 = zero := by
  rcases local_cases t s with e | e | ⟨p, _, _, e⟩ <;> rw [e] at h ⊢
  exact absurd rfl h
theorem parse_err (m s : List UInt8) (h : (parse6 m s).2 ≠ 0) : (parse6 m s).1 = zero := by
  unfold parse6 at h ⊢
  split
  · rename_i hm
    rw [if_pos hm] at h
    unfold remote6 at h ⊢
    split
    · rename_i a b ha
      rw [ha] at h
      simp only at h
      split
      · rfl
      · rename_i hb
        rw [if_neg hb] at h
        exact absurd rfl h
    · rfl
  · rename_i hm
    rw [if_neg hm] at h
    split
    · rename_i hs
      rw [if_pos hs] at h
      unfold star6 at h ⊢
      split
      · rename_i ho
        rw [if_pos ho] at h
        exact absurd rfl h
      · rfl
    · rename_i hs
      rw [if_neg hs] at h
      split
      · rename_i hh
        rw [if_pos hh] at h
        exact local_err _ _ h
      · rename_i hh
        rw [if_neg hh] at h
        split
        · rename_i hc
          rw [if_pos hc] at h
          unfold absolute6 at h ⊢
          split
          · rename_i a b ha
            rw [ha] at h
            exact local_err _ _ h
          · rfl
        · rfl
/-- a target that is read is of the form Remote or Asterisk, without a path, or has a normal path and a right query -/
theorem parse_ok (m s : List UInt8) (h : (parse6 m s).2 = 0) :
    (((parse6 m s).1.form = 3 ∨ (parse6 m s).1.form = 4) ∧ (parse6 m s).1.path = [] ∧ (parse6 m s).1.has = false) ∨
    (((parse6 m s).1.form = 1 ∨ (parse6 m s).1.form = 2) ∧ ∃ r, normal (aheadOf 63 r) = some (parse6 m s).1.path ∧ qok (behind 63 r) = true ∧ (parse6 m s).1.query = behind 63 r ∧ (parse6 m s).1.has = hasB 63 r ∧ r.length ≤ s.length + 1) := by
  unfold parse6 at h ⊢
  split
  · rename_i hm
    rw [if_pos hm] at h
    left
    unfold remote6 at h ⊢
    split
    · rename_i a b ha
      rw [ha] at h
      simp only at h
      split
      · rename_i hb
        rw [if_pos hb] at h
        exact absurd h (by decide)
      · exact ⟨.inl rfl, rfl, rfl⟩
    · rename_i ha
      rw [ha] at h
      exact absurd h (by decide)
  · rename_i hm
    rw [if_neg hm] at h
    split
    · rename_i hs
      rw [if_pos hs] at h
      left
      unfold star6 at h ⊢
      split
      · exact ⟨.inr rfl, rfl, rfl⟩
      · rename_i ho
        rw [if_neg ho] at h
        exact absurd h (by decide)
    · rename_i hs
      rw [if_neg hs] at h
      split
      · rename_i hh
        rw [if_pos hh] at h
        right
        rcases local_cases ⟨1, [], 0, [], [], false⟩ s with e | e | ⟨p, e1, e2, e⟩
        · rw [e] at h; exact absurd h (by decide)
        · rw [e] at h; exact absurd h (by decide)
        · rw [e]
          exact ⟨.inl rfl, s, e1, e2, rfl, rfl, by omega⟩
      · rename_i hh
        rw [if_neg hh] at h
        split
        · rename_i hc
          rw [if_pos hc] at h
          right
          unfold absolute6 at h ⊢
          split
          · rename_i a b ha
            rw [ha] at h
            simp only at h
            rcases local_cases ⟨2, a, b, [], [], false⟩ (slashed (outA (s.drop 7))) with e | e | ⟨p, e1, e2, e⟩
            · rw [e] at h; exact absurd h (by decide)
            · rw [e] at h; exact absurd h (by decide)
            · rw [e]
              refine ⟨.inr rfl, _, e1, e2, rfl, rfl, ?_⟩
              have h1 : (outA (s.drop 7)).length ≤ s.length := by
                have := (List.dropWhile_suffix (l := s.drop 7) (fun c => !endC c)).length_le
                rw [List.length_drop] at this
                unfold outA
                omega
              unfold slashed
              split <;> simp <;> omega
          · rename_i ha
            rw [ha] at h
            exact absurd h (show ¬ (61 : Int) = 0 by decide)
        · rename_i hc
          rw [if_neg hc] at h
          exact absurd h (by decide)

/-! ### what goes to a server, read there -/
theorem enc_okc {t : List UInt8} (h : Enc t) : t.all okc = true := by
  induction h with
  | nil => rfl
  | one c r h1 _ _ ih => rw [List.all_cons, h1, ih]; rfl
  | tri n r h1 _ _ ih =>
    obtain ⟨a, b, _⟩ := hx_okc h1
    rw [List.all_cons, List.all_cons, List.all_cons, a, b, ih]
    rfl
theorem okc_63 (c : UInt8) (h : okc c = true) : (c != 63) = true := by
  unfold okc at h
  simp only [Bool.and_eq_true] at h
  exact h.1.2
theorem normal_no63 {s t : List UInt8} (h : normal s = some t) : t.all (fun c => c != 63) = true := by
  obtain ⟨kept, tr, rfl, _, hc⟩ := normal_form h
  rw [List.all_eq_true]
  exact fun c hm => okc_63 c (List.all_eq_true.1 (enc_okc (form_enc hc)) c hm)
theorem normal_head {s t : List UInt8} (h : normal s = some t) : ∃ r, t = 47 :: r := by
  obtain ⟨kept, tr, rfl, hf, _⟩ := normal_form h
  exact form_head kept tr hf
theorem ahead63 {s : List UInt8} (h : s.all (fun c => c != 63) = true) (r : List UInt8) : aheadOf 63 (s ++ 63 :: r) = s ∧ behind 63 (s ++ 63 :: r) = r ∧ hasB 63 (s ++ 63 :: r) = true := by
  have h' : ∀ a ∈ s, (a != 63) = true := List.all_eq_true.1 h
  refine ⟨?_, ?_, ?_⟩
  · unfold aheadOf
    rw [List.takeWhile_append_of_pos h', List.takeWhile_cons]
    simp
  · unfold behind
    rw [List.dropWhile_append_of_pos h', List.dropWhile_cons]
    simp
  · unfold hasB
    simp
theorem self63 {s : List UInt8} (h : s.all (fun c => c != 63) = true) : aheadOf 63 s = s ∧ behind 63 s = [] ∧ hasB 63 s = false := by
  have h' : ∀ a ∈ s, (a != 63) = true := List.all_eq_true.1 h
  refine ⟨?_, ?_, ?_⟩
  · have := List.takeWhile_append_of_pos (l₂ := []) h'
    rw [List.append_nil] at this
    unfold aheadOf
    rw [this]
    simp
  · have := List.dropWhile_append_of_pos (l₂ := []) h'
    rw [List.append_nil] at this
    unfold behind
    rw [this]
    rfl
  · unfold hasB
    rw [List.any_eq_false]
    intro a ha
    simpa using h' a ha
theorem behind_none {s : List UInt8} (h : hasB 63 s = false) : behind 63 s = [] := by
  refine (self63 ?_).2.1
  unfold hasB at h
  rw [List.any_eq_false] at h
  rw [List.all_eq_true]
  intro a ha
  have := h a ha
  simpa using this
def GET : List UInt8 := [71, 69, 84]
theorem parse_slash (m : List UInt8) (hm : (m == CONNECT) = false) (r : List UInt8) : parse6 m (47 :: r) = local6 ⟨1, [], 0, [], [], false⟩ (47 :: r) := by
  unfold parse6
  have h1 : ((47 :: r : List UInt8) == [42]) = false := by
    rw [beq_eq_false_iff_ne]
    intro e
    injection e with e1 e2
    exact absurd e1 (by decide)
  rw [hm, h1]
  simp
theorem again {m s : List UInt8} (h : (parse6 m s).2 = 0) (hf : (parse6 m s).1.form = 1 ∨ (parse6 m s).1.form = 2) :
    parse6 GET (origin6 (parse6 m s).1) = (⟨1, [], 0, (parse6 m s).1.path, (parse6 m s).1.query, (parse6 m s).1.has⟩, 0) := by
  rcases parse_ok m s h with ⟨hq, _⟩ | ⟨_, r, e1, e2, e3, e4, _⟩
  · exfalso; omega
  · generalize (parse6 m s).1 = t at *
    obtain ⟨fo, ho, po, pa, qu, ha⟩ := t
    simp only at *
    subst e3; subst e4
    have hn := normal_no63 e1
    obtain ⟨v, rfl⟩ := normal_head e1
    have hnn := normal_normal e1
    unfold origin6
    simp only
    rw [if_pos hf]
    by_cases hh : hasB 63 r = true
    · rw [if_pos hh]
      rw [List.cons_append, parse_slash GET (by decide), ← List.cons_append]
      obtain ⟨a1, a2, a3⟩ := ahead63 hn (behind 63 r)
      unfold local6
      rw [a1, a2, a3, hnn]
      simp only
      rw [if_pos e2, hh]
    · have hx : hasB 63 r = false := by simpa using hh
      rw [if_neg hh]
      rw [parse_slash GET (by decide)]
      obtain ⟨a1, a2, a3⟩ := self63 hn
      unfold local6
      rw [a1, a2, a3, hnn]
      simp only
      rw [behind_none hx, hx]
      rfl

/-! ### an absolute target -/
theorem inA_all {s : List UInt8} (h : s.all (fun c => !endC c) = true) (r : List UInt8) : inA (s ++ 47 :: r) = s ∧ outA (s ++ 47 :: r) = 47 :: r := by
  have h' : ∀ a ∈ s, (!endC a) = true := List.all_eq_true.1 h
  refine ⟨?_, ?_⟩
  · unfold inA
    rw [List.takeWhile_append_of_pos h', List.takeWhile_cons]
    simp [endC]
  · unfold outA
    rw [List.dropWhile_append_of_pos h', List.dropWhile_cons]
    simp [endC]
theorem parse_abs {x : List UInt8} (hx : x.all (fun c => !endC c) = true) (s : List UInt8) : parse6 GET (SCHEME ++ x ++ 47 :: s) =
    match authO x with
    | some (h, p) => local6 ⟨2, h, p, [], [], false⟩ (47 :: s)
    | none => (zero, 61) := by
  have e : SCHEME ++ x ++ 47 :: s = 104 :: 116 :: 116 :: 112 :: 58 :: 47 :: 47 :: (x ++ 47 :: s) := by rw [List.append_assoc]; rfl
  have h1 : (SCHEME ++ x ++ 47 :: s == [42]) = false := by
    rw [e, beq_eq_false_iff_ne]
    intro h
    injection h with h _
    exact absurd h (by decide)
  have h2 : ((SCHEME ++ x ++ 47 :: s).head? == some 47) = false := by rw [e]; rfl
  have h3 : (SCHEME ++ x ++ 47 :: s).take 7 = SCHEME := by rw [e]; rfl
  have h4 : (SCHEME ++ x ++ 47 :: s).drop 7 = x ++ 47 :: s := by rw [e]; rfl
  have h5 : hasScheme (SCHEME ++ x ++ 47 :: s) = true := by
    unfold hasScheme
    rw [h3, alike_self, e]
    simp
  unfold parse6
  rw [h1, h2, h4, h5, show (GET == CONNECT) = false by decide]
  simp only [Bool.false_eq_true, if_false, if_true]
  obtain ⟨i1, i2⟩ := inA_all hx s
  unfold absolute6
  rw [i1, i2]
  have : slashed (47 :: s) = 47 :: s := by unfold slashed; simp
  rw [this]
/-- the errors of two targets that differ in what isn't read -/
theorem local_same (t u : Tgt) (s : List UInt8) : (local6 t s).2 = (local6 u s).2 := by
  unfold local6
  split
  · rfl
  · split <;> rfl
theorem local_ok {t u : Tgt} {s : List UInt8} (h : (local6 u s).2 = 0) : (local6 t s).1 = { t with path := (local6 u s).1.path, query := (local6 u s).1.query, has := (local6 u s).1.has } := by
  rcases local_cases u s with e | e | ⟨p, e1, e2, e⟩
  · rw [e] at h; exact absurd h (by decide)
  · rw [e] at h; exact absurd h (by decide)
  · rw [e]
    unfold local6
    rw [e1]
    simp only
    rw [if_pos e2]
end Go.Proofs.YtblpooddamkfdaaGreatDoor.TargetPure

/- Layer 6: targets in memory. -/
namespace Go.Proofs.YtblpooddamkfdaaGreatDoor.TBox
open Go.ChangeShapes Go.WideShapes Go.ChangeAt Go.RowKit LexPure Bytes TargetPure Mem
set_option maxRecDepth 20000
def tv (t : Tgt) : Value := .agg #[.int .i64 t.form, .string (ofL t.host), .int .i64 t.port, .string (ofL t.path), .string (ofL t.query), .bool t.has]
def tc (t : Tgt) : Array Value := #[.int .i64 t.form, .string (ofL t.host), .int .i64 t.port, .string (ofL t.path), .string (ofL t.query), .bool t.has]
/-- what a target's box holds, cell by cell -/
structure Box (w : World) (g : Nat) (t : Tgt) : Prop where
  has : Has w g 27 (tc t)
theorem Box.new (w : World) (t : Tgt) : Box (w.alloc (.cells (tc t) 27)) w.heap.size t := ⟨Has.new w _ _⟩
theorem Box.alloc {w : World} {g : Nat} {t : Tgt} (h : Box w g t) (o : Obj) : Box (w.alloc o) g t := ⟨h.has.alloc o⟩
theorem Box.below {w w' : World} {g B : Nat} {t : Tgt} (h : Box w g t) (hb : Below B w w') (hg : g < B) : Box w' g t := ⟨h.has.below hb hg⟩
theorem Box.cells {w : World} {g : Nat} {t : Tgt} (h : Box w g t) : w.cell? ⟨g, 0, none⟩ = some (.int .i64 t.form) ∧ w.cell? ⟨g, 1, none⟩ = some (.string (ofL t.host)) ∧ w.cell? ⟨g, 2, none⟩ = some (.int .i64 t.port) ∧ w.cell? ⟨g, 3, none⟩ = some (.string (ofL t.path)) ∧ w.cell? ⟨g, 4, none⟩ = some (.string (ofL t.query)) ∧ w.cell? ⟨g, 5, none⟩ = some (.bool t.has) :=
  ⟨(h.has.cell 0).trans rfl, (h.has.cell 1).trans rfl, (h.has.cell 2).trans rfl, (h.has.cell 3).trans rfl, (h.has.cell 4).trans rfl, (h.has.cell 5).trans rfl⟩
theorem Box.frees {w : World} {g : Nat} {t : Tgt} (h : Box w g t) : w.frozen? ⟨g, 0, none⟩ = false ∧ w.frozen? ⟨g, 1, none⟩ = false ∧ w.frozen? ⟨g, 2, none⟩ = false ∧ w.frozen? ⟨g, 3, none⟩ = false ∧ w.frozen? ⟨g, 4, none⟩ = false ∧ w.frozen? ⟨g, 5, none⟩ = false :=
  ⟨h.has.free 0, h.has.free 1, h.has.free 2, h.has.free 3, h.has.free 4, h.has.free 5⟩
def rv (r : Tgt × Int) : Value := .tuple #[tv r.1, .int .i64 r.2]
/-- the boxes of a call that takes a target and answers one -/
structure Two (w W : World) (g : Nat) (t u : Tgt) : Prop where
  at_ : g = w.heap.size
  below : Below w.heap.size w W
  tbox : Box W g t
  rbox : Box W (g + 1) u
  size : g + 2 ≤ W.heap.size
theorem Two.start (w : World) (fo : Int) (ho : List UInt8) (po : Int) (pa qu : List UInt8) (ha : Bool) : Two w ((w.alloc (.cells #[.int .i64 fo, .string (ofL ho), .int .i64 po, .string (ofL pa), .string (ofL qu), .bool ha] 27)).alloc (.cells #[.int .i64 0, .string ⟨#[]⟩, .int .i64 0, .string ⟨#[]⟩, .string ⟨#[]⟩, .bool false] 27)) w.heap.size ⟨fo, ho, po, pa, qu, ha⟩ zero := by
  refine ⟨rfl, ((Below.refl w.heap.size w).alloc (Nat.le_refl _) _).alloc (by simp) _, (Box.new w ⟨fo, ho, po, pa, qu, ha⟩).alloc _, ?_, by simp⟩
  have := Box.new (w.alloc (.cells (tc ⟨fo, ho, po, pa, qu, ha⟩) 27)) zero
  rw [show (w.alloc (.cells (tc ⟨fo, ho, po, pa, qu, ha⟩) 27)).heap.size = w.heap.size + 1 by simp] at this
  exact this
theorem Two.call {w W W' : World} {g : Nat} {t u : Tgt} (h : Two w W g t u) (hb : Below W.heap.size W W') : Two w W' g t u :=
  ⟨h.at_, below_chain h.below hb, h.tbox.below hb (by have := h.size; omega), h.rbox.below hb (by have := h.size; omega), Nat.le_trans h.size hb.size⟩
/-- a whole target written into its box, as the walk writes it -/
def put (W : World) (g : Nat) (t : Tgt) : World :=
  (((((W.setCell ⟨g, 0, none⟩ (.int .i64 t.form)).setCell ⟨g, 1, none⟩ (.string (ofL t.host))).setCell ⟨g, 2, none⟩ (.int .i64 t.port)).setCell ⟨g, 3, none⟩ (.string (ofL t.path))).setCell ⟨g, 4, none⟩ (.string (ofL t.query))).setCell ⟨g, 5, none⟩ (.bool t.has)
theorem Box.put {W : World} {g : Nat} {u : Tgt} (h : Box W g u) (t : Tgt) : Box (put W g t) g t :=
  ⟨by have := (((((h.has.set_ 0 (.int .i64 t.form)).set_ 1 (.string (ofL t.host))).set_ 2 (.int .i64 t.port)).set_ 3 (.string (ofL t.path))).set_ 4 (.string (ofL t.query))).set_ 5 (.bool t.has); unfold TBox.put; simpa [tc] using this⟩
theorem below_put {B : Nat} {a W : World} {g : Nat} (h : Below B a W) (hg : B ≤ g) (t : Tgt) : Below B a (put W g t) :=
  (((((h.setCell (p := ⟨g, 0, none⟩) hg _).setCell (p := ⟨g, 1, none⟩) hg _).setCell (p := ⟨g, 2, none⟩) hg _).setCell (p := ⟨g, 3, none⟩) hg _).setCell (p := ⟨g, 4, none⟩) hg _).setCell (p := ⟨g, 5, none⟩) hg _
theorem load_box {w : World} {g : Nat} {t : Tgt} (h : Box w g t) : (loadVar 27 ⟨g, 0, none⟩).run Tryz.prog w = .ok (tv t) w :=
  run_loadVar_row w g 27 27 _ _ _ h.has.at_ Tryz.underlying27 rfl (by kernel_rfl)
theorem Box.far {w : World} {g : Nat} {t : Tgt} (h : Box w g t) {p : Addr} (hp : g ≠ p.block) (u : Value) : Box (w.setCell p u) g t := ⟨h.has.far hp u⟩
/-- what a call that answers a target and a number hands back -/
theorem end_box {W : World} {g : Nat} {t : Tgt} {v : Int} {tmps : Array Value} {p u : Tmp} (hp : tmps.getD p undef = .pointer (some ⟨g, 0, none⟩)) (hu : tmps.getD u undef = .int .i64 v) (h : Box W g t) :
    (((asAddr (tmps.getD p undef)).run Tryz.prog W).andThen fun a w₁ => ((loadVar 27 a).run Tryz.prog w₁).andThen fun v w₂ => .ok (.tuple #[v, tmps.getD u undef]) w₂) = .ok (rv (t, v)) W := by
  rw [hp, hu]
  have := load_box h
  simp [asAddr, Result.andThen, this, rv]
/-- the box of a call that answers a target -/
structure One (w W : World) (g : Nat) (u : Tgt) : Prop where
  at_ : g = w.heap.size
  below : Below w.heap.size w W
  rbox : Box W g u
  size : g + 1 ≤ W.heap.size
theorem One.start (w : World) : One w (w.alloc (.cells #[.int .i64 0, .string ⟨#[]⟩, .int .i64 0, .string ⟨#[]⟩, .string ⟨#[]⟩, .bool false] 27)) w.heap.size zero :=
  ⟨rfl, (Below.refl w.heap.size w).alloc (Nat.le_refl _) _, Box.new w zero, by simp⟩
theorem One.call {w W W' : World} {g : Nat} {u : Tgt} (h : One w W g u) (hb : Below W.heap.size W W') : One w W' g u :=
  ⟨h.at_, below_chain h.below hb, h.rbox.below hb (by have := h.size; omega), Nat.le_trans h.size hb.size⟩
theorem One.put {w W : World} {g : Nat} {u : Tgt} (h : One w W g u) (t : Tgt) : Below w.heap.size w (TBox.put W g t) := below_put h.below (by rw [h.at_]; exact Nat.le_refl _) t
/-- a target that a law keeps in a variable -/
structure Bx (w W : World) (g : Nat) (t : Tgt) : Prop where
  low : w.heap.size ≤ g
  lt : g < W.heap.size
  box : Box W g t
  below : Below w.heap.size w W
theorem Bx.new {w W : World} (h : Below w.heap.size w W) (fo : Int) (ho : List UInt8) (po : Int) (pa qu : List UInt8) (ha : Bool) :
    Bx w (W.alloc (.cells #[.int .i64 fo, .string (ofL ho), .int .i64 po, .string (ofL pa), .string (ofL qu), .bool ha] 27)) W.heap.size ⟨fo, ho, po, pa, qu, ha⟩ :=
  ⟨h.size, by simp, Box.new W ⟨fo, ho, po, pa, qu, ha⟩, h.alloc h.size _⟩
theorem Bx.call {w W W' : World} {g : Nat} {t : Tgt} (h : Bx w W g t) (hb : Below W.heap.size W W') : Bx w W' g t :=
  ⟨h.low, Nat.lt_of_lt_of_le h.lt hb.size, h.box.below hb h.lt, below_chain h.below hb⟩
theorem Bx.alloc {w W : World} {g : Nat} {t : Tgt} (h : Bx w W g t) (o : Obj) : Bx w (W.alloc o) g t :=
  h.call ((Below.refl _ _).alloc (Nat.le_refl _) o)
end Go.Proofs.YtblpooddamkfdaaGreatDoor.TBox

/- Layer 6: the document's targets in memory. -/
namespace Go.Proofs.YtblpooddamkfdaaGreatDoor.RBox
open Go.ChangeShapes Go.WideShapes Go.ChangeAt Go.RowKit LexPure Bytes TargetPure TBox Mem
set_option maxRecDepth 20000
/-- what a target's box holds, cell by cell -/
structure RB (w : World) (g : Nat) (t : Tgt) : Prop where
  has : Has w g 27 (tc t)
theorem RB.new (w : World) (t : Tgt) : RB (w.alloc (.cells (tc t) 27)) w.heap.size t := ⟨Has.new w _ _⟩
theorem RB.alloc {w : World} {g : Nat} {t : Tgt} (h : RB w g t) (o : Obj) : RB (w.alloc o) g t := ⟨h.has.alloc o⟩
theorem RB.below {w w' : World} {g B : Nat} {t : Tgt} (h : RB w g t) (hb : Below B w w') (hg : g < B) : RB w' g t := ⟨h.has.below hb hg⟩
theorem RB.cells {w : World} {g : Nat} {t : Tgt} (h : RB w g t) : w.cell? ⟨g, 0, none⟩ = some (.int .i64 t.form) ∧ w.cell? ⟨g, 1, none⟩ = some (.string (ofL t.host)) ∧ w.cell? ⟨g, 2, none⟩ = some (.int .i64 t.port) ∧ w.cell? ⟨g, 3, none⟩ = some (.string (ofL t.path)) ∧ w.cell? ⟨g, 4, none⟩ = some (.string (ofL t.query)) ∧ w.cell? ⟨g, 5, none⟩ = some (.bool t.has) :=
  ⟨(h.has.cell 0).trans rfl, (h.has.cell 1).trans rfl, (h.has.cell 2).trans rfl, (h.has.cell 3).trans rfl, (h.has.cell 4).trans rfl, (h.has.cell 5).trans rfl⟩
theorem RB.frees {w : World} {g : Nat} {t : Tgt} (h : RB w g t) : w.frozen? ⟨g, 0, none⟩ = false ∧ w.frozen? ⟨g, 1, none⟩ = false ∧ w.frozen? ⟨g, 2, none⟩ = false ∧ w.frozen? ⟨g, 3, none⟩ = false ∧ w.frozen? ⟨g, 4, none⟩ = false ∧ w.frozen? ⟨g, 5, none⟩ = false :=
  ⟨h.has.free 0, h.has.free 1, h.has.free 2, h.has.free 3, h.has.free 4, h.has.free 5⟩
/-- the boxes of a call that takes a target and answers one -/
structure RTwo (w W : World) (g : Nat) (t u : Tgt) : Prop where
  at_ : g = w.heap.size
  below : Below w.heap.size w W
  tbox : RB W g t
  rbox : RB W (g + 1) u
  size : g + 2 ≤ W.heap.size
theorem RTwo.start (w : World) (fo : Int) (ho : List UInt8) (po : Int) (pa qu : List UInt8) (ha : Bool) : RTwo w ((w.alloc (.cells #[.int .i64 fo, .string (ofL ho), .int .i64 po, .string (ofL pa), .string (ofL qu), .bool ha] 27)).alloc (.cells #[.int .i64 0, .string ⟨#[]⟩, .int .i64 0, .string ⟨#[]⟩, .string ⟨#[]⟩, .bool false] 27)) w.heap.size ⟨fo, ho, po, pa, qu, ha⟩ zero := by
  refine ⟨rfl, ((Below.refl w.heap.size w).alloc (Nat.le_refl _) _).alloc (by simp) _, (RB.new w ⟨fo, ho, po, pa, qu, ha⟩).alloc _, ?_, by simp⟩
  have := RB.new (w.alloc (.cells (tc ⟨fo, ho, po, pa, qu, ha⟩) 27)) zero
  rw [show (w.alloc (.cells (tc ⟨fo, ho, po, pa, qu, ha⟩) 27)).heap.size = w.heap.size + 1 by simp] at this
  exact this
theorem RTwo.call {w W W' : World} {g : Nat} {t u : Tgt} (h : RTwo w W g t u) (hb : Below W.heap.size W W') : RTwo w W' g t u :=
  ⟨h.at_, below_chain h.below hb, h.tbox.below hb (by have := h.size; omega), h.rbox.below hb (by have := h.size; omega), Nat.le_trans h.size hb.size⟩
theorem RB.put {W : World} {g : Nat} {u : Tgt} (h : RB W g u) (t : Tgt) : RB (put W g t) g t :=
  ⟨by have := (((((h.has.set_ 0 (.int .i64 t.form)).set_ 1 (.string (ofL t.host))).set_ 2 (.int .i64 t.port)).set_ 3 (.string (ofL t.path))).set_ 4 (.string (ofL t.query))).set_ 5 (.bool t.has); unfold TBox.put; simpa [tc] using this⟩
theorem load_rbox {w : World} {g : Nat} {t : Tgt} (h : RB w g t) : (loadVar 27 ⟨g, 0, none⟩).run Tryz.prog w = .ok (tv t) w :=
  run_loadVar_row w g 27 27 _ _ _ h.has.at_ Tryz.underlying27 rfl (by kernel_rfl)
theorem RB.far {w : World} {g : Nat} {t : Tgt} (h : RB w g t) {p : Addr} (hp : g ≠ p.block) (u : Value) : RB (w.setCell p u) g t := ⟨h.has.far hp u⟩
/-- what a call that answers a target and a number hands back -/
theorem end_rbox {W : World} {g : Nat} {t : Tgt} {v : Int} {tmps : Array Value} {p u : Tmp} (hp : tmps.getD p undef = .pointer (some ⟨g, 0, none⟩)) (hu : tmps.getD u undef = .int .i64 v) (h : RB W g t) :
    (((asAddr (tmps.getD p undef)).run Tryz.prog W).andThen fun a w₁ => ((loadVar 27 a).run Tryz.prog w₁).andThen fun v w₂ => .ok (.tuple #[v, tmps.getD u undef]) w₂) = .ok (rv (t, v)) W := by
  rw [hp, hu]
  have := load_rbox h
  simp [asAddr, Result.andThen, this, rv]
/-- the box of a call that answers a target -/
structure ROne (w W : World) (g : Nat) (u : Tgt) : Prop where
  at_ : g = w.heap.size
  below : Below w.heap.size w W
  rbox : RB W g u
  size : g + 1 ≤ W.heap.size
theorem ROne.start (w : World) : ROne w (w.alloc (.cells #[.int .i64 0, .string ⟨#[]⟩, .int .i64 0, .string ⟨#[]⟩, .string ⟨#[]⟩, .bool false] 27)) w.heap.size zero :=
  ⟨rfl, (Below.refl w.heap.size w).alloc (Nat.le_refl _) _, RB.new w zero, by simp⟩
theorem ROne.call {w W W' : World} {g : Nat} {u : Tgt} (h : ROne w W g u) (hb : Below W.heap.size W W') : ROne w W' g u :=
  ⟨h.at_, below_chain h.below hb, h.rbox.below hb (by have := h.size; omega), Nat.le_trans h.size hb.size⟩
theorem ROne.put {w W : World} {g : Nat} {u : Tgt} (h : ROne w W g u) (t : Tgt) : Below w.heap.size w (TBox.put W g t) := below_put h.below (by rw [h.at_]; exact Nat.le_refl _) t
/-- the three fields that a target gets last, as the walk writes them -/
theorem RTwo.paths {w W : World} {g : Nat} {fo : Int} {ho : List UInt8} {po : Int} {pa qu : List UInt8} {ha : Bool} {u : Tgt} (h : RTwo w W g ⟨fo, ho, po, pa, qu, ha⟩ u) (p q : List UInt8) (b : Bool) :
    RTwo w (((W.setCell ⟨g, 3, none⟩ (.string (ofL p))).setCell ⟨g, 5, none⟩ (.bool b)).setCell ⟨g, 4, none⟩ (.string (ofL q))) g ⟨fo, ho, po, p, q, b⟩ u := by
  have hg : w.heap.size ≤ g := by rw [h.at_]; exact Nat.le_refl _
  have hne : ∀ i, g + 1 ≠ (⟨g, i, none⟩ : Addr).block := fun i => by simp
  refine ⟨h.at_, ((h.below.setCell (p := ⟨g, 3, none⟩) hg _).setCell (p := ⟨g, 5, none⟩) hg _).setCell (p := ⟨g, 4, none⟩) hg _, ⟨?_⟩, ((h.rbox.far (hne 3) _).far (hne 5) _).far (hne 4) _, by simpa using h.size⟩
  have := ((h.tbox.has.set_ 3 (.string (ofL p))).set_ 5 (.bool b)).set_ 4 (.string (ofL q))
  simpa [tc] using this
theorem RTwo.path {w W : World} {g : Nat} {fo : Int} {ho : List UInt8} {po : Int} {pa qu : List UInt8} {ha : Bool} {u : Tgt} (h : RTwo w W g ⟨fo, ho, po, pa, qu, ha⟩ u) (p : List UInt8) :
    RTwo w (W.setCell ⟨g, 3, none⟩ (.string (ofL p))) g ⟨fo, ho, po, p, qu, ha⟩ u := by
  have hg : w.heap.size ≤ g := by rw [h.at_]; exact Nat.le_refl _
  have hne : ∀ i, g + 1 ≠ (⟨g, i, none⟩ : Addr).block := fun i => by simp
  refine ⟨h.at_, h.below.setCell (p := ⟨g, 3, none⟩) hg _, ⟨?_⟩, h.rbox.far (hne 3) _, by simpa using h.size⟩
  have := h.tbox.has.set_ 3 (.string (ofL p))
  simpa [tc] using this
end Go.Proofs.YtblpooddamkfdaaGreatDoor.RBox

/- Layer 5: two hexadecimal digits. No program is named. -/
namespace Go.Proofs.YtblpooddamkfdaaGreatDoor.RPlain
open LexPure Bytes LexNum PathPure
set_option maxRecDepth 20000
theorem num_two (a b : UInt8) : numOk 16 (min 2 15) [a, b] = (isHex a && isHex b) ∧ (numOk 16 (min 2 15) [a, b] = true → numR 16 (min 2 15) [a, b] = (two a b : Int)) := by
  have h1 : numOk 16 (min 2 15) [a, b] = (isHex a && isHex b) := by
    unfold numOk isHex
    simp
    intro _ _
    decide
  refine ⟨h1, fun h => ?_⟩
  unfold numR
  rw [h, if_pos rfl]
  unfold numV two
  simp
end Go.Proofs.YtblpooddamkfdaaGreatDoor.RPlain

/- Layer 4, the document's own Hex. -/
namespace Go.Proofs.YtblpooddamkfdaaGreatDoor.RHex
open Go.ChangeShapes Go.WideShapes Go.ChangeAt Go.RowKit LexPure Bytes Ret LexNum RNumber
set_option maxRecDepth 20000
theorem rhex_any (s : ByteArray) (hs : s.size ≤ maxLen) (digits : Int) (w : World) :
    Calls Tryz.prog 75 #[.string s, .int .i64 digits] w fun e w' => e = .returned (.tuple #[.int .i64 (numR 16 (min digits 15) (toL s)), .bool (numOk 16 (min digits 15) (toL s))]) ∧ w = w' := by
  have HN := Lib.hid (rnumber_any s hs (min digits 15) 16 (.inr ⟨rfl, Int.min_le_right _ _⟩))
  clear hs
  by_cases h : 15 < digits
  · have hm : min digits 15 = 15 := by omega
    rw [hm] at HN ⊢
    go_enter Tryz.func75, Tryz.ntmps75
    go_wp2_with fail
    refine (HN.out _).mono ?_
    rintro e w' ⟨rfl, rfl⟩
    go_wp2_with fail
    go_ret2
    exact ⟨rfl, rfl⟩
  · have hm : min digits 15 = digits := by omega
    rw [hm] at HN ⊢
    go_enter Tryz.func75, Tryz.ntmps75
    go_wp2_with fail
    refine (HN.out _).mono ?_
    rintro e w' ⟨rfl, rfl⟩
    go_wp2_with fail
    go_ret2
    exact ⟨rfl, rfl⟩
end Go.Proofs.YtblpooddamkfdaaGreatDoor.RHex

/- Layer 5, the document's own Plain, hex and At. -/
namespace Go.Proofs.YtblpooddamkfdaaGreatDoor.RPlain
open Go.ChangeShapes Go.WideShapes Go.ChangeAt Go.RowKit LexPure Bytes Ret LexNum RHex PathPure
set_option maxRecDepth 20000
def PlainI (c : Int) : Prop := c = 45 ∨ c = 46 ∨ c = 95 ∨ c = 126 ∨ (48 ≤ c ∧ c ≤ 57) ∨ (65 ≤ c ∧ c ≤ 90) ∨ (97 ≤ c ∧ c ≤ 122)
instance (c : Int) : Decidable (PlainI c) := by unfold PlainI; infer_instance
theorem plain_eq {n : Nat} (h : n < 256) : decide (PlainI (n : Int)) = plainP n := by
  have := all_below (p := fun n => decide (PlainI (n : Int)) == plainP n) (by decide +kernel) h
  simpa using this
theorem rplain_any (n : Nat) (h : n < 256) (w : World) :
    Calls Tryz.prog 96 #[.int .u8 (n : Int)] w fun e w' => e = .returned (.bool (plainP n)) ∧ w = w' := by
  rw [← plain_eq h]
  generalize (n : Int) = c
  go_enter Tryz.func96, Tryz.ntmps96
  go_wp2_with fail
  all_goals
    go_ret
    refine ⟨ret_bool ?_, rfl⟩
    try simp only [beq_eq_false_iff_ne, beq_iff_eq, ne_eq] at *
    first
      | exact Eq.symm (decide_eq_true (p := PlainI _) (by unfold PlainI; omega))
      | exact Eq.symm (decide_eq_false (p := PlainI _) (by unfold PlainI; omega))
      | (rw [Bool.eq_iff_iff]; simp only [Bool.or_eq_true, decide_eq_true_eq]; unfold PlainI; omega)
      | (rw [Bool.eq_iff_iff]; simp only [decide_eq_true_eq]; unfold PlainI; omega)
theorem hx_int {n : Nat} (h : n < 16) : ((hx n).toNat : Int) = if (n : Int) < 10 then 48 + (n : Int) else 55 + (n : Int) := by
  have : n = 0 ∨ n = 1 ∨ n = 2 ∨ n = 3 ∨ n = 4 ∨ n = 5 ∨ n = 6 ∨ n = 7 ∨ n = 8 ∨ n = 9 ∨ n = 10 ∨ n = 11 ∨ n = 12 ∨ n = 13 ∨ n = 14 ∨ n = 15 := by omega
  rcases this with h | h | h | h | h | h | h | h | h | h | h | h | h | h | h | h <;> subst h <;> decide
theorem ret_u8 {a b : Int} (h : a = b) : Ending.returned (.int .u8 a) = .returned (.int .u8 b) := by rw [h]
theorem rhexd_any (n : Nat) (h : n < 16) (w : World) :
    Calls Tryz.prog 97 #[.int .i64 (n : Int)] w fun e w' => e = .returned (.int .u8 ((hx n).toNat : Int)) ∧ w = w' := by
  rw [hx_int h]
  by_cases h10 : (n : Int) < 10
  · rw [if_pos h10]
    go_enter Tryz.func97, Tryz.ntmps97
    go_wp2_with fail
    go_ret
    exact ⟨rfl, rfl⟩
  · rw [if_neg h10]
    go_enter Tryz.func97, Tryz.ntmps97
    go_wp2_with fail
    go_ret
    exact ⟨rfl, rfl⟩
/-- the byte of the escape that begins here, or -1 -/
def atL : List UInt8 → Int
  | 37 :: a :: b :: _ => if isHex a && isHex b then (two a b : Int) else -1
  | _ => -1
theorem ret_i64 {a b : Int} (h : a = b) : Ending.returned (.int .i64 a) = .returned (.int .i64 b) := by rw [h]
theorem rat_any (s : ByteArray) (hs : s.size ≤ 140737488355328) (k : Nat) (hk : k < s.size) (w : World) :
    Calls Tryz.prog 95 #[.string s, .int .i64 (k : Int)] w fun e w' => e = .returned (.int .i64 (atL ((toL s).drop k))) ∧ w = w' := by
  have hs2 := hs
  by_cases h3 : k + 2 < s.size
  · have hd : (toL s).drop k = s[k] :: s[k + 1] :: s[k + 2] :: (toL s).drop (k + 3) := by
      rw [toL_drop s k (by omega), toL_drop s (k + 1) (by omega), toL_drop s (k + 2) (by omega)]
    have hi : ((k : Int) + 2) < (s.size : Int) := by omega
    by_cases h37 : s[k] = 37
    · have hq : ((s[k].toNat : Int) != 37) = false := by rw [h37]; rfl
      have he : toL (s.extract (k + 1) (k + 3)) = [s[k + 1], s[k + 2]] := by
        rw [toL_extract, List.drop_take]
        rw [toL_drop s (k + 1) (by omega), toL_drop s (k + 2) (by omega)]
        have : k + 3 - (k + 1) = 2 := by omega
        rw [this]
        rfl
      obtain ⟨n1, n2⟩ := num_two s[k + 1] s[k + 2]
      have hsz2 : (s.extract (k + 1) (k + 3)).size = 2 := by rw [← toL_length, he]; rfl
      have HH := Lib.hid (fun w => rhex_any (s.extract (k + 1) (k + 3)) (by rw [hsz2]; decide) 2 w)
      rw [he] at HH
      have hA : atL ((toL s).drop k) = if isHex s[k + 1] && isHex s[k + 2] then (two s[k + 1] s[k + 2] : Int) else -1 := by rw [hd, h37]; rfl
      have hki : (k : Int) < (s.size : Int) := by omega
      rw [hA]
      rw [n1] at HH n2
      clear n1 he hA hd h37 hs hsz2
      by_cases hok : (isHex s[k + 1] && isHex s[k + 2]) = true
      · rw [n2 hok, hok] at HH
        rw [if_pos hok]
        have hb1 := two_lt (a := s[k + 1]) (b := s[k + 2]) (by simp at hok; exact hok.1) (by simp at hok; exact hok.2)
        clear hok n2
        generalize two s[k + 1] s[k + 2] = n at *
        go_enter Tryz.func95, Tryz.ntmps95
        go_wp2_with fail
        refine (HH.out _).mono ?_
        rintro e w' ⟨rfl, rfl⟩
        go_wp2_with fail
        go_ret
        exact ⟨rfl, rfl⟩
      · have hok : (isHex s[k + 1] && isHex s[k + 2]) = false := by simpa using hok
        rw [hok] at HH
        rw [hok, if_neg (by decide)]
        clear hok n2
        go_enter Tryz.func95, Tryz.ntmps95
        go_wp2_with fail
        refine (HH.out _).mono ?_
        rintro e w' ⟨rfl, rfl⟩
        go_wp2_with fail
        go_ret
        exact ⟨rfl, rfl⟩
    · have hq : ((s[k].toNat : Int) != 37) = true := by
        have := all_bytes (p := fun b => (((b.toNat : Int) != 37) == (b != 37))) (by decide +kernel) s[k]
        rw [beq_iff_eq] at this
        rw [this, bne_iff_ne]
        exact h37
      have hA : atL ((toL s).drop k) = -1 := by
        rw [hd]
        unfold atL
        split
        · rename_i h
          injection h with h
          exact absurd h h37
        · rfl
      rw [hA]
      have hki : (k : Int) < (s.size : Int) := by omega
      clear hA hd h37 hs
      go_enter Tryz.func95, Tryz.ntmps95
      go_wp2_with fail
      go_ret
      exact ⟨rfl, rfl⟩
  · have hA : atL ((toL s).drop k) = -1 := by
      have hl : ((toL s).drop k).length ≤ 2 := by rw [List.length_drop, toL_length]; omega
      unfold atL
      split
      · rename_i h
        rw [h] at hl
        simp at hl
      · rfl
    rw [hA]
    have hi : ¬ ((k : Int) + 2) < (s.size : Int) := by omega
    clear hA hs
    go_enter Tryz.func95, Tryz.ntmps95
    go_wp2_with fail
    go_ret
    exact ⟨rfl, rfl⟩
end Go.Proofs.YtblpooddamkfdaaGreatDoor.RPlain

/- Layer 5, the document's own Escapes and Decode: what both gather. -/
namespace Go.Proofs.YtblpooddamkfdaaGreatDoor.REsc
open Go.ChangeShapes Go.WideShapes Go.ChangeAt Go.RowKit LexPure Bytes Ret PathPure RPlain Rows1
theorem infoB : (Tryz.prog.info? 5).map (fun i => (i.zero, i.size, i.bytes)) = some (some (.int .u8 0), 1, 1) := by kernel_rfl
/-- what is gathered behind k bytes -/
structure Got (w : World) (k : Nat) (v : Value) (G : List UInt8) (wr : World) : Prop where
  row : wr.ownsRow w.heap.size 5 1 v G.length (bvs G)
  below : Below w.heap.size w wr
  few : G.length ≤ k
theorem Got.start (w : World) : Got w 0 (.slice none 0 0) [] w := ⟨World.ownsRow_nil _ _ _ _, Below.refl _ _, Nat.le_refl _⟩
theorem atL_none {s : ByteArray} {k : Nat} (hk : k < s.size) (h : s[k] = 37) (hn : atL ((toL s).drop k) < 0) : dec ((toL s).drop k) = none ∧ esc ((toL s).drop k) = none := by
  rw [toL_drop s k hk, h] at *
  rw [dec_cons, if_pos (by decide), esc_cons, if_pos (by decide), if_pos (by decide)]
  generalize (toL s).drop (k + 1) = t at *
  match t with
  | [] => exact ⟨rfl, rfl⟩
  | [_] => exact ⟨rfl, rfl⟩
  | a :: b :: r =>
    unfold atL at hn
    simp only at hn ⊢
    split at hn
    · omega
    · rename_i hh
      rw [if_neg hh, if_neg hh]
      exact ⟨rfl, rfl⟩
theorem atL_some {s : ByteArray} {k : Nat} (hk : k < s.size) (h : s[k] = 37) (hn : ¬ atL ((toL s).drop k) < 0) : ∃ n : Nat, atL ((toL s).drop k) = (n : Int) ∧ n < 256 ∧ k + 2 < s.size ∧
    dec ((toL s).drop k) = (dec ((toL s).drop (k + 3))).map (UInt8.ofNat n :: ·) ∧ esc ((toL s).drop k) = (esc ((toL s).drop (k + 3))).map (wr n ++ ·) := by
  have hl : ((toL s).drop k).length = s.size - k := by rw [List.length_drop, toL_length]
  have hd3 : (toL s).drop (k + 3) = ((toL s).drop (k + 1)).drop 2 := by rw [List.drop_drop]
  rw [hd3]
  rw [toL_drop s k hk, h] at *
  rw [dec_cons, if_pos (by decide), esc_cons, if_pos (by decide), if_pos (by decide)]
  generalize (toL s).drop (k + 1) = t at *
  match t with
  | [] => exact absurd (by decide) hn
  | [_] => exact absurd (show (-1 : Int) < 0 by decide) hn
  | a :: b :: r =>
    unfold atL at hn ⊢
    simp only at hn ⊢
    split at hn
    · rename_i hh
      rw [if_pos hh]
      have h2 := hh
      rw [Bool.and_eq_true] at h2
      exact ⟨two a b, rfl, two_lt h2.1 h2.2, by simp at hl; omega, by rw [if_pos hh]; rfl, by rw [if_pos hh]; rfl⟩
    · omega
theorem got_push {w wr w3 : World} {k j : Nat} {v v' : Value} {G : List UInt8} {c : UInt8} {o : Obj} (I : Got w k v G wr) (h : w3.ownsRow w.heap.size 5 1 v' (G.length + 1) (bvs G ++ [bv c])) (hg : (wr.alloc o).grownBy w3 v.ownBlock) (hj : k < j) : Got w j v' (G ++ [c]) w3 :=
  ⟨by rw [List.length_append, bvs_append]; exact h, Below.grown (I.below.alloc I.below.size _) hg (by have := I.below.size; simp; omega) (fun b hb => (I.row.lt b hb).1), by rw [List.length_append]; have := I.few; simp; omega⟩
/-- whether s[k] is the sign of an escape, as a number -/
theorem sign_ne {c : UInt8} (h : ¬ c = 37) : ((c.toNat : Int) != 37) = true := by
  have := all_bytes (p := fun b => (((b.toNat : Int) != 37) == (b != 37))) (by decide +kernel) c
  rw [beq_iff_eq] at this
  rw [this, bne_iff_ne]
  exact h
end Go.Proofs.YtblpooddamkfdaaGreatDoor.REsc

/- Layer 5, the document's own Escapes. -/
namespace Go.Proofs.YtblpooddamkfdaaGreatDoor.REscapes
open Go.ChangeShapes Go.WideShapes Go.ChangeAt Go.RowKit LexPure Bytes Ret PathPure RPlain Rows1 REsc
set_option maxRecDepth 20000
theorem okc_true {c : UInt8} (h : okc c = true) : ¬ (c.toNat : Int) ≤ 32 ∧ ¬ 127 ≤ (c.toNat : Int) ∧ ((c.toNat : Int) == 63) = false ∧ ((c.toNat : Int) == 35) = false := by
  have := all_bytes (p := fun c => !okc c || decide (¬ (c.toNat : Int) ≤ 32 ∧ ¬ 127 ≤ (c.toNat : Int) ∧ ((c.toNat : Int) == 63) = false ∧ ((c.toNat : Int) == 35) = false)) (by decide +kernel) c
  rw [h] at this
  simpa only [Bool.not_true, Bool.false_or, decide_eq_true_eq] using this
theorem okc_false {c : UInt8} (h : okc c = false) : (c.toNat : Int) ≤ 32 ∨ (¬ (c.toNat : Int) ≤ 32 ∧ 127 ≤ (c.toNat : Int)) ∨ (¬ (c.toNat : Int) ≤ 32 ∧ ¬ 127 ≤ (c.toNat : Int) ∧ ((c.toNat : Int) == 63) = true) ∨ (¬ (c.toNat : Int) ≤ 32 ∧ ¬ 127 ≤ (c.toNat : Int) ∧ ((c.toNat : Int) == 63) = false ∧ ((c.toNat : Int) == 35) = true) := by
  have := all_bytes (p := fun c => okc c || decide ((c.toNat : Int) ≤ 32 ∨ (¬ (c.toNat : Int) ≤ 32 ∧ 127 ≤ (c.toNat : Int)) ∨ (¬ (c.toNat : Int) ≤ 32 ∧ ¬ 127 ≤ (c.toNat : Int) ∧ ((c.toNat : Int) == 63) = true) ∨ (¬ (c.toNat : Int) ≤ 32 ∧ ¬ 127 ≤ (c.toNat : Int) ∧ ((c.toNat : Int) == 63) = false ∧ ((c.toNat : Int) == 35) = true))) (by decide +kernel) c
  rw [h] at this
  simpa only [Bool.false_or, decide_eq_true_eq] using this
theorem bv_of {n : Nat} (h : n < 256) : bv (UInt8.ofNat n) = .int .u8 (n : Int) := by
  have := all_below (p := fun n => (((UInt8.ofNat n).toNat : Int) == (n : Int))) (by decide +kernel) h
  rw [beq_iff_eq] at this
  unfold bv
  rw [this]
set_option maxRecDepth 20000 in
set_option maxHeartbeats 4000000 in
theorem loop_any (s : ByteArray) (hs : s.size ≤ 140737488351232) (h0 : 0 < s.size) (hsl : s[0] = 47) (w : World) :
    Calls Tryz.prog 87 #[.string s] w fun e w' => e = .returned (.tuple #[.string (ofL ((esc (toL s)).getD [])), .bool (esc (toL s)).isSome]) ∧ Below w.heap.size w w' := by
  obtain ⟨i0, hi, hz0, hz1, hz2⟩ := info_parts infoB
  have hq0 : ((s.size : Int) == 0) = false := beq_eq_false_iff_ne.2 (by omega)
  have hq1 : ((s[0].toNat : Int) != 47) = false := by rw [hsl]; rfl
  clear hsl
  go_enter Tryz.func87, Tryz.ntmps87
  go_wp2_with fail
  go_loopw [4, 5] (fun v i wr => ∃ k : Nat, k ≤ s.size ∧ i = .int .i64 k ∧ Hid (∃ G, Got w k v G wr ∧ esc (toL s) = (esc ((toL s).drop k)).map (G ++ ·))) (fun _ i _ => s.size - (intOf i).toNat)
  case atStart => exact ⟨0, Nat.zero_le _, rfl, Lib.hid ⟨[], Got.start w, by simp⟩⟩
  case round =>
    obtain ⟨k, hk, rfl, HI⟩ := hrel
    obtain ⟨G, I, hd⟩ := HI.out
    have hrow := I.row
    have hbw := I.below
    have hbs := hbw.size
    have hfew := I.few
    by_cases hlt : k < s.size
    · have hki : (k : Int) < (s.size : Int) := by omega
      by_cases hok : okc s[k] = true
      · obtain ⟨o1, o2, o3, o4⟩ := okc_true hok
        by_cases h37 : s[k] = 37
        · have hq : (s[k].toNat : Int) = 37 := by rw [h37]; rfl
          clear o1 o2 o3 o4
          have HA := Lib.hid (fun w => rat_any s (by omega) k hlt w)
          by_cases hn : atL ((toL s).drop k) < 0
          · have HV : Hid (esc (toL s) = none) := Lib.hid (by rw [hd, (atL_none hlt h37 hn).2]; rfl)
            generalize atL ((toL s).drop k) = z at *
            clear hd HI I hrow h37 hok
            go_wp2_with fail
            refine (HA.out _).mono ?_
            rintro e w' ⟨rfl, rfl⟩
            go_wp2_with fail
            go_ret2
            rw [HV.out]
            exact ⟨rfl, hbw⟩
          · obtain ⟨n, hn1, hn2, hn3, _, hn4⟩ := atL_some hlt h37 hn
            have hnb : (n : Int) ≤ 255 := by omega
            have HP := Lib.hid (fun w => rplain_any n hn2 w)
            rw [hn1] at HA
            by_cases hp : plainP n = true
            · have HB := Lib.hid (bv_of hn2)
              have HD : Hid (esc (toL s) = (esc ((toL s).drop (k + 3))).map ((G ++ [UInt8.ofNat n]) ++ ·)) := Lib.hid (by
                rw [hd, hn4, Option.map_map]
                unfold PathPure.wr
                rw [hp]
                congr 1
                funext x
                simp)
              rw [hp] at HP
              have HI2 := Lib.hid I
              clear hd HI h37 hn hn1 hn2 hn4 I hok hp
              go_wp2_with fail
              refine (HA.out _).mono ?_
              rintro e w' ⟨rfl, rfl⟩
              go_wp2_with fail
              refine (HP.out _).mono ?_
              rintro e w' ⟨rfl, rfl⟩
              go_wp2_with (at_builtin; refine wpList_append_own _ rfl _ _ 76 rfl w.heap.size 5 i0 (.int .u8 0) 1 1 Tryz.underlying76 hi hz0 hz1 hz2 rfl (by decide) _ _ _ rfl (hrow.alloc _) ⟨wr.heap.size, 0, none⟩ 1 1 [.int .u8 (n : Int)] rfl rfl (cell_one_new _ _ _) (fun x hx => by simp at hx; subst hx; rfl) (by unfold maxLen; omega) (by omega) (by simp; omega) ?_; intro v' w3 hown' hgrow3 hnil3)
              rw [← HB.out] at hown'
              have HI3 := Lib.hid (got_push HI2.out hown' hgrow3 (j := (k + 3)) (by omega))
              clear hown' hgrow3 hnil3 HI2 hrow hbs hfew
              have hrow := HI3.out.row
              have hbs := HI3.out.below.size
              have hfew := HI3.out.few
              have hglen : (G ++ [UInt8.ofNat n]).length = G.length + 1 := by simp

              have HR : Hid (∃ G, Got w (k + 3) v' G w3 ∧ esc (toL s) = (esc ((toL s).drop (k + 3))).map (G ++ ·)) := Lib.hid ⟨_, HI3.out, HD.out⟩
              clear HI3 HD HB HA HP hrow hbs hfew
              go_wp2_with fail
              go_roundw
              case rel => exact ⟨k + 3, by omega, by go_num, HR⟩
              case measure => simp [intOf]; omega
            · have hp : plainP n = false := by simpa using hp
              have HD : Hid (esc (toL s) = (esc ((toL s).drop (k + 3))).map ((G ++ [37, hx (n / 16), hx (n % 16)]) ++ ·)) := Lib.hid (by
                rw [hd, hn4, Option.map_map]
                unfold PathPure.wr
                rw [hp]
                congr 1
                funext x
                simp)
              rw [hp] at HP
              have HI2 := Lib.hid I
              have HX1 := Lib.hid (fun w => rhexd_any (n / 16) (by omega) w)
              have HX2 := Lib.hid (fun w => rhexd_any (n % 16) (by omega) w)
              clear hd HI h37 hn hn1 hn2 hn4 I hok hp
              go_wp2_with fail
              refine (HA.out _).mono ?_
              rintro e w' ⟨rfl, rfl⟩
              go_wp2_with fail
              refine (HP.out _).mono ?_
              rintro e w' ⟨rfl, rfl⟩
              have HB1 : Hid (bv 37 = .int .u8 37) := Lib.hid rfl
              have HB2 : Hid (bv (hx (n / 16)) = .int .u8 ((hx (n / 16)).toNat : Int)) := Lib.hid rfl
              have HB3 : Hid (bv (hx (n % 16)) = .int .u8 ((hx (n % 16)).toNat : Int)) := Lib.hid rfl
              rw [show ((n / 16 : Nat) : Int) = (n : Int) / 16 by omega] at HX1
              rw [show ((n % 16 : Nat) : Int) = (n : Int) % 16 by omega] at HX2
              have hx1 : ((hx (n / 16)).toNat : Int) ≤ 255 := by have := (hx (n / 16)).toNat_lt; omega
              have hx2 : ((hx (n % 16)).toNat : Int) ≤ 255 := by have := (hx (n % 16)).toNat_lt; omega
              go_wp2_with (at_builtin; refine wpList_append_own _ rfl _ _ 76 rfl w.heap.size 5 i0 (.int .u8 0) 1 1 Tryz.underlying76 hi hz0 hz1 hz2 rfl (by decide) _ _ _ rfl (hrow.alloc _) ⟨wr.heap.size, 0, none⟩ 1 1 [.int .u8 37] rfl rfl (cell_one_new _ _ _) (fun x hx => by simp at hx; subst hx; rfl) (by unfold maxLen; omega) (by omega) (by simp; omega) ?_; intro va wa hown' hgrow3 hnil3)
              rw [← HB1.out] at hown'
              replace HI2 := Lib.hid (got_push HI2.out hown' hgrow3 (j := (k + 1)) (by omega))
              clear hown' hgrow3 hnil3 hrow hbs hfew
              have hrow := HI2.out.row
              have hbs := HI2.out.below.size
              have hfew := HI2.out.few
              go_wp2_with fail
              refine (HX1.out _).mono ?_
              rintro e w' ⟨rfl, rfl⟩
              go_wp2_with (at_builtin; refine wpList_append_own _ rfl _ _ 76 rfl w.heap.size 5 i0 (.int .u8 0) 1 1 Tryz.underlying76 hi hz0 hz1 hz2 rfl (by decide) _ _ _ rfl (hrow.alloc _) ⟨wa.heap.size, 0, none⟩ 1 1 [.int .u8 ((hx (n / 16)).toNat : Int)] rfl rfl (cell_one_new _ _ _) (fun x hx => by simp at hx; subst hx; rfl) (by unfold maxLen; omega) (by omega) (by simp; omega) ?_; intro vb wb hown' hgrow3 hnil3)
              rw [← HB2.out] at hown'
              replace HI2 := Lib.hid (got_push HI2.out hown' hgrow3 (j := (k + 2)) (by omega))
              clear hown' hgrow3 hnil3 hrow hbs hfew
              have hrow := HI2.out.row
              have hbs := HI2.out.below.size
              have hfew := HI2.out.few
              go_wp2_with fail
              refine (HX2.out _).mono ?_
              rintro e w' ⟨rfl, rfl⟩
              go_wp2_with (at_builtin; refine wpList_append_own _ rfl _ _ 76 rfl w.heap.size 5 i0 (.int .u8 0) 1 1 Tryz.underlying76 hi hz0 hz1 hz2 rfl (by decide) _ _ _ rfl (hrow.alloc _) ⟨wb.heap.size, 0, none⟩ 1 1 [.int .u8 ((hx (n % 16)).toNat : Int)] rfl rfl (cell_one_new _ _ _) (fun x hx => by simp at hx; subst hx; rfl) (by unfold maxLen; omega) (by omega) (by simp; omega) ?_; intro vc wc hown' hgrow3 hnil3)
              rw [← HB3.out] at hown'
              replace HI2 := Lib.hid (got_push HI2.out hown' hgrow3 (j := (k + 3)) (by omega))
              clear hown' hgrow3 hnil3 hrow hbs hfew
              have hrow := HI2.out.row
              have hbs := HI2.out.below.size
              have hfew := HI2.out.few
              have HR : Hid (∃ G, Got w (k + 3) vc G wc ∧ esc (toL s) = (esc ((toL s).drop (k + 3))).map (G ++ ·)) := Lib.hid ⟨_, HI2.out, by have := HD.out; simpa using this⟩
              clear HI2 HD HA HP HX1 HX2 HB1 HB2 HB3 hrow hbs hfew
              go_wp2_with fail
              go_roundw
              case rel => exact ⟨k + 3, by omega, by go_num, HR⟩
              case measure => simp [intOf]; omega

        · have hq := sign_ne h37
          have HD : Hid (esc (toL s) = (esc ((toL s).drop (k + 1))).map ((G ++ [s[k]]) ++ ·)) := Lib.hid (by
            rw [hd, toL_drop s k hlt, esc_cons, if_pos hok, if_neg (by simpa using h37), Option.map_map]
            congr 1
            funext x
            simp)
          have HB : Hid (bv s[k] = .int .u8 (s[k].toNat : Int)) := Lib.hid rfl
          have HI2 := Lib.hid I
          clear hd HI h37 I hok
          go_wp2_with (at_builtin; refine wpList_append_own _ rfl _ _ 76 rfl w.heap.size 5 i0 (.int .u8 0) 1 1 Tryz.underlying76 hi hz0 hz1 hz2 rfl (by decide) _ _ _ rfl (hrow.alloc _) ⟨wr.heap.size, 0, none⟩ 1 1 [.int .u8 (s[k].toNat : Int)] rfl rfl (cell_one_new _ _ _) (fun x hx => by simp at hx; subst hx; rfl) (by unfold maxLen; omega) (by omega) (by simp; omega) ?_; intro v' w3 hown' hgrow3 hnil3)
          rw [← HB.out] at hown'
          have HI3 := Lib.hid (got_push HI2.out hown' hgrow3 (j := (k + 1)) (by omega))
          clear hown' hgrow3 hnil3 HI2 hrow hbs hfew
          have hrow := HI3.out.row
          have hbs := HI3.out.below.size
          have hfew := HI3.out.few
          have hglen : (G ++ [s[k]]).length = G.length + 1 := by simp

          have HR : Hid (∃ G, Got w (k + 1) v' G w3 ∧ esc (toL s) = (esc ((toL s).drop (k + 1))).map (G ++ ·)) := Lib.hid ⟨_, HI3.out, HD.out⟩
          clear HI3 HD HB hrow hbs hfew
          go_wp2_with fail
          go_roundw
          case rel => exact ⟨k + 1, by omega, by go_num, HR⟩
          case measure => simp [intOf]; omega
      · have hok : okc s[k] = false := by simpa using hok
        have HV : Hid (esc (toL s) = none) := Lib.hid (by rw [hd, toL_drop s k hlt, esc_cons, if_neg (by simp [hok])]; rfl)
        have ho := okc_false hok
        clear hd HI I hrow hok
        rcases ho with o1 | ⟨o1, o2⟩ | ⟨o1, o2, o3⟩ | ⟨o1, o2, o3, o4⟩
        all_goals
          go_wp2_with fail
          go_ret2
          rw [HV.out]
          exact ⟨rfl, hbw⟩
    · have HC := own_string (P := Tryz.prog) hrow 76 9 Tryz.underlying76 Tryz.underlying5 Tryz.underlying9
      have HV : Hid (esc (toL s) = some G) := Lib.hid (by
        rw [hd, List.drop_eq_nil_of_le (by rw [toL_length]; omega)]
        show some (G ++ []) = _
        rw [List.append_nil])
      clear hd HI I hrow
      go_wp2_with fail
      go_ret2
      rw [HV.out]
      exact ⟨rfl, hbw⟩
theorem slash_ne {c : UInt8} (h : ¬ c = 47) : ((c.toNat : Int) != 47) = true := by
  have := all_bytes (p := fun b => (((b.toNat : Int) != 47) == (b != 47))) (by decide +kernel) c
  rw [beq_iff_eq] at this
  rw [this, bne_iff_ne]
  exact h
theorem rescapes_any (s : ByteArray) (hs : s.size ≤ 140737488351232) (w : World) :
    Calls Tryz.prog 87 #[.string s] w fun e w' => e = .returned (.tuple #[.string (ofL ((escapes (toL s)).getD [])), .bool (escapes (toL s)).isSome]) ∧ Below w.heap.size w w' := by
  by_cases h0 : s.size = 0
  · have hnil : toL s = [] := List.length_eq_zero_iff.1 (by rw [toL_length]; exact h0)
    have hn : escapes (toL s) = none := by rw [hnil]; rfl
    have hq : ((s.size : Int) == 0) = true := by rw [h0]; rfl
    rw [hn]
    clear hn hnil
    go_enter Tryz.func87, Tryz.ntmps87
    go_wp2_with fail
    go_ret2
    exact ⟨rfl, Below.refl _ _⟩
  · have hpos : 0 < s.size := by omega
    have hd : toL s = s[0] :: (toL s).drop 1 := by
      have := toL_drop s 0 hpos
      simpa using this
    by_cases hsl : s[0] = 47
    · have he : escapes (toL s) = esc (toL s) := by
        rw [hd]
        show (if (s[0] == 47) = true then esc (s[0] :: (toL s).drop 1) else none) = _
        rw [if_pos (by rw [hsl]; rfl)]
      rw [he]
      exact loop_any s hs hpos hsl w
    · have hn : escapes (toL s) = none := by
        rw [hd]
        show (if (s[0] == 47) = true then esc (s[0] :: (toL s).drop 1) else none) = _
        rw [if_neg (by simpa using hsl)]
      have hq : ((s.size : Int) == 0) = false := beq_eq_false_iff_ne.2 (by omega)
      have hq2 := slash_ne hsl
      rw [hn]
      clear hn hd hsl h0
      go_enter Tryz.func87, Tryz.ntmps87
      go_wp2_with fail
      go_ret2
      exact ⟨rfl, Below.refl _ _⟩
end Go.Proofs.YtblpooddamkfdaaGreatDoor.REscapes

/- Layer 5: what Normal answers, and how long it is. No program is named. -/
namespace Go.Proofs.YtblpooddamkfdaaGreatDoor.RNormal
open LexPure Bytes Ret PathPure PathForm
set_option maxRecDepth 20000
theorem ret_norm {a b : ByteArray} {n : Int} (h : a = b) : Ending.returned (.tuple #[.string a, .int .i64 n]) = .returned (.tuple #[.string b, .int .i64 n]) := by rw [h]
/-- the text that Normal answers, and the error -/
def normS (s : List UInt8) : ByteArray := ofL ((normal s).getD [])
def normE (s : List UInt8) : Int := if (normal s).isSome then 0 else 50
theorem norm_none {s : List UInt8} (h : normal s = none) : normS s = ⟨#[]⟩ ∧ normE s = 50 := by
  unfold normS normE
  rw [h]
  exact ⟨rfl, rfl⟩
theorem norm_some {s t : List UInt8} (h : normal s = some t) : normS s = ofL t ∧ normE s = 0 := by
  unfold normS normE
  rw [h]
  exact ⟨rfl, rfl⟩
theorem wr_len (n : Nat) : (PathPure.wr n).length ≤ 3 := by
  unfold PathPure.wr
  split <;> simp
theorem esc_len : ∀ (n : Nat) {s t : List UInt8}, s.length ≤ n → esc s = some t → t.length ≤ s.length
  | _, [], t, _, h => by
    simp only [esc, Option.some.injEq] at h
    subst h
    exact Nat.le_refl _
  | 0, c :: s, t, hn, _ => by simp at hn
  | n + 1, c :: s, t, hn, h => by
    rw [esc_cons] at h
    split at h
    · split at h
      · split at h
        · rename_i a b r
          split at h
          · obtain ⟨u, hu, rfl⟩ := Option.map_eq_some_iff.1 h
            have ih := esc_len n (s := r) (by simp at hn; omega) hu
            have := wr_len (two a b)
            simp
            omega
          · cases h
        · cases h
      · obtain ⟨u, hu, rfl⟩ := Option.map_eq_some_iff.1 h
        have ih := esc_len n (s := s) (by simp at hn; omega) hu
        simp
        omega
    · cases h
theorem escapes_esc {s t : List UInt8} (h : escapes s = some t) : esc s = some t ∧ ∃ r, s = 47 :: r := by
  cases s with
  | nil => cases h
  | cons c r =>
    have h : (if (c == 47) = true then esc (c :: r) else none) = some t := h
    by_cases hc : (c == 47) = true
    · rw [if_pos hc] at h
      exact ⟨h, r, by rw [show c = 47 by simpa using hc]⟩
    · rw [if_neg hc] at h
      cases h
theorem escapes_len {s t : List UInt8} (h : escapes s = some t) : t.length ≤ s.length := esc_len _ (Nat.le_refl _) (escapes_esc h).1
theorem escapes_pos {s t : List UInt8} (h : escapes s = some t) : 1 ≤ t.length := by
  obtain ⟨he, r, rfl⟩ := escapes_esc h
  rw [esc_cons, if_pos (by decide), if_neg (by decide)] at he
  obtain ⟨u, _, rfl⟩ := Option.map_eq_some_iff.1 he
  simp
theorem join_len {n : Nat} : ∀ {G : List (List UInt8)}, (∀ e ∈ G, e.length ≤ n) → (join G).length ≤ G.length * (n + 1)
  | [], _ => by simp [join]
  | e :: G, h => by
    have h0 := h e (by simp)
    have h1 := join_len (G := G) (fun x hx => h x (by simp [hx]))
    show ((47 :: e) ++ join G).length ≤ _
    rw [List.length_append, List.length_cons, List.length_cons, Nat.add_mul, Nat.one_mul]
    omega
theorem join_nil {G : List (List UInt8)} : (join G).isEmpty = G.isEmpty := by
  cases G <;> rfl
theorem join_snoc (G : List (List UInt8)) (e : List UInt8) : join (G ++ [e]) = join G ++ 47 :: e := by simp [join]
theorem keeps_up {G ps : List (List UInt8)} {X : List UInt8} (h1 : isDot X = false) (h2 : isUp X = true) : keeps G (X :: ps) = if G.isEmpty then none else keeps G.dropLast ps := by
  rw [keeps, if_neg (by simp [h1]), if_pos h2]
theorem keeps_in {G ps : List (List UInt8)} {X : List UInt8} (h1 : isDot X = false) (h2 : isUp X = false) : keeps G (X :: ps) = keeps (G ++ [X]) ps := by
  rw [keeps, if_neg (by simp [h1]), if_neg (by simp [h2])]
end Go.Proofs.YtblpooddamkfdaaGreatDoor.RNormal

/- Layer 5, the document's own Normal. -/
namespace Go.Proofs.YtblpooddamkfdaaGreatDoor.RNormal
open Go.ChangeShapes Go.WideShapes Go.ChangeAt Go.RowKit LexPure Bytes Ret PathPure RPlain Rows1 REsc REscapes Texts PathForm
set_option maxRecDepth 20000
def rest (s : ByteArray) (f : Nat) : List (List UInt8) := if f ≤ s.size then cuts ((toL s).drop f) else []
/-- behind k bytes of the path, the last slash ahead of f; G: what is kept, l: the last piece -/
structure NInv (w : World) (s : ByteArray) (k f : Nat) (v : Value) (G : List (List UInt8)) (l : List UInt8) (wr : World) : Prop where
  row : wr.ownsRow w.heap.size 9 1 v G.length (Texts.strs G)
  below : Below w.heap.size w wr
  all_ : keeps [] (cuts (toL s).tail) = keeps G (rest s f)
  le : f ≤ k
  pos : 1 ≤ f
  in_ : k ≤ s.size → f ≤ s.size
  out_ : s.size < k → s.size < f
  no : noSlash (((toL s).drop f).take (k - f)) = true
  few : G.length ≤ k
  last : s.size < f → (cuts (toL s).tail).getLastD [] = l
  pre : ∃ D, cuts (toL s).tail = D ++ rest s f
  short : ∀ e ∈ G, e.length ≤ s.size
theorem rest_end {s : ByteArray} {f : Nat} (hf : f ≤ s.size) (h : noSlash (((toL s).drop f).take (s.size - f)) = true) : rest s f = [((toL s).drop f).take (s.size - f)] := by
  unfold rest
  have e : ((toL s).drop f).take (s.size - f) = (toL s).drop f := List.take_of_length_le (by rw [List.length_drop, toL_length]; omega)
  rw [if_pos hf]
  rw [e] at h ⊢
  exact cuts_plain h
theorem rest_cut {s : ByteArray} {f k : Nat} (hf : f ≤ k) (hk : k < s.size) (h : noSlash (((toL s).drop f).take (k - f)) = true) (hc : s[k] = 47) : rest s f = ((toL s).drop f).take (k - f) :: rest s (k + 1) := by
  unfold rest
  rw [if_pos (by omega), if_pos (by omega)]
  have e : (toL s).drop f = ((toL s).drop f).take (k - f) ++ 47 :: (toL s).drop (k + 1) := by
    have h1 := List.take_append_drop (k - f) ((toL s).drop f)
    rw [List.drop_drop, show f + (k - f) = k by omega, toL_drop s k hk, hc] at h1
    exact h1.symm
  conv => lhs; rw [e]
  exact cuts_cut h
theorem rest_none {s : ByteArray} {f : Nat} (h : s.size < f) : rest s f = [] := by unfold rest; rw [if_neg (by omega)]
/-- one piece has been read: X; what follows begins at k + 1 -/
theorem NInv.step {w wr : World} {s : ByteArray} {k f : Nat} {v : Value} {G : List (List UInt8)} {l : List UInt8} (I : NInv w s k f v G l wr) (hk : k ≤ s.size) (hcut : k = s.size ∨ (∃ h : k < s.size, s[k] = 47)) :
    rest s f = ((toL s).drop f).take (k - f) :: rest s (k + 1) := by
  rcases hcut with h | ⟨h, hc⟩
  · subst h
    rw [rest_end (I.in_ hk) I.no, rest_none (by omega)]
  · exact rest_cut I.le h I.no hc
theorem NInv.next {w wr w' : World} {s : ByteArray} {k f : Nat} {v v' : Value} {G G' : List (List UInt8)} {l : List UInt8} (I : NInv w s k f v G l wr) (hk : k ≤ s.size) (hcut : k = s.size ∨ (∃ h : k < s.size, s[k] = 47))
    (hr : w'.ownsRow w.heap.size 9 1 v' G'.length (Texts.strs G')) (hb : Below w.heap.size w w') (hg : keeps G (((toL s).drop f).take (k - f) :: rest s (k + 1)) = keeps G' (rest s (k + 1))) (hl : G'.length ≤ G.length + 1) (hs : ∀ e ∈ G', e.length ≤ s.size) :
    NInv w s (k + 1) (k + 1) v' G' (((toL s).drop f).take (k - f)) w' := by
  have hst := I.step hk hcut
  obtain ⟨D, hD⟩ := I.pre
  refine ⟨hr, hb, by rw [I.all_, hst, hg], Nat.le_refl _, by omega, fun h => h, fun h => h, by rw [Nat.sub_self]; rfl, by have := I.few; omega, fun h => ?_, ⟨D ++ [((toL s).drop f).take (k - f)], by rw [hD, hst, List.append_assoc]; rfl⟩, hs⟩
  rw [hD, hst, rest_none h, List.getLastD_eq_getLast?, List.getLast?_append]
  rfl
set_option maxHeartbeats 4000000 in
theorem rnormal_any (s : ByteArray) (hs : s.size ≤ 1048576) (w : World) :
    Calls Tryz.prog 73 #[.string s] w fun e w' => e = .returned (.tuple #[.string (normS (toL s)), .int .i64 (normE (toL s))]) ∧ Below w.heap.size w w' := by
  obtain ⟨i0, hi, hz0, hz1, hz2⟩ := info_parts infoS
  have HE := Lib.hid (fun w => rescapes_any s (by omega) w)
  cases hesc : escapes (toL s) with
  | none =>
    have hn : normal (toL s) = none := by unfold normal; rw [hesc]
    rw [(norm_none hn).1, (norm_none hn).2]
    rw [hesc] at HE
    clear hn hesc
    go_enter Tryz.func73, Tryz.ntmps73
    go_wp2_with fail
    refine (HE.out _).mono ?_
    rintro e w1 ⟨rfl, hb1⟩
    go_wp2_with fail
    go_ret2
    exact ⟨rfl, hb1⟩
  | some u =>
    have hul : u.length ≤ s.size := by
      have := escapes_len hesc
      rwa [toL_length] at this
    have hu1 : 1 ≤ u.length := escapes_pos hesc
    have hn : normal (toL s) = (keeps [] (cuts u.tail)).map (fun kept => finish kept (cuts u.tail)) := by
      unfold normal
      rw [hesc]
      simp only
      cases keeps [] (cuts u.tail) <;> rfl
    rw [hesc] at HE
    have HNM := Lib.hid hn
    clear hn hesc
    obtain ⟨p, hp⟩ : ∃ p, p = ofL u := ⟨_, rfl⟩
    have hpu : toL p = u := by rw [hp, toL_ofL]
    have hps : p.size = u.length := by rw [hp, ofL_size]
    have hpl : p.size ≤ 1048576 := by omega
    have hp1 : 1 ≤ p.size := by omega
    rw [show (some u).getD [] = u from rfl, ← hp] at HE
    clear hul hu1 hps hp
    rw [← hpu] at HNM
    clear hpu
    go_enter Tryz.func73, Tryz.ntmps73
    go_wp2_with fail
    refine (HE.out _).mono ?_
    rintro e w1 ⟨rfl, hb1⟩
    go_wp2_with fail
    have I0 : Hid (∃ G, NInv w p 1 1 (.slice none 0 0) G [] w1) := Lib.hid ⟨[], World.ownsRow_nil _ _ _ _, hb1, by unfold rest; rw [if_pos hp1, List.drop_one], Nat.le_refl _, Nat.le_refl _, fun _ => hp1, fun h => h, by rw [Nat.sub_self]; rfl, Nat.zero_le _, fun h => by omega, ⟨[], by unfold rest; rw [if_pos hp1, List.drop_one]; rfl⟩, fun e he => by simp at he⟩
    clear hb1 HE hs
    go_loopw [6, 7, 8, 9] (fun kv lv fv i wr => ∃ k : Nat, k ≤ p.size + 1 ∧ i = .int .i64 k ∧ ∃ f : Nat, fv = .int .i64 f ∧ ∃ l : List UInt8, lv = .string (ofL l) ∧ Hid (∃ G, NInv w p k f kv G l wr)) (fun _ _ _ i _ => p.size + 1 - (intOf i).toNat)
    case atStart => exact ⟨1, by omega, rfl, 1, rfl, [], rfl, I0⟩
    case round =>
      obtain ⟨k, hk, rfl, f, rfl, l, rfl, HI⟩ := hrel
      obtain ⟨G, I⟩ := HI.out
      clear HI I0
      have hfk := I.le
      have hbs := I.below.size
      by_cases hle : k ≤ p.size
      · have hki : (k : Int) ≤ (p.size : Int) := by omega
        have hfs := I.in_ hle
        by_cases hcut : k = p.size ∨ (∃ h : k < p.size, p[k] = 47)
        · have hfi : (f : Int) ≤ (k : Int) := by omega
          have hx : (¬ (k : Int) < (p.size : Int)) ∨ (∃ h : k < p.size, (k : Int) < (p.size : Int) ∧ ((p[k].toNat : Int) != 47) = false) := by
            rcases hcut with h | ⟨h, hc⟩
            · exact .inl (by omega)
            · exact .inr ⟨h, by omega, by rw [hc]; rfl⟩
          have hXE : p.extract f k = ofL (((toL p).drop f).take (k - f)) := by
            refine toL_inj ?_
            rw [toL_extract, toL_ofL, List.drop_take]
          have HX := Lib.hid hXE
          have HST := Lib.hid (I.step hle hcut)
          have HN := Lib.hid (fun G' v' w' => I.next (G' := G') (v' := v') (w' := w') hle hcut)
          have hXl : (((toL p).drop f).take (k - f)).length ≤ p.size := by rw [List.length_take, List.length_drop, toL_length]; omega
          generalize ((toL p).drop f).take (k - f) = X at *
          have hET : (p.extract f k).toList = X := by rw [ByteArray.toList_eq, HX.out]; exact toL_ofL X
          obtain ⟨pp, cap, rfl, hcap, _⟩ := row_cells I.row
          have hrow := I.row
          have hbw := I.below
          have hfew := I.few
          have HS := Lib.hid I.short
          have HALL := Lib.hid I.all_
          clear I hcut hXE
          by_cases hdot : isDot X = true
          · have hk2 : keeps G (X :: rest p (k + 1)) = keeps G (rest p (k + 1)) := by rw [keeps, if_pos hdot]
            have HR : Hid (∃ G', NInv w p (k + 1) (k + 1) (.slice pp G.length cap) G' X wr) := Lib.hid ⟨G, HN.out G _ wr hrow hbw hk2 (by omega) HS.out⟩
            have hd : X = [] ∨ X = [46] := by
              unfold isDot at hdot
              rw [Bool.or_eq_true, List.isEmpty_iff, beq_iff_eq] at hdot
              exact hdot
            clear HN HS HALL HST hk2 hrow hbw hdot
            rcases hd with rfl | rfl
            all_goals
              rcases hx with hq | ⟨hlt, hq, hc⟩
              all_goals
                go_wp2_with fail
                go_roundw
                case rel => exact ⟨k + 1, by omega, by go_num, k + 1, by go_num, _, by rw [HX.out], HR⟩
                case measure => simp [intOf]; omega
          · have hdot : isDot X = false := by simpa using hdot
            by_cases hup : isUp X = true
            · have hX2 : X = [46, 46] := by
                unfold isUp at hup
                rwa [beq_iff_eq] at hup
              by_cases hG : G = []
              · have hnone : keeps [] (cuts (toL p).tail) = none := by
                  rw [HALL.out, HST.out, keeps_up hdot hup, hG]
                  rfl
                have hgl : ((G.length : Int) == 0) = true := by rw [hG]; rfl
                rw [hX2] at hET
                have HNONE := Lib.hid (norm_none (by rw [HNM.out, hnone]; rfl))
                clear HN HS HALL HST hrow hdot hup hnone
                rcases hx with hq | ⟨hlt, hq, hc⟩
                all_goals
                  go_wp2_with fail
                  go_ret2
                  rw [HNONE.out.1, HNONE.out.2]
                  exact ⟨rfl, hbw⟩
              · have hgl : ((G.length : Int) == 0) = false := beq_eq_false_iff_ne.2 (fun h => hG (List.length_eq_zero_iff.1 (by omega)))
                have hg0 : 1 ≤ G.length := by
                  cases G with
                  | nil => exact absurd rfl hG
                  | cons => simp
                have hk2 : keeps G (X :: rest p (k + 1)) = keeps G.dropLast (rest p (k + 1)) := by
                  rw [keeps_up hdot hup, if_neg (by simpa using hG)]
                have hcutr := row_cut hrow (m := G.length - 1) (by omega)
                have hstr : (Texts.strs G).take (G.length - 1) = Texts.strs G.dropLast := by
                  unfold Texts.strs
                  rw [← List.map_take, List.dropLast_eq_take]
                rw [hstr] at hcutr
                have HR : Hid (∃ G', NInv w p (k + 1) (k + 1) (.slice pp (G.length - 1) cap) G' X wr) := Lib.hid ⟨G.dropLast, HN.out _ _ wr (by rw [List.length_dropLast]; exact hcutr) hbw hk2 (by rw [List.length_dropLast]; omega) (fun e he => HS.out e ((List.dropLast_sublist G).subset he))⟩
                rw [hX2] at hET
                clear HN HS HALL HST hrow hdot hup hk2 hcutr hstr hbw hG
                rcases hx with hq | ⟨hlt, hq, hc⟩
                all_goals
                  go_wp2_with fail
                  go_roundw
                  case rel => exact ⟨k + 1, by omega, by go_num, k + 1, by go_num, X, by rw [HX.out], HR⟩
                  case measure => simp [intOf]; omega
            · have hup : isUp X = false := by simpa using hup
              have hk2 : keeps G (X :: rest p (k + 1)) = keeps (G ++ [X]) (rest p (k + 1)) := keeps_in hdot hup
              have hd : (p.extract f k).toList.isEmpty = false ∧ ((p.extract f k).toList == [46]) = false := by
                rw [hET]
                unfold isDot at hdot
                rw [Bool.or_eq_false_iff] at hdot
                exact hdot
              have hu : ((p.extract f k).toList == [46, 46]) = false := by
                rw [hET]
                exact hup
              have hne : ¬ (p.extract f k).toList = [] := fun h => by rw [h] at hd; exact absurd hd.1 (by decide)
              have HNF : Hid (∀ v' w', w'.ownsRow w.heap.size 9 1 v' (G.length + 1) (Texts.strs G ++ [.string (ofL X)]) → Below w.heap.size w w' → Hid (∃ G', NInv w p (k + 1) (k + 1) v' G' X w')) := Lib.hid (fun v' w' h1 h2 => Lib.hid ⟨G ++ [X], HN.out _ v' w' (by rw [List.length_append, Texts.strs_append]; exact h1) h2 hk2 (by rw [List.length_append]; simp) (fun e he => by
                rw [List.mem_append, List.mem_singleton] at he
                rcases he with he | rfl
                · exact HS.out e he
                · exact hXl)⟩)
              obtain ⟨hd1, hd2⟩ := hd
              clear HN HS HALL HST hdot hup hk2 hET
              rcases hx with hq | ⟨hlt, hq, hc⟩
              all_goals
                go_wp2_with (at_builtin; refine wpList_append_own _ rfl _ _ 109 rfl w.heap.size 9 i0 (.string ByteArray.empty) 1 16 Tryz.underlying109 hi hz0 hz1 hz2 rfl (by decide) _ _ _ rfl (hrow.alloc _) ⟨wr.heap.size, 0, none⟩ 1 1 [.string (p.extract f k)] rfl rfl (cell_one_new _ _ _) (fun x hx => by simp at hx; subst hx; rfl) (by unfold maxLen; omega) (by omega) (by simp; omega) ?_; intro v' w3 hown' hgrow3 hnil3)
                have HR := HNF.out v' w3 (by have h := hown'; rw [HX.out] at h; exact h) (Below.grown (hbw.alloc hbw.size _) hgrow3 (by simp; omega) (fun j hj => (hrow.lt _ hj).1))
                clear hown' hgrow3 hnil3 HNF hrow hbw
                go_wp2_with fail
                go_roundw
                case rel => exact ⟨k + 1, by omega, by go_num, k + 1, by go_num, X, by rw [HX.out], HR⟩
                case measure => simp [intOf]; omega
        · have hlt : k < p.size := by
            rcases Nat.lt_or_ge k p.size with h | h
            · exact h
            · exact absurd (.inl (by omega)) hcut
          have hki2 : (k : Int) < (p.size : Int) := by omega
          have h47 : ¬ p[k] = 47 := fun h => hcut (.inr ⟨hlt, h⟩)
          have hq := slash_ne h47
          have HR : Hid (∃ G, NInv w p (k + 1) f u6 G l wr) := Lib.hid ⟨G, I.row, I.below, I.all_, by omega, I.pos, fun _ => hfs, fun h => by omega, by
            rw [show k + 1 - f = k - f + 1 by omega, List.take_add_one, List.getElem?_drop, show f + (k - f) = k by omega, toL_get p k hlt]
            have := I.no
            unfold noSlash at *
            rw [List.all_append, this]
            simp [bne, h47], by have := I.few; omega, I.last, I.pre, I.short⟩
          clear I hcut h47
          go_wp2_with fail
          go_roundw
          case rel => exact ⟨k + 1, by omega, by go_num, f, rfl, l, rfl, HR⟩
          case measure => simp [intOf]; omega
      · have hkeep : keeps [] (cuts (toL p).tail) = some G := by
          rw [I.all_, rest_none (I.out_ (by omega))]
          rfl
        have hlast := I.last (I.out_ (by omega))
        have hki : ¬ (k : Int) ≤ (p.size : Int) := by omega
        have HV := Lib.hid (norm_some (by rw [HNM.out, hkeep]; rfl))
        have hfin : endsOpen (cuts (toL p).tail) = (isDot l || isUp l) := by unfold endsOpen; rw [hlast]
        have HFN : Hid (finish G (cuts (toL p).tail) = if G.isEmpty || (isDot l || isUp l) then join G ++ [47] else join G) := Lib.hid (by unfold finish; rw [hfin])
        have HSH := Lib.hid I.short
        have hfew := I.few
        have HT := Lib.hid (texts_of I.row)
        have hb0 := I.below
        obtain ⟨pp, cap, rfl, _, _⟩ := row_cells I.row
        have J0 : Hid (Texts wr (.slice pp G.length cap) G) := HT
        clear hkeep hlast hfin HNM I
        go_wp2_with fail
        go_loopw [10, 11] (fun ov i w2 => ∃ j : Nat, j ≤ G.length ∧ i = .int .i64 j ∧ ov = .string (ofL (join (G.take j))) ∧ Hid (∃ m, w2 = wr.drewN m)) (fun _ i _ => G.length - (intOf i).toNat)
        case atStart => exact ⟨0, Nat.zero_le _, rfl, rfl, Lib.hid ⟨0, rfl⟩⟩
        case round =>
          obtain ⟨j, hj, rfl, rfl, hw⟩ := hrel
          obtain ⟨m, rfl⟩ := hw.out
          have hJl : (ofL (join (G.take j))).size ≤ 1099513724929 := by
            rw [ofL_size]
            have h1 := join_len (n := 1048576) (G := G.take j) (fun e he => by have := HSH.out e (List.mem_of_mem_take he); omega)
            have h2 : (G.take j).length * (1048576 + 1) ≤ 1048577 * (1048576 + 1) := Nat.mul_le_mul_right _ (by rw [List.length_take]; omega)
            omega
          by_cases hlt : j < G.length
          · have hji : (j : Int) < (G.length : Int) := by omega
            obtain ⟨p', cap', hv, _, hc⟩ := HT.out
            injection hv with hv1 hv2 hv3
            subst hv1
            subst hv3
            obtain ⟨g, o, rfl, hg, hcell⟩ := hc (by omega)
            have cx := hcell j hlt
            have hEl : (ofL G[j]).size ≤ 1048576 := by
              rw [ofL_size]
              have := HSH.out G[j] (List.getElem_mem hlt)
              omega
            have HJ : Hid ((ofL (join (G.take j)) ++ ⟨#[47]⟩) ++ ofL G[j] = ofL (join (G.take (j + 1)))) := Lib.hid (by
              rw [List.take_add_one, List.getElem?_eq_getElem hlt]
              show _ = ofL (join (G.take j ++ [G[j]]))
              rw [join_snoc]
              refine toL_inj ?_
              rw [toL_append, toL_append, toL_ofL, toL_ofL, toL_ofL]
              show (join (G.take j) ++ [47]) ++ G[j] = _
              simp)
            clear hc hcell
            generalize ofL G[j] = E at *
            generalize ofL (join (G.take j)) = F at *
            go_wp2_with fail
            go_roundw
            case rel => exact ⟨j + 1, by omega, by go_num, by rw [HJ.out], Lib.hid ⟨m, rfl⟩⟩
            case measure => simp [intOf]; omega
          · have hz : join (G.take j) = join G := by rw [List.take_of_length_le (by omega)]
            rw [hz] at hJl ⊢
            have hF : (ofL (join G)).toList.isEmpty = G.isEmpty := by
              rw [ByteArray.toList_eq, show (ofL (join G)).data.toList = join G from toL_ofL _, join_nil]
            have hL : (ofL l).toList = l := by
              rw [ByteArray.toList_eq]
              exact toL_ofL l
            have HJ : Hid (ofL (join G) ++ ⟨#[47]⟩ = ofL (join G ++ [47])) := Lib.hid (by
              refine toL_inj ?_
              rw [toL_append, toL_ofL, toL_ofL])
            have hbm : Below w.heap.size w (wr.drewN m) := ⟨hb0.os, hb0.tape, hb0.output, hb0.size, hb0.block⟩
            clear hz HT J0 hb0 hw
            generalize (wr.drewN m) = w5 at *
            by_cases hG : G.isEmpty = true
            · have hFe : (ofL (join G)).toList = [] := by rw [hG] at hF; exact List.isEmpty_iff.1 hF
              have HO : Hid (finish G (cuts (toL p).tail) = join G ++ [47]) := Lib.hid (by rw [HFN.out, hG]; rfl)
              clear HFN hF hG HSH
              generalize ofL (join G) = F at *
              generalize ofL l = L at *
              go_wp2_with fail
              all_goals
                go_ret2
                rw [HV.out.1, HV.out.2, HO.out, HJ.out]
                exact ⟨rfl, hbm⟩
            · have hG : G.isEmpty = false := by simpa using hG
              rw [hG] at hF
              have hFe : ¬ (ofL (join G)).toList = [] := fun h => by rw [h] at hF; exact absurd hF (by decide)
              by_cases hl1 : l = [] ∨ l = [46] ∨ l = [46, 46]
              · have HO : Hid (finish G (cuts (toL p).tail) = join G ++ [47]) := Lib.hid (by
                  rw [HFN.out]
                  rcases hl1 with h | h | h <;> subst h <;> simp [isDot, isUp])
                clear HFN hG HSH
                generalize ofL (join G) = F at *
                rcases hl1 with h | h | h
                · have t2 : (ofL l).toList.isEmpty = true := by rw [hL, h]; rfl
                  have t3 : ((ofL l).toList == [46]) = false := by rw [hL, h]; rfl
                  have t4 : ((ofL l).toList == [46, 46]) = false := by rw [hL, h]; rfl
                  have t5 :  (ofL l).toList = [] := by rw [hL, h]; try rfl
                  clear h hL
                  generalize ofL l = L at *
                  go_wp2_with fail
                  go_ret2
                  rw [HV.out.1, HV.out.2, HO.out, HJ.out]
                  exact ⟨rfl, hbm⟩
                · have t2 : (ofL l).toList.isEmpty = false := by rw [hL, h]; rfl
                  have t3 : ((ofL l).toList == [46]) = true := by rw [hL, h]; rfl
                  have t4 : ((ofL l).toList == [46, 46]) = false := by rw [hL, h]; rfl
                  have t5 : ¬ (ofL l).toList = [] := by rw [hL, h]; decide
                  clear h hL
                  generalize ofL l = L at *
                  go_wp2_with fail
                  go_ret2
                  rw [HV.out.1, HV.out.2, HO.out, HJ.out]
                  exact ⟨rfl, hbm⟩
                · have t2 : (ofL l).toList.isEmpty = false := by rw [hL, h]; rfl
                  have t3 : ((ofL l).toList == [46]) = false := by rw [hL, h]; rfl
                  have t4 : ((ofL l).toList == [46, 46]) = true := by rw [hL, h]; rfl
                  have t5 : ¬ (ofL l).toList = [] := by rw [hL, h]; decide
                  clear h hL
                  generalize ofL l = L at *
                  go_wp2_with fail
                  go_ret2
                  rw [HV.out.1, HV.out.2, HO.out, HJ.out]
                  exact ⟨rfl, hbm⟩
              · have h1 : (ofL l).toList.isEmpty = false := by
                  rw [hL]
                  cases l with
                  | nil => exact absurd (.inl rfl) hl1
                  | cons => rfl
                have h1' : ¬ (ofL l).toList = [] := fun h => by rw [h] at h1; exact absurd h1 (by decide)
                have h2 : ((ofL l).toList == [46]) = false := by rw [hL, beq_eq_false_iff_ne]; exact fun h => hl1 (.inr (.inl h))
                have h3 : ((ofL l).toList == [46, 46]) = false := by rw [hL, beq_eq_false_iff_ne]; exact fun h => hl1 (.inr (.inr h))
                have HO : Hid (ofL (finish G (cuts (toL p).tail)) = ofL (join G)) := Lib.hid (by
                  rw [HFN.out, hG]
                  rw [hL] at h1 h2 h3
                  unfold isDot isUp
                  rw [h1, h2, h3]
                  rfl)
                clear HFN hG HSH hL hl1
                generalize ofL (join G) = F at *
                generalize ofL l = L at *
                go_wp2_with fail
                go_ret2
                rw [HV.out.1, HV.out.2, HO.out]
                exact ⟨rfl, hbm⟩
end Go.Proofs.YtblpooddamkfdaaGreatDoor.RNormal
