/- Texts of this seat, one behind another: HostPure, PathLen, TargetPure, TQuery, THost, PLsmall, PLower, PDecimal, TAuth, TBox, TPath, UtfPure, AnyLays. -/
import Derived.Lib.Hide
import Derived.Outline
import Derived.LoopTactic
import Derived.Handy
import Derived.Deep.QuietTactic
import Derived.BigQuiet
import Derived.Below
import Derived.Laws.ResultCell
import Derived.Laws.RangeAny
import Derived.Lib.IndexAny
import Derived.Laws.Runes
import Derived.Shelf.Strings.IndexAnyAll
import Derived.Test.YtaiipdjibllodaaDoorProg
import Derived.Test.YtaiipdjibllodaaDoorA1
import Derived.Test.YtaiipdjibllodaaDoorA4
import Derived.Test.YtaiipdjibllodaaDoorA2
import Derived.Test.YtaiipdjibllodaaDoorA3
/- Layer 6: a host, an authority, over lists of bytes. No program is named. -/
namespace Go.Proofs.YtaiipdjibllodaaDoor.HostPure
open LexPure Bytes LexNum CutAt
def alnum (c : UInt8) : Bool := (decide (48 ≤ c.toNat) && decide (c.toNat ≤ 57)) || (decide (65 ≤ c.toNat) && decide (c.toNat ≤ 90)) || (decide (97 ≤ c.toNat) && decide (c.toNat ≤ 122))
def hostC (c : UInt8) : Bool := alnum c || c == 45 || c == 46
/-- two dots side by side -/
def dotted : List UInt8 → Bool
  | a :: b :: s => (a == 46 && b == 46) || dotted (b :: s)
  | _ => false
def host (s : List UInt8) : Bool := !s.isEmpty && decide (s.length ≤ 64) && !dotted s && s.all hostC && alnum (s.headD 0) && alnum (s.getLastD 0)
def portOk (d : List UInt8) : Bool := numOk 10 5 d && decide (1 ≤ numR 10 5 d) && decide (numR 10 5 d ≤ 65535)
def authO (s : List UInt8) : Option (List UInt8 × Int) :=
  if host (aheadOf 58 s) then
    if hasB 58 s then (if portOk (behind 58 s) then some (lower (aheadOf 58 s), numR 10 5 (behind 58 s)) else none)
    else some (lower (aheadOf 58 s), 0)
  else none
def authH (s : List UInt8) : List UInt8 := match authO s with | some (h, _) => h | none => []
def authP (s : List UInt8) : Int := match authO s with | some (_, p) => p | none => 0
def authE (s : List UInt8) : Int := if (authO s).isSome then 0 else 61

/-! ### bytes -/
theorem small_alnum (b : UInt8) : alnum (small b) = alnum b := by
  have := all_bytes (p := fun b => alnum (small b) == alnum b) (by decide +kernel) b
  simpa using this
theorem small_hostC (b : UInt8) : hostC (small b) = hostC b := by
  have := all_bytes (p := fun b => hostC (small b) == hostC b) (by decide +kernel) b
  simpa using this
theorem small_46 (b : UInt8) : (small b == 46) = (b == 46) := by
  have := all_bytes (p := fun b => (small b == 46) == (b == 46)) (by decide +kernel) b
  simpa using this
theorem small_58 (b : UInt8) : (small b == 58) = (b == 58) := by
  have := all_bytes (p := fun b => (small b == 58) == (b == 58)) (by decide +kernel) b
  simpa using this
theorem small_58n (b : UInt8) : (small b != 58) = (b != 58) := by unfold bne; rw [small_58]
theorem small_dig (b : UInt8) : dig (small b) = dig b := by
  have := all_bytes (p := fun b => dig (small b) == dig b) (by decide +kernel) b
  simpa using this
theorem hostC_58 (b : UInt8) (h : hostC b = true) : (b != 58) = true := by
  have := all_bytes (p := fun b => !hostC b || (b != 58)) (by decide +kernel) b
  rw [h] at this
  simpa using this

/-! ### small letters -/
theorem dotted_lower : ∀ s : List UInt8, dotted (lower s) = dotted s
  | [] => rfl
  | [_] => rfl
  | a :: b :: s => by
    have ih := dotted_lower (b :: s)
    unfold lower at ih ⊢
    rw [List.map_cons] at ih
    rw [List.map_cons, List.map_cons, dotted, dotted, ih, small_46, small_46]
theorem headD_lower (s : List UInt8) : alnum ((lower s).headD 0) = alnum (s.headD 0) := by
  cases s with
  | nil => rfl
  | cons c s => exact small_alnum c
theorem getLastD_lower (s : List UInt8) : alnum ((lower s).getLastD 0) = alnum (s.getLastD 0) := by
  unfold lower
  rw [List.getLastD_eq_getLast?, List.getLastD_eq_getLast?, List.getLast?_map]
  cases s.getLast? with
  | none => rfl
  | some c => exact small_alnum c
theorem host_lower (s : List UInt8) : host (lower s) = host s := by
  unfold host
  rw [dotted_lower, headD_lower, getLastD_lower, lower_length]
  have h1 : (lower s).isEmpty = s.isEmpty := by cases s <;> rfl
  have h2 : (lower s).all hostC = s.all hostC := by
    unfold lower
    rw [List.all_map]
    congr 1
    funext c
    exact small_hostC c
  rw [h1, h2]
theorem ahead_lower (s : List UInt8) : aheadOf 58 (lower s) = lower (aheadOf 58 s) := by
  unfold aheadOf lower
  rw [List.takeWhile_map]
  congr 2
  funext c
  exact small_58n c
theorem behind_lower (s : List UInt8) : behind 58 (lower s) = lower (behind 58 s) := by
  unfold behind lower
  rw [List.dropWhile_map, List.map_tail]
  congr 3
  funext c
  exact small_58n c
theorem has_lower (s : List UInt8) : hasB 58 (lower s) = hasB 58 s := by
  unfold hasB lower
  rw [List.any_map]
  congr 1
  funext c
  exact small_58 c
theorem numV_lower (b : Nat) (s : List UInt8) : numV b (lower s) = numV b s := by
  unfold numV lower
  rw [List.foldl_map]
  congr 1
  funext n c
  rw [small_dig]
theorem numOk_lower (b : Nat) (d : Int) (s : List UInt8) : numOk b d (lower s) = numOk b d s := by
  unfold numOk
  rw [lower_length]
  have h1 : (lower s).isEmpty = s.isEmpty := by cases s <;> rfl
  have h2 : (lower s).all (fun c => decide (dig c < b)) = s.all (fun c => decide (dig c < b)) := by
    unfold lower
    rw [List.all_map]
    congr 1
    funext c
    simp only [Function.comp_apply, small_dig]
  rw [h1, h2]
theorem numR_lower (b : Nat) (d : Int) (s : List UInt8) : numR b d (lower s) = numR b d s := by
  unfold numR
  rw [numOk_lower, numV_lower]
theorem portOk_lower (s : List UInt8) : portOk (lower s) = portOk s := by
  unfold portOk
  rw [numOk_lower, numR_lower]
/-- the case of letters doesn't matter -/
theorem authO_lower (s : List UInt8) : authO (lower s) = authO s := by
  unfold authO
  rw [ahead_lower, has_lower, behind_lower, host_lower, portOk_lower, numR_lower, lower_lower]

/-! ### what is told is an authority that means itself -/
theorem ahead_all {s : List UInt8} (h : s.all (fun c => c != 58) = true) (r : List UInt8) : aheadOf 58 (s ++ 58 :: r) = s ∧ behind 58 (s ++ 58 :: r) = r ∧ hasB 58 (s ++ 58 :: r) = true := by
  have h' : ∀ a ∈ s, (a != 58) = true := List.all_eq_true.1 h
  refine ⟨?_, ?_, ?_⟩
  · unfold aheadOf
    rw [List.takeWhile_append_of_pos h', List.takeWhile_cons]
    simp
  · unfold behind
    rw [List.dropWhile_append_of_pos h', List.dropWhile_cons]
    simp
  · unfold hasB
    simp
theorem ahead_self {s : List UInt8} (h : s.all (fun c => c != 58) = true) : aheadOf 58 s = s ∧ hasB 58 s = false := by
  have h' : ∀ a ∈ s, (a != 58) = true := List.all_eq_true.1 h
  refine ⟨?_, ?_⟩
  · have := List.takeWhile_append_of_pos (l₂ := []) h'
    rw [List.append_nil] at this
    unfold aheadOf
    rw [this]
    simp
  · unfold hasB
    rw [List.any_eq_false]
    intro a ha
    simpa using h' a ha
theorem host_no58 {s : List UInt8} (h : host s = true) : s.all (fun c => c != 58) = true := by
  unfold host at h
  simp only [Bool.and_eq_true] at h
  rw [List.all_eq_true]
  exact fun c hc => hostC_58 c (List.all_eq_true.1 h.1.1.2 c hc)
theorem authO_some {s h : List UInt8} {p : Int} (e : authO s = some (h, p)) : host h = true ∧ lower h = h ∧ 0 ≤ p ∧ p ≤ 65535 := by
  unfold authO at e
  split at e
  · rename_i hh
    split at e
    · split at e
      · rename_i hp
        unfold portOk at hp
        simp only [Bool.and_eq_true, decide_eq_true_eq] at hp
        injection e with e
        injection e with e1 e2
        subst e1; subst e2
        exact ⟨by rw [host_lower]; exact hh, lower_lower _, by omega, hp.2⟩
      · cases e
    · injection e with e
      injection e with e1 e2
      subst e1; subst e2
      exact ⟨by rw [host_lower]; exact hh, lower_lower _, by decide, by decide⟩
  · cases e
theorem authO_host {h : List UInt8} (hh : host h = true) (hl : lower h = h) : authO h = some (h, 0) := by
  obtain ⟨h1, h2⟩ := ahead_self (host_no58 hh)
  unfold authO
  rw [h1, h2, hh, hl]
  rfl
theorem authO_port {h : List UInt8} (hh : host h = true) (hl : lower h = h) : authO (h ++ [58, 48, 48, 48, 56, 48]) = some (h, 80) := by
  obtain ⟨h1, h2, h3⟩ := ahead_all (host_no58 hh) [48, 48, 48, 56, 48]
  unfold authO
  rw [h1, h2, h3, hh, hl]
  rfl
theorem auth_none {s : List UInt8} (h : authO s = none) : authH s = [] ∧ authP s = 0 ∧ authE s = 61 := by
  unfold authH authP authE; rw [h]; exact ⟨rfl, rfl, rfl⟩
theorem auth_some {s h : List UInt8} {p : Int} (e : authO s = some (h, p)) : authH s = h ∧ authP s = p ∧ authE s = 0 := by
  unfold authH authP authE; rw [e]; exact ⟨rfl, rfl, rfl⟩
theorem host_len {s : List UInt8} (h : host s = true) : s.length ≤ 64 := by
  unfold host at h
  simp only [Bool.and_eq_true, decide_eq_true_eq] at h
  exact h.1.1.1.1.2
theorem host_ne {s : List UInt8} (h : host s = true) : s ≠ [] := by
  intro e
  subst e
  cases h
end Go.Proofs.YtaiipdjibllodaaDoor.HostPure

/- Paths: the normal form is not longer. No program is named. -/
namespace Go.Proofs.YtaiipdjibllodaaDoor.PathLen
open LexPure Bytes PathPure PathForm
/-- what pieces weigh, a slash each -/
def wt (ps : List (List UInt8)) : Nat := (ps.map (fun p => p.length + 1)).sum
theorem wt_append (a b : List (List UInt8)) : wt (a ++ b) = wt a + wt b := by simp [wt]
theorem wt_cuts : ∀ s : List UInt8, wt (cuts s) = s.length + 1
  | [] => rfl
  | c :: s => by
    have ih := wt_cuts s
    rw [cuts_cons]
    split
    · show 1 + wt (cuts s) = _
      rw [ih]
      simp
      omega
    · cases h : cuts s with
      | nil => exact absurd h (cuts_ne s)
      | cons p ps =>
        rw [h] at ih
        simp [wt] at ih ⊢
        omega
theorem join_wt (k : List (List UInt8)) : (join k).length = wt k := by
  induction k with
  | nil => rfl
  | cons p k ih =>
    show ((47 :: p) ++ join k).length = _
    rw [List.length_append, ih]
    simp [wt]
theorem wt_dropLast (k : List (List UInt8)) : wt k.dropLast ≤ wt k := by
  rcases List.eq_nil_or_concat k with rfl | ⟨l, p, rfl⟩
  · exact Nat.le_refl _
  · simp [wt]
theorem keeps_wt : ∀ (ps G K : List (List UInt8)), keeps G ps = some K → wt K ≤ wt G + wt ps
  | [], G, K, h => by
    simp only [keeps, Option.some.injEq] at h
    subst h
    exact Nat.le_add_right _ _
  | p :: ps, G, K, h => by
    have hw : wt (p :: ps) = p.length + 1 + wt ps := by simp [wt]
    rw [keeps] at h
    split at h
    · have := keeps_wt ps G K h
      omega
    · split at h
      · split at h
        · cases h
        · have := keeps_wt ps _ K h
          have := wt_dropLast G
          omega
      · have := keeps_wt ps _ K h
        rw [wt_append] at this
        have : wt [p] = p.length + 1 := by simp [wt]
        omega
theorem keeps_open {ps G K : List (List UInt8)} (hne : ps ≠ []) (ho : endsOpen ps = true) (h : keeps G ps = some K) : wt K + 1 ≤ wt G + wt ps := by
  rcases List.eq_nil_or_concat ps with rfl | ⟨l, p, rfl⟩
  · exact absurd rfl hne
  · rw [List.concat_eq_append] at *
    rw [keeps_append] at h
    obtain ⟨k, hk, h2⟩ := Option.bind_eq_some_iff.1 h
    have h1 := keeps_wt l G k hk
    rw [wt_append]
    have hp : wt [p] = p.length + 1 := by simp [wt]
    unfold endsOpen at ho
    rw [List.getLastD_eq_getLast?, List.getLast?_append] at ho
    simp only [List.getLast?_singleton, Option.some_or, Option.getD_some, Bool.or_eq_true] at ho
    rw [keeps] at h2
    split at h2
    · simp only [keeps, Option.some.injEq] at h2
      subst h2
      omega
    · split at h2
      · split at h2
        · cases h2
        · simp only [keeps, Option.some.injEq] at h2
          subst h2
          have := wt_dropLast k
          omega
      · rename_i a b
        rcases ho with h | h
        · exact absurd h a
        · exact absurd h b
theorem finish_len {u : List UInt8} {K : List (List UInt8)} (hu : 1 ≤ u.length) (h : keeps [] (cuts u.tail) = some K) : (finish K (cuts u.tail)).length ≤ u.length := by
  have hw := wt_cuts u.tail
  have h1 := keeps_wt _ _ _ h
  have hl : u.tail.length + 1 = u.length := by rw [List.length_tail]; omega
  have h0 : wt [] = 0 := rfl
  unfold finish
  split
  · rename_i hb
    rw [List.length_append, join_wt]
    rw [Bool.or_eq_true] at hb
    rcases hb with hb | hb
    · have : K = [] := List.isEmpty_iff.1 hb
      subst this
      simp [wt]
      omega
    · have := keeps_open (cuts_ne _) hb h
      simp
      omega
  · rw [join_wt]
    omega
theorem normal_len {s t : List UInt8} (he : ∀ u, escapes s = some u → 1 ≤ u.length ∧ u.length ≤ s.length) (h : normal s = some t) : t.length ≤ s.length := by
  unfold normal at h
  split at h
  · cases h
  · rename_i u hu
    split at h
    · cases h
    · rename_i K hK
      injection h with h
      subst h
      have := he u hu
      have := finish_len this.1 hK
      omega
/-- a form's last byte -/
theorem form_last (kept : List (List UInt8)) (tr : Bool) (hf : kept = [] → tr = true) (hc : ∀ p ∈ kept, CleanP p) : ((form kept tr).getLast? == some 47) = tr := by
  unfold form
  cases tr with
  | true => simp
  | false =>
    have hne : kept ≠ [] := fun e => by cases hf e
    obtain ⟨l, p, rfl⟩ : ∃ l p, kept = l ++ [p] := ⟨kept.dropLast, kept.getLast hne, (List.dropLast_concat_getLast hne).symm⟩
    have hp := hc p (by simp)
    have e : join (l ++ [p]) = join l ++ 47 :: p := by simp [join]
    simp only [Bool.false_eq_true, if_false]
    rw [e, List.getLast?_append]
    have hpn : p ≠ [] := fun h => by have := hp.dot; rw [h] at this; exact absurd this (by decide)
    have hl : (47 :: p).getLast? = some (p.getLast hpn) := by
      rw [List.getLast?_eq_some_getLast (by simp), List.getLast_cons hpn]
    rw [hl]
    simp only [Option.some_or]
    rw [beq_eq_false_iff_ne]
    intro h
    injection h with h
    have := hp.no
    unfold noSlash at this
    rw [List.all_eq_true] at this
    have h2 := this _ (List.getLast_mem hpn)
    rw [h] at h2
    exact absurd h2 (by decide)
end Go.Proofs.YtaiipdjibllodaaDoor.PathLen

/- Layer 6: what a target means, over lists of bytes. No program is named. -/
namespace Go.Proofs.YtaiipdjibllodaaDoor.TargetPure
open LexPure Bytes LexNum CutAt HostPure PathPure PathForm PathLen
structure Tgt where
  form : Int
  host : List UInt8
  port : Int
  path : List UInt8
  query : List UInt8
  has : Bool
def zero : Tgt := ⟨0, [], 0, [], [], false⟩
def qc (c : UInt8) : Bool := decide (33 ≤ c.toNat) && decide (c.toNat ≤ 126) && c != 35
def qok (s : List UInt8) : Bool := s.all qc
/-- path and query -/
def local6 (t : Tgt) (s : List UInt8) : Tgt × Int :=
  match normal (aheadOf 63 s) with
  | none => (zero, 50)
  | some p => if qok (behind 63 s) then ({ t with path := p, query := behind 63 s, has := hasB 63 s }, 0) else (zero, 60)
def endC (c : UInt8) : Bool := c == 47 || c == 63
def inA (s : List UInt8) : List UInt8 := s.takeWhile (fun c => !endC c)
def outA (s : List UInt8) : List UInt8 := s.dropWhile (fun c => !endC c)
def slashed (s : List UInt8) : List UInt8 := if s.head? == some 47 then s else 47 :: s
def CONNECT : List UInt8 := [67, 79, 78, 78, 69, 67, 84]
def OPTIONS : List UInt8 := [79, 80, 84, 73, 79, 78, 83]
def SCHEME : List UInt8 := [104, 116, 116, 112, 58, 47, 47]
def remote6 (s : List UInt8) : Tgt × Int :=
  match authO s with
  | some (h, p) => if p = 0 then (zero, 60) else (⟨3, h, p, [], [], false⟩, 0)
  | none => (zero, 60)
def star6 (m : List UInt8) : Tgt × Int := if m == OPTIONS then (⟨4, [], 0, [], [], false⟩, 0) else (zero, 60)
def absolute6 (s : List UInt8) : Tgt × Int :=
  match authO (inA s) with
  | some (h, p) => local6 ⟨2, h, p, [], [], false⟩ (slashed (outA s))
  | none => (zero, 61)
def hasScheme (s : List UInt8) : Bool := decide (7 ≤ s.length) && alike (s.take 7) SCHEME
def parse6 (m s : List UInt8) : Tgt × Int :=
  if m == CONNECT then remote6 s
  else if s == [42] then star6 m
  else if s.head? == some 47 then local6 ⟨1, [], 0, [], [], false⟩ s
  else if hasScheme s then absolute6 (s.drop 7)
  else (zero, 60)
def origin6 (t : Tgt) : List UInt8 :=
  if t.form = 1 ∨ t.form = 2 then (if t.has then t.path ++ 63 :: t.query else t.path)
  else if t.form = 4 then [42] else []

/-! ### what comes out -/
theorem local_cases (t : Tgt) (s : List UInt8) : (local6 t s = (zero, 50)) ∨ (local6 t s = (zero, 60)) ∨
    ∃ p, normal (aheadOf 63 s) = some p ∧ qok (behind 63 s) = true ∧ local6 t s = ({ t with path := p, query := behind 63 s, has := hasB 63 s }, 0) := by
  unfold local6
  split
  · exact .inl rfl
  · rename_i p hp
    by_cases h : qok (behind 63 s) = true
    · exact .inr (.inr ⟨p, hp, h, by rw [if_pos h]⟩)
    · exact .inr (.inl (by rw [if_neg h]))
/-- an error comes with the zero target -/
theorem local_err (t : Tgt) (s : List UInt8) (h : (local6 t s).2 ≠ 0) : (local6 t s).1 = zero := by
  rcases local_cases t s with e | e | ⟨p, _, _, e⟩ <;> rw [e] at h ⊢
  exact absurd rfl h
theorem parse_err (m s : List UInt8) (h : (parse6 m s).2 ≠ 0) : (parse6 m s).1 = zero := by
  unfold parse6 at h ⊢
  split
  · rename_i hm
    rw [if_pos hm] at h
    unfold remote6 at h ⊢
    split
    · rename_i a b ha
      rw [ha] at h
      simp only at h
      split
      · rfl
      · rename_i hb
        rw [if_neg hb] at h
        exact absurd rfl h
    · rfl
  · rename_i hm
    rw [if_neg hm] at h
    split
    · rename_i hs
      rw [if_pos hs] at h
      unfold star6 at h ⊢
      split
      · rename_i ho
        rw [if_pos ho] at h
        exact absurd rfl h
      · rfl
    · rename_i hs
      rw [if_neg hs] at h
      split
      · rename_i hh
        rw [if_pos hh] at h
        exact local_err _ _ h
      · rename_i hh
        rw [if_neg hh] at h
        split
        · rename_i hc
          rw [if_pos hc] at h
          unfold absolute6 at h ⊢
          split
          · rename_i a b ha
            rw [ha] at h
            exact local_err _ _ h
          · rfl
        · rfl
/-- a target that is read is of the form Remote or Asterisk, without a path, or has a normal path and a right query -/
theorem parse_ok (m s : List UInt8) (h : (parse6 m s).2 = 0) :
    (((parse6 m s).1.form = 3 ∨ (parse6 m s).1.form = 4) ∧ (parse6 m s).1.path = [] ∧ (parse6 m s).1.has = false) ∨
    (((parse6 m s).1.form = 1 ∨ (parse6 m s).1.form = 2) ∧ ∃ r, normal (aheadOf 63 r) = some (parse6 m s).1.path ∧ qok (behind 63 r) = true ∧ (parse6 m s).1.query = behind 63 r ∧ (parse6 m s).1.has = hasB 63 r ∧ r.length ≤ s.length + 1) := by
  unfold parse6 at h ⊢
  split
  · rename_i hm
    rw [if_pos hm] at h
    left
    unfold remote6 at h ⊢
    split
    · rename_i a b ha
      rw [ha] at h
      simp only at h
      split
      · rename_i hb
        rw [if_pos hb] at h
        exact absurd h (by decide)
      · exact ⟨.inl rfl, rfl, rfl⟩
    · rename_i ha
      rw [ha] at h
      exact absurd h (by decide)
  · rename_i hm
    rw [if_neg hm] at h
    split
    · rename_i hs
      rw [if_pos hs] at h
      left
      unfold star6 at h ⊢
      split
      · exact ⟨.inr rfl, rfl, rfl⟩
      · rename_i ho
        rw [if_neg ho] at h
        exact absurd h (by decide)
    · rename_i hs
      rw [if_neg hs] at h
      split
      · rename_i hh
        rw [if_pos hh] at h
        right
        rcases local_cases ⟨1, [], 0, [], [], false⟩ s with e | e | ⟨p, e1, e2, e⟩
        · rw [e] at h; exact absurd h (by decide)
        · rw [e] at h; exact absurd h (by decide)
        · rw [e]
          exact ⟨.inl rfl, s, e1, e2, rfl, rfl, by omega⟩
      · rename_i hh
        rw [if_neg hh] at h
        split
        · rename_i hc
          rw [if_pos hc] at h
          right
          unfold absolute6 at h ⊢
          split
          · rename_i a b ha
            rw [ha] at h
            simp only at h
            rcases local_cases ⟨2, a, b, [], [], false⟩ (slashed (outA (s.drop 7))) with e | e | ⟨p, e1, e2, e⟩
            · rw [e] at h; exact absurd h (by decide)
            · rw [e] at h; exact absurd h (by decide)
            · rw [e]
              refine ⟨.inr rfl, _, e1, e2, rfl, rfl, ?_⟩
              have h1 : (outA (s.drop 7)).length ≤ s.length := by
                have := (List.dropWhile_suffix (l := s.drop 7) (fun c => !endC c)).length_le
                rw [List.length_drop] at this
                unfold outA
                omega
              unfold slashed
              split <;> simp <;> omega
          · rename_i ha
            rw [ha] at h
            exact absurd h (show ¬ (61 : Int) = 0 by decide)
        · rename_i hc
          rw [if_neg hc] at h
          exact absurd h (by decide)

/-! ### what goes to a server, read there -/
theorem enc_okc {t : List UInt8} (h : Enc t) : t.all okc = true := by
  induction h with
  | nil => rfl
  | one c r h1 _ _ ih => rw [List.all_cons, h1, ih]; rfl
  | tri n r h1 _ _ ih =>
    obtain ⟨a, b, _⟩ := hx_okc h1
    rw [List.all_cons, List.all_cons, List.all_cons, a, b, ih]
    rfl
theorem okc_63 (c : UInt8) (h : okc c = true) : (c != 63) = true := by
  unfold okc at h
  simp only [Bool.and_eq_true] at h
  exact h.1.2
theorem normal_no63 {s t : List UInt8} (h : normal s = some t) : t.all (fun c => c != 63) = true := by
  obtain ⟨kept, tr, rfl, _, hc⟩ := normal_form h
  rw [List.all_eq_true]
  exact fun c hm => okc_63 c (List.all_eq_true.1 (enc_okc (form_enc hc)) c hm)
theorem normal_head {s t : List UInt8} (h : normal s = some t) : ∃ r, t = 47 :: r := by
  obtain ⟨kept, tr, rfl, hf, _⟩ := normal_form h
  exact form_head kept tr hf
theorem ahead63 {s : List UInt8} (h : s.all (fun c => c != 63) = true) (r : List UInt8) : aheadOf 63 (s ++ 63 :: r) = s ∧ behind 63 (s ++ 63 :: r) = r ∧ hasB 63 (s ++ 63 :: r) = true := by
  have h' : ∀ a ∈ s, (a != 63) = true := List.all_eq_true.1 h
  refine ⟨?_, ?_, ?_⟩
  · unfold aheadOf
    rw [List.takeWhile_append_of_pos h', List.takeWhile_cons]
    simp
  · unfold behind
    rw [List.dropWhile_append_of_pos h', List.dropWhile_cons]
    simp
  · unfold hasB
    simp
theorem self63 {s : List UInt8} (h : s.all (fun c => c != 63) = true) : aheadOf 63 s = s ∧ behind 63 s = [] ∧ hasB 63 s = false := by
  have h' : ∀ a ∈ s, (a != 63) = true := List.all_eq_true.1 h
  refine ⟨?_, ?_, ?_⟩
  · have := List.takeWhile_append_of_pos (l₂ := []) h'
    rw [List.append_nil] at this
    unfold aheadOf
    rw [this]
    simp
  · have := List.dropWhile_append_of_pos (l₂ := []) h'
    rw [List.append_nil] at this
    unfold behind
    rw [this]
    rfl
  · unfold hasB
    rw [List.any_eq_false]
    intro a ha
    simpa using h' a ha
theorem behind_none {s : List UInt8} (h : hasB 63 s = false) : behind 63 s = [] := by
  refine (self63 ?_).2.1
  unfold hasB at h
  rw [List.any_eq_false] at h
  rw [List.all_eq_true]
  intro a ha
  have := h a ha
  simpa using this
def GET : List UInt8 := [71, 69, 84]
theorem parse_slash (m : List UInt8) (hm : (m == CONNECT) = false) (r : List UInt8) : parse6 m (47 :: r) = local6 ⟨1, [], 0, [], [], false⟩ (47 :: r) := by
  unfold parse6
  have h1 : ((47 :: r : List UInt8) == [42]) = false := by
    rw [beq_eq_false_iff_ne]
    intro e
    injection e with e1 e2
    exact absurd e1 (by decide)
  rw [hm, h1]
  simp
theorem again {m s : List UInt8} (h : (parse6 m s).2 = 0) (hf : (parse6 m s).1.form = 1 ∨ (parse6 m s).1.form = 2) :
    parse6 GET (origin6 (parse6 m s).1) = (⟨1, [], 0, (parse6 m s).1.path, (parse6 m s).1.query, (parse6 m s).1.has⟩, 0) := by
  rcases parse_ok m s h with ⟨hq, _⟩ | ⟨_, r, e1, e2, e3, e4, _⟩
  · exfalso; omega
  · generalize (parse6 m s).1 = t at *
    obtain ⟨fo, ho, po, pa, qu, ha⟩ := t
    simp only at *
    subst e3; subst e4
    have hn := normal_no63 e1
    obtain ⟨v, rfl⟩ := normal_head e1
    have hnn := normal_normal e1
    unfold origin6
    simp only
    rw [if_pos hf]
    by_cases hh : hasB 63 r = true
    · rw [if_pos hh]
      rw [List.cons_append, parse_slash GET (by decide), ← List.cons_append]
      obtain ⟨a1, a2, a3⟩ := ahead63 hn (behind 63 r)
      unfold local6
      rw [a1, a2, a3, hnn]
      simp only
      rw [if_pos e2, hh]
    · have hx : hasB 63 r = false := by simpa using hh
      rw [if_neg hh]
      rw [parse_slash GET (by decide)]
      obtain ⟨a1, a2, a3⟩ := self63 hn
      unfold local6
      rw [a1, a2, a3, hnn]
      simp only
      rw [behind_none hx, hx]
      rfl

/-! ### an absolute target -/
theorem inA_all {s : List UInt8} (h : s.all (fun c => !endC c) = true) (r : List UInt8) : inA (s ++ 47 :: r) = s ∧ outA (s ++ 47 :: r) = 47 :: r := by
  have h' : ∀ a ∈ s, (!endC a) = true := List.all_eq_true.1 h
  refine ⟨?_, ?_⟩
  · unfold inA
    rw [List.takeWhile_append_of_pos h', List.takeWhile_cons]
    simp [endC]
  · unfold outA
    rw [List.dropWhile_append_of_pos h', List.dropWhile_cons]
    simp [endC]
theorem parse_abs {x : List UInt8} (hx : x.all (fun c => !endC c) = true) (s : List UInt8) : parse6 GET (SCHEME ++ x ++ 47 :: s) =
    match authO x with
    | some (h, p) => local6 ⟨2, h, p, [], [], false⟩ (47 :: s)
    | none => (zero, 61) := by
  have e : SCHEME ++ x ++ 47 :: s = 104 :: 116 :: 116 :: 112 :: 58 :: 47 :: 47 :: (x ++ 47 :: s) := by rw [List.append_assoc]; rfl
  have h1 : (SCHEME ++ x ++ 47 :: s == [42]) = false := by
    rw [e, beq_eq_false_iff_ne]
    intro h
    injection h with h _
    exact absurd h (by decide)
  have h2 : ((SCHEME ++ x ++ 47 :: s).head? == some 47) = false := by rw [e]; rfl
  have h3 : (SCHEME ++ x ++ 47 :: s).take 7 = SCHEME := by rw [e]; rfl
  have h4 : (SCHEME ++ x ++ 47 :: s).drop 7 = x ++ 47 :: s := by rw [e]; rfl
  have h5 : hasScheme (SCHEME ++ x ++ 47 :: s) = true := by
    unfold hasScheme
    rw [h3, alike_self, e]
    simp
  unfold parse6
  rw [h1, h2, h4, h5, show (GET == CONNECT) = false by decide]
  simp only [Bool.false_eq_true, if_false, if_true]
  obtain ⟨i1, i2⟩ := inA_all hx s
  unfold absolute6
  rw [i1, i2]
  have : slashed (47 :: s) = 47 :: s := by unfold slashed; simp
  rw [this]
/-- the errors of two targets that differ in what isn't read -/
theorem local_same (t u : Tgt) (s : List UInt8) : (local6 t s).2 = (local6 u s).2 := by
  unfold local6
  split
  · rfl
  · split <;> rfl
theorem local_ok {t u : Tgt} {s : List UInt8} (h : (local6 u s).2 = 0) : (local6 t s).1 = { t with path := (local6 u s).1.path, query := (local6 u s).1.query, has := (local6 u s).1.has } := by
  rcases local_cases u s with e | e | ⟨p, e1, e2, e⟩
  · rw [e] at h; exact absurd h (by decide)
  · rw [e] at h; exact absurd h (by decide)
  · rw [e]
    unfold local6
    rw [e1]
    simp only
    rw [if_pos e2]
end Go.Proofs.YtaiipdjibllodaaDoor.TargetPure

/- Layer 6 of the program: isQuery. -/
namespace Go.Proofs.YtaiipdjibllodaaDoor.TQuery
open Go.ChangeShapes Go.WideShapes Go.ChangeAt Go.RowKit LexPure Bytes Ret TargetPure
set_option maxRecDepth 20000
theorem qc_cases (b : UInt8) : (qc b = true ∧ 33 ≤ (b.toNat : Int) ∧ (b.toNat : Int) ≤ 126 ∧ ((b.toNat : Int) == 35) = false) ∨ (qc b = false ∧ (b.toNat : Int) < 33) ∨ (qc b = false ∧ 33 ≤ (b.toNat : Int) ∧ 126 < (b.toNat : Int)) ∨ (qc b = false ∧ 33 ≤ (b.toNat : Int) ∧ (b.toNat : Int) ≤ 126 ∧ ((b.toNat : Int) == 35) = true) := by
  have := all_bytes (p := fun b => decide ((qc b = true ∧ 33 ≤ (b.toNat : Int) ∧ (b.toNat : Int) ≤ 126 ∧ ((b.toNat : Int) == 35) = false) ∨ (qc b = false ∧ (b.toNat : Int) < 33) ∨ (qc b = false ∧ 33 ≤ (b.toNat : Int) ∧ 126 < (b.toNat : Int)) ∨ (qc b = false ∧ 33 ≤ (b.toNat : Int) ∧ (b.toNat : Int) ≤ 126 ∧ ((b.toNat : Int) == 35) = true))) (by decide +kernel) b
  exact of_decide_eq_true this
theorem tquery_any (s : ByteArray) (hs : s.size ≤ 140737488351232) (w : World) :
    Calls Tryd.prog 33 #[.string s] w fun e w' => e = .returned (.bool (qok (toL s))) ∧ w = w' := by
  go_enter Tryd.func33, Tryd.ntmps33
  go_wp2_with fail
  go_loop [6] (fun i => ∃ k : Nat, k ≤ s.size ∧ i = .int .i64 k ∧ Hid (((toL s).take k).all qc = true)) (fun i => s.size - (intOf i).toNat)
  case atStart => exact ⟨0, Nat.zero_le _, rfl, Lib.hid rfl⟩
  case round =>
    obtain ⟨k, hk, rfl, ha⟩ := hrel
    by_cases hlt : k < s.size
    · have hki : (k : Int) < (s.size : Int) := by omega
      have HS := Lib.hid (toL_take_succ s k hlt)
      have HG := Lib.hid (toL_get s k hlt)
      have HN : qc s[k] = true → Hid (((toL s).take (k + 1)).all qc = true) := fun hh => Lib.hid (by rw [HS.out, List.all_append, ha.out]; simp [hh])
      have HF : qc s[k] = false → Hid (qok (toL s) = false) := fun hh => Lib.hid (by
        unfold qok
        rw [List.all_eq_false]
        exact ⟨s[k], List.mem_of_getElem? HG.out, by simpa using hh⟩)
      rcases qc_cases s[k] with ⟨hh, h1, h2, h3⟩ | ⟨hh, h1⟩ | ⟨hh, h1, h2⟩ | ⟨hh, h1, h2, h3⟩
      · have HA := HN hh
        clear hh HS HG HN HF ha
        go_wp2_with fail
        go_round
        case rel => exact ⟨k + 1, by omega, by go_num, HA⟩
        case measure => simp [intOf]; omega
      all_goals
        have HV := HF hh
        clear hh HS HG HN HF ha
        go_wp2_with fail
        go_ret
        exact ⟨ret_bool HV.out.symm, rfl⟩
    · have hall : (toL s).take k = toL s := toL_take_all s (by omega)
      have HV : Hid (qok (toL s) = true) := Lib.hid (by
        have h := ha.out
        rw [hall] at h
        exact h)
      clear hall ha
      go_wp2_with fail
      go_ret
      exact ⟨ret_bool HV.out.symm, rfl⟩
end Go.Proofs.YtaiipdjibllodaaDoor.TQuery

/- Layer 6 of the program: isLetterOrDigit, isHost. -/
namespace Go.Proofs.YtaiipdjibllodaaDoor.THost
open Go.ChangeShapes Go.WideShapes Go.ChangeAt Go.RowKit LexPure Bytes Ret HostPure PUnder
set_option maxRecDepth 20000
theorem alnum_cases (b : UInt8) : alnum b = decide ((48 ≤ (b.toNat : Int) ∧ (b.toNat : Int) ≤ 57) ∨ (65 ≤ (b.toNat : Int) ∧ (b.toNat : Int) ≤ 90) ∨ (97 ≤ (b.toNat : Int) ∧ (b.toNat : Int) ≤ 122)) := by
  have := all_bytes (p := fun b => alnum b == decide ((48 ≤ (b.toNat : Int) ∧ (b.toNat : Int) ≤ 57) ∨ (65 ≤ (b.toNat : Int) ∧ (b.toNat : Int) ≤ 90) ∨ (97 ≤ (b.toNat : Int) ∧ (b.toNat : Int) ≤ 122))) (by decide +kernel) b
  simpa only [beq_iff_eq] using this
theorem talnum_any (b : UInt8) (w : World) :
    Calls Tryd.prog 39 #[.int .u8 (b.toNat : Int)] w fun e w' => e = .returned (.bool (alnum b)) ∧ w = w' := by
  rw [alnum_cases]
  generalize (b.toNat : Int) = c
  go_enter Tryd.func39, Tryd.ntmps39
  go_wp2_with fail
  all_goals
    go_ret
    refine ⟨ret_bool ?_, rfl⟩
  all_goals first
    | rfl
    | exact Eq.symm (decide_eq_true (by omega))
    | exact Eq.symm (decide_eq_false (by omega))
    | (rw [Bool.eq_iff_iff]; simp only [Bool.or_eq_true, Bool.and_eq_true, decide_eq_true_eq]; omega)
    | (rw [Bool.eq_iff_iff]; simp only [Bool.or_eq_true, Bool.and_eq_true, decide_eq_true_eq, Bool.false_eq_true, false_iff]; omega)
    | trace_state
theorem dots_say : ∀ s : List UInt8, Go.Lib.contains s [46, 46] = dotted s
  | [] => by unfold Go.Lib.contains; decide
  | [a] => by
    unfold Go.Lib.contains Go.Lib.index
    simp [Go.Lib.index, List.isPrefixOf, dotted]
  | a :: b :: s => by
    have ih := dots_say (b :: s)
    rw [dotted, ← ih]
    unfold Go.Lib.contains
    rw [Go.Lib.index]
    have hge := Go.Lib.index_ge (b :: s) [46, 46]
    have hp : ([46, 46] : List UInt8).isPrefixOf (a :: b :: s) = (a == 46 && b == 46) := by
      simp only [List.isPrefixOf, Bool.and_true]
      rw [show ((46 : UInt8) == a) = (a == 46) by rw [Bool.eq_iff_iff]; simp only [beq_iff_eq]; exact eq_comm, show ((46 : UInt8) == b) = (b == 46) by rw [Bool.eq_iff_iff]; simp only [beq_iff_eq]; exact eq_comm]
    rw [hp]
    cases hq : (a == 46 && b == 46)
    · rw [Bool.false_or]
      simp only [Bool.false_eq_true, if_false]
      by_cases hm : Go.Lib.index (b :: s) [46, 46] = -1
      · rw [hm]; rfl
      · have : ((Go.Lib.index (b :: s) [46, 46]) == -1) = false := beq_eq_false_iff_ne.2 hm
        rw [this]
        simp only [Bool.false_eq_true, if_false]
        rw [decide_eq_decide]
        omega
    · rfl
theorem lib_dots (s : ByteArray) (hs : s.size < 4294967281) (w : World) (hm : MaxInt w) :
    Calls Tryd.prog 38 #[.string s, .string ⟨#[46, 46]⟩] w fun e w' => e = .returned (.bool (dotted (toL s))) ∧ w' = w := by
  obtain ⟨m, hm⟩ := hm
  have h := Any.strings_Contains Tryd.lays144 s ⟨#[46, 46]⟩ m w hs hm
  rw [show (⟨#[46, 46]⟩ : ByteArray).data.toList = [46, 46] from rfl, dots_say] at h
  exact h
theorem hostC_cases (b : UInt8) : (hostC b = true ∧ alnum b = true) ∨ (hostC b = true ∧ alnum b = false ∧ ((b.toNat : Int) != 45) = false) ∨ (hostC b = true ∧ alnum b = false ∧ ((b.toNat : Int) != 45) = true ∧ ((b.toNat : Int) != 46) = false) ∨ (hostC b = false ∧ alnum b = false ∧ ((b.toNat : Int) != 45) = true ∧ ((b.toNat : Int) != 46) = true) := by
  have := all_bytes (p := fun b => decide ((hostC b = true ∧ alnum b = true) ∨ (hostC b = true ∧ alnum b = false ∧ ((b.toNat : Int) != 45) = false) ∨ (hostC b = true ∧ alnum b = false ∧ ((b.toNat : Int) != 45) = true ∧ ((b.toNat : Int) != 46) = false) ∨ (hostC b = false ∧ alnum b = false ∧ ((b.toNat : Int) != 45) = true ∧ ((b.toNat : Int) != 46) = true))) (by decide +kernel) b
  exact of_decide_eq_true this
theorem head_at (s : ByteArray) (h : 0 < s.size) : (toL s).headD 0 = s[0] := by
  have := toL_get s 0 h
  rw [List.headD_eq_head?_getD, List.head?_eq_getElem?, this]
  rfl
theorem last_at (s : ByteArray) (h : 0 < s.size) : (toL s).getLastD 0 = s[s.size - 1] := by
  have := toL_get s (s.size - 1) (by omega)
  rw [List.getLastD_eq_getLast?, List.getLast?_eq_getElem?, toL_length, this]
  rfl
set_option maxHeartbeats 1600000 in
theorem thost_any (s : ByteArray) (hs : s.size ≤ 140737488351232) (w : World) (hm : MaxInt w) :
    Calls Tryd.prog 25 #[.string s] w fun e w' => e = .returned (.bool (host (toL s))) ∧ w = w' := by
  by_cases h0 : 0 < s.size
  rotate_left
  · have hv : host (toL s) = false := by
      have : toL s = [] := List.length_eq_zero_iff.1 (by rw [toL_length]; omega)
      rw [this]; rfl
    have e1 : s.toList = [] := by
      rw [ByteArray.toList_eq]
      exact List.length_eq_zero_iff.1 (by have := toL_length s; unfold toL at this; omega)
    have e2 : s.toList.isEmpty = true := by rw [e1]; rfl
    rw [hv]
    clear hm hv h0
    go_enter Tryd.func25, Tryd.ntmps25
    go_wp2_with fail
    go_ret
    exact ⟨rfl, rfl⟩
  have e1 : ¬ s.toList = [] := fun e => by
    rw [ByteArray.toList_eq] at e
    have := toL_length s
    rw [show toL s = [] from e] at this
    simp at this
    omega
  have e2 : s.toList.isEmpty = false := by
    cases h2 : s.toList with
    | nil => exact absurd h2 e1
    | cons => rfl
  have hne : (toL s).isEmpty = false := by
    cases h2 : toL s with
    | nil => have := toL_length s; rw [h2] at this; simp at this; omega
    | cons => rfl
  by_cases h64 : s.size ≤ 64
  rotate_left
  · have hv : host (toL s) = false := by
      unfold host
      rw [decide_eq_false (p := (toL s).length ≤ 64) (by rw [toL_length]; exact h64)]
      simp
    have hi : (64 : Int) < (s.size : Int) := by omega
    rw [hv]
    clear hm hv h0 h64 hne
    go_enter Tryd.func25, Tryd.ntmps25
    go_wp2_with fail
    go_ret
    exact ⟨rfl, rfl⟩
  have hi : ¬ (64 : Int) < (s.size : Int) := by omega
  have HD := Lib.hid (lib_dots s (by omega) w hm)
  clear hm
  by_cases hd : dotted (toL s) = true
  · have hv : host (toL s) = false := by unfold host; rw [hd]; simp
    rw [hd] at HD
    rw [hv]
    clear hv h0 h64 hne hd
    go_enter Tryd.func25, Tryd.ntmps25
    go_wp2_with fail
    refine HD.out.mono ?_
    rintro e w' ⟨rfl, rfl⟩
    go_wp2_with fail
    go_ret
    exact ⟨rfl, rfl⟩
  have hdf : dotted (toL s) = false := by simpa using hd
  have HV := Lib.hid (show host (toL s) = ((toL s).all hostC && alnum s[0] && alnum s[s.size - 1]) by
    unfold host
    rw [hne, hdf, decide_eq_true (p := (toL s).length ≤ 64) (by rw [toL_length]; exact h64), head_at s h0, last_at s h0]
    rfl)
  rw [hdf] at HD
  clear hd hdf hne
  go_enter Tryd.func25, Tryd.ntmps25
  go_wp2_with fail
  refine HD.out.mono ?_
  rintro e w' ⟨rfl, rfl⟩
  clear HD
  go_wp2_with fail
  go_loop [17] (fun i => ∃ k : Nat, k ≤ s.size ∧ i = .int .i64 k ∧ Hid (((toL s).take k).all hostC = true)) (fun i => s.size - (intOf i).toNat)
  case atStart => exact ⟨0, Nat.zero_le _, rfl, Lib.hid rfl⟩
  case round =>
    obtain ⟨k, hk, rfl, ha⟩ := hrel
    by_cases hlt : k < s.size
    · have hki : (k : Int) < (s.size : Int) := by omega
      have HS := Lib.hid (toL_take_succ s k hlt)
      have HG := Lib.hid (toL_get s k hlt)
      have HC := Lib.hid (fun w => talnum_any s[k] w)
      have HN : hostC s[k] = true → Hid (((toL s).take (k + 1)).all hostC = true) := fun hh => Lib.hid (by rw [HS.out, List.all_append, ha.out]; simp [hh])
      rcases hostC_cases s[k] with ⟨hh, h1⟩ | ⟨hh, h1, h2⟩ | ⟨hh, h1, h2, h3⟩ | ⟨hh, h1, h2, h3⟩
      · have HA := HN hh
        rw [h1] at HC
        clear hh h1 HS HG HN HV ha
        go_wp2_with (refine (HC.out _).mono ?_; rintro e w' ⟨rfl, rfl⟩)
        go_round
        case rel => exact ⟨k + 1, by omega, by go_num, HA⟩
        case measure => simp [intOf]; omega
      · have HA := HN hh
        rw [h1] at HC
        clear hh h1 HS HG HN HV ha
        go_wp2_with (refine (HC.out _).mono ?_; rintro e w' ⟨rfl, rfl⟩)
        go_round
        case rel => exact ⟨k + 1, by omega, by go_num, HA⟩
        case measure => simp [intOf]; omega
      · have HA := HN hh
        rw [h1] at HC
        clear hh h1 HS HG HN HV ha
        go_wp2_with (refine (HC.out _).mono ?_; rintro e w' ⟨rfl, rfl⟩)
        go_round
        case rel => exact ⟨k + 1, by omega, by go_num, HA⟩
        case measure => simp [intOf]; omega
      · have HV2 : Hid (host (toL s) = false) := Lib.hid (by
          rw [HV.out]
          have : (toL s).all hostC = false := by
            rw [List.all_eq_false]
            exact ⟨s[k], List.mem_of_getElem? HG.out, by simpa using hh⟩
          rw [this]
          rfl)
        rw [h1] at HC
        clear hh h1 HS HG HN HV ha
        go_wp2_with (refine (HC.out _).mono ?_; rintro e w' ⟨rfl, rfl⟩)
        go_ret
        exact ⟨ret_bool HV2.out.symm, rfl⟩
    · have hall : (toL s).take k = toL s := toL_take_all s (by omega)
      have HV2 : Hid (host (toL s) = (alnum s[0] && alnum s[s.size - 1])) := Lib.hid (by
        have h := ha.out
        rw [hall] at h
        rw [HV.out, h]
        rfl)
      clear hall HV ha
      obtain ⟨j, hj⟩ : ∃ j, s.size = j + 1 := ⟨s.size - 1, by omega⟩
      have hjl : j < s.size := by omega
      have hgj : s[s.size - 1] = s[j] := by congr 1; omega
      rw [hgj] at HV2
      clear hgj
      have H0 := Lib.hid (fun w => talnum_any s[0] w)
      have H1 := Lib.hid (fun w => talnum_any s[j] w)
      have hz : (0 : Int) < (s.size : Int) := by omega
      have hz1 : (0 : Int) < (j : Int) + 1 := by omega
      have hz2 : (j : Int) < (j : Int) + 1 := by omega
      cases ha0 : alnum s[0]
      · rw [ha0] at HV2 H0
        clear ha0 H1
        go_wp2_with fail
        refine (H0.out _).mono ?_
        rintro e w' ⟨rfl, rfl⟩
        go_wp2_with fail
        go_ret
        exact ⟨ret_bool HV2.out.symm, rfl⟩
      · rw [ha0] at HV2 H0
        clear ha0
        go_wp2_with fail
        refine (H0.out _).mono ?_
        rintro e w' ⟨rfl, rfl⟩
        go_wp2_with fail
        refine (H1.out _).mono ?_
        rintro e w' ⟨rfl, rfl⟩
        go_wp2_with fail
        go_ret
        exact ⟨ret_bool HV2.out.symm, rfl⟩
end Go.Proofs.YtaiipdjibllodaaDoor.THost

/- Layer 4 of the program: small. -/
namespace Go.Proofs.YtaiipdjibllodaaDoor.PLsmall
open Go.ChangeShapes Go.WideShapes Go.ChangeAt Go.RowKit LexPure Bytes Ret
set_option maxRecDepth 20000
theorem small_cases (b : UInt8) : (65 ≤ (b.toNat : Int) ∧ (b.toNat : Int) ≤ 90 ∧ ((small b).toNat : Int) = (b.toNat : Int) - 65 + 97) ∨ (((b.toNat : Int) < 65 ∨ (65 ≤ (b.toNat : Int) ∧ 90 < (b.toNat : Int))) ∧ small b = b) := by
  have := all_bytes (p := fun b => decide ((65 ≤ (b.toNat : Int) ∧ (b.toNat : Int) ≤ 90 ∧ ((small b).toNat : Int) = (b.toNat : Int) - 65 + 97) ∨ (((b.toNat : Int) < 65 ∨ (65 ≤ (b.toNat : Int) ∧ 90 < (b.toNat : Int))) ∧ small b = b))) (by decide +kernel) b
  simpa only [decide_eq_true_eq] using this
theorem psmall_any (b : UInt8) (w : World) :
    Calls Tryd.prog 34 #[.int .u8 (b.toNat : Int)] w fun e w' => e = .returned (.int .u8 ((small b).toNat : Int)) ∧ w = w' := by
  have hub : (b.toNat : Int) ≤ 255 := by have := b.toNat_lt; omega
  rcases small_cases b with ⟨h1, h2, h3⟩ | ⟨h1 | ⟨h1, h2⟩, h3⟩
  · have H3 := Lib.hid h3
    clear h3
    generalize (b.toNat : Int) = c at *
    go_enter Tryd.func34, Tryd.ntmps34
    go_wp2_with fail
    go_ret
    exact ⟨by rw [H3.out]; rfl, rfl⟩
  · rw [h3]
    generalize (b.toNat : Int) = c at *
    go_enter Tryd.func34, Tryd.ntmps34
    go_wp2_with fail
    go_ret
    exact ⟨rfl, rfl⟩
  · rw [h3]
    generalize (b.toNat : Int) = c at *
    go_enter Tryd.func34, Tryd.ntmps34
    go_wp2_with fail
    go_ret
    exact ⟨rfl, rfl⟩
theorem psmall_same (b : UInt8) (w : World) :
    Calls Tryd.prog 34 #[.int .u8 (b.toNat : Int)] w fun e w' => e = .returned (.int .u8 ((small b).toNat : Int)) ∧ w' = w :=
  (psmall_any b w).mono fun _ _ ⟨h, k⟩ => ⟨h, k.symm⟩
end Go.Proofs.YtaiipdjibllodaaDoor.PLsmall

/- Layer 4 of the program: Lower, Alike. -/
namespace Go.Proofs.YtaiipdjibllodaaDoor.PLower
open Go.ChangeShapes Go.WideShapes Go.ChangeAt Go.RowKit LexPure Bytes Ret PLsmall Rows1 BRow Mem
set_option maxRecDepth 20000
/-- ahead of a round: the first k bytes are small -/
structure LInv (w : World) (s : ByteArray) (k : Nat) (wr : World) : Prop where
  row : BRow wr w.heap.size (lower ((toL s).take k) ++ (toL s).drop k)
  below : Below w.heap.size w wr
  lt : w.heap.size < wr.heap.size
theorem plower_any (s : ByteArray) (hs : s.size ≤ maxLen) (w : World) :
    Calls Tryd.prog 26 #[.string s] w fun e w' => e = .returned (.string (ofL (lower (toL s)))) ∧ Below w.heap.size w w' := by
  go_enter Tryd.func26, Tryd.ntmps26
  unfold maxLen at hs
  obtain ⟨cap, w1, HC, hR, hb, hg⟩ := bytes_of (P := Tryd.prog) w 9 48 5 s Tryd.underlying9 Tryd.underlying48 Tryd.underlying5
  have HR0 : Hid (LInv w s 0 w1) := Lib.hid ⟨by rw [List.take_zero, List.drop_zero]; exact hR, hb, hg⟩
  clear hR hb hg
  go_wp2_with fail
  generalize hgq : w.heap.size = g at *
  go_loopw [10] (fun i wr => ∃ k : Nat, k ≤ s.size ∧ i = .int .i64 k ∧ Hid (LInv w s k wr)) (fun i _ => s.size - (intOf i).toNat)
  case atStart => exact ⟨0, Nat.zero_le _, rfl, HR0⟩
  case round =>
    obtain ⟨k, hk, rfl, HI⟩ := hrel
    clear HR0
    by_cases hlt : k < s.size
    · have hki : (k : Int) < (s.size : Int) := by omega
      have hlen : (lower ((toL s).take k) ++ (toL s).drop k).length = s.size := by
        rw [List.length_append, lower_length, List.length_take, List.length_drop, toL_length]; omega
      have hkl : k < (lower ((toL s).take k) ++ (toL s).drop k).length := by omega
      have hc := HI.out.row.cell k hkl
      have hget : (lower ((toL s).take k) ++ (toL s).drop k)[k] = s[k] := by
        have h1 : (lower ((toL s).take k) ++ (toL s).drop k)[k]? = some s[k] := by
          rw [List.getElem?_append_right (by rw [lower_length, List.length_take, toL_length]; omega), lower_length, List.length_take, toL_length, List.getElem?_drop, ← toL_get s k hlt]
          congr 1
          omega
        rw [List.getElem?_eq_getElem hkl] at h1
        exact Option.some.inj h1
      rw [hget, hgq] at hc
      have hf := HI.out.row.free k hkl
      rw [hgq] at hf
      have HC := Lib.hid (fun w => psmall_same s[k] w)
      have HN : Hid (LInv w s (k + 1) (wr.setCell ⟨g, k, none⟩ (.int .u8 ((small s[k]).toNat : Int)))) := Lib.hid ⟨by
          have h := HI.out.row.set k hkl (small s[k])
          rw [hgq] at h ⊢
          have e : (lower ((toL s).take k) ++ (toL s).drop k).set k (small s[k]) = lower ((toL s).take (k + 1)) ++ (toL s).drop (k + 1) := by
            rw [toL_take_succ s k hlt, toL_drop s k hlt]
            unfold lower
            rw [List.map_append, List.set_append_right _ _ (by rw [List.length_map, List.length_take, toL_length]; omega), List.length_map, List.length_take, toL_length, show k - min k s.size = 0 by omega]
            simp
          rwa [e] at h,
        HI.out.below.setCell (by rw [hgq]; exact Nat.le_refl _) _, by
          have := HI.out.lt
          rw [World.size_setCell]; exact this⟩
      clear hlen hkl hget HI
      go_wp2_with fail
      refine (HC.out _).mono ?_
      rintro e w' ⟨rfl, rfl⟩
      go_wp2_with fail
      go_roundw
      case rel => exact ⟨k + 1, by omega, by go_num, HN⟩
      case measure => simp [intOf]; omega
    · have hall : (toL s).take k = toL s := toL_take_all s (by omega)
      have HF : Hid (BRow wr g (lower (toL s))) := Lib.hid (by
        have h := HI.out.row
        rw [hall, hgq] at h
        rwa [List.drop_of_length_le (by rw [toL_length]; omega), List.append_nil] at h)
      have HT := HF.out.text (P := Tryd.prog) (cap := cap) 48 9 5 Tryd.underlying48 Tryd.underlying5 Tryd.underlying9
      rw [lower_length, toL_length] at HT
      have HB := Lib.hid HI.out.below
      clear hall HF HI
      go_wp2_with fail
      go_ret
      exact ⟨rfl, HB.out⟩
end Go.Proofs.YtaiipdjibllodaaDoor.PLower

/- Layer 4 of the program: Decimal. -/
namespace Go.Proofs.YtaiipdjibllodaaDoor.PDecimal
open Go.ChangeShapes Go.WideShapes Go.ChangeAt Go.RowKit LexPure Bytes Ret LexNum PCount
set_option maxRecDepth 20000
theorem pdecimal_any (s : ByteArray) (hs : s.size ≤ maxLen) (digits : Int) (w : World) :
    Calls Tryd.prog 27 #[.string s, .int .i64 digits] w fun e w' => e = .returned (.tuple #[.int .i64 (numR 10 (min digits 18) (toL s)), .bool (numOk 10 (min digits 18) (toL s))]) ∧ w = w' := by
  have HN := Lib.hid (pnumber_any s hs (min digits 18) 10 (.inl ⟨rfl, Int.min_le_right _ _⟩))
  clear hs
  rcases (show digits < 18 ∨ digits = 18 ∨ 18 < digits by omega) with h | h | h
  · have hm : min digits 18 = digits := by omega
    rw [hm] at HN ⊢
    go_enter Tryd.func27, Tryd.ntmps27
    go_wp2_with fail
    refine (HN.out _).mono ?_
    rintro e w' ⟨rfl, rfl⟩
    go_wp2_with fail
    go_ret2
    exact ⟨rfl, rfl⟩
  · subst h
    have hm : min 18 18 = (18 : Int) := rfl
    rw [hm] at HN ⊢
    go_enter Tryd.func27, Tryd.ntmps27
    go_wp2_with fail
    refine (HN.out _).mono ?_
    rintro e w' ⟨rfl, rfl⟩
    go_wp2_with fail
    go_ret2
    exact ⟨rfl, rfl⟩
  · have hm : min digits 18 = 18 := by omega
    rw [hm] at HN ⊢
    go_enter Tryd.func27, Tryd.ntmps27
    go_wp2_with fail
    refine (HN.out _).mono ?_
    rintro e w' ⟨rfl, rfl⟩
    go_wp2_with fail
    go_ret2
    exact ⟨rfl, rfl⟩
end Go.Proofs.YtaiipdjibllodaaDoor.PDecimal

/- Layer 6 of the program: Authority. -/
namespace Go.Proofs.YtaiipdjibllodaaDoor.TAuth
open Go.ChangeShapes Go.WideShapes Go.ChangeAt Go.RowKit LexPure Bytes Ret CutAt HostPure PUnder PCutLib PLower PDecimal THost Mem
set_option maxRecDepth 20000
theorem ahead_len (x : UInt8) (s : List UInt8) : (aheadOf x s).length ≤ s.length := by
  unfold aheadOf
  exact (List.takeWhile_prefix _).length_le
theorem behind_len (x : UInt8) (s : List UInt8) : (behind x s).length ≤ s.length := by
  unfold behind
  rw [List.length_tail]
  have := (List.dropWhile_suffix (l := s) (fun c => c != x)).length_le
  omega
theorem ret_auth {a b : ByteArray} {p q r t : Int} (h : a = b) (k : p = q) (l : r = t) : Ending.returned (.tuple #[.string a, .int .i64 p, .int .i64 r]) = .returned (.tuple #[.string b, .int .i64 q, .int .i64 t]) := by rw [h, k, l]
set_option maxHeartbeats 1600000 in
theorem tauth_any (s : ByteArray) (hs : s.size ≤ 140737488351232) (w : World) (hm : MaxInt w) :
    Calls Tryd.prog 14 #[.string s] w fun e w' => e = .returned (.tuple #[.string (ofL (authH (toL s))), .int .i64 (authP (toL s)), .int .i64 (authE (toL s))]) ∧ Below w.heap.size w w' := by
  have HC := Lib.hid (fun w => full_cut 58 s hs w)
  have hl1 := ahead_len 58 (toL s)
  have hl2 := behind_len 58 (toL s)
  rw [toL_length] at hl1 hl2
  have HH := Lib.hid (fun w hm => thost_any (ofL (aheadOf 58 (toL s))) (by rw [ofL_size]; omega) w hm)
  have HL := Lib.hid (fun w => plower_any (ofL (aheadOf 58 (toL s))) (by rw [ofL_size]; unfold maxLen; omega) w)
  have HD := Lib.hid (fun w => pdecimal_any (ofL (behind 58 (toL s))) (by rw [ofL_size]; unfold maxLen; omega) 5 w)
  rw [toL_ofL] at HH HL HD
  rw [show min (5 : Int) 18 = 5 from rfl] at HD
  have HM := Lib.hid hm
  clear hm hl1 hl2 hs
  by_cases hh : host (aheadOf 58 (toL s)) = true
  rotate_left
  · have hf : host (aheadOf 58 (toL s)) = false := by simpa using hh
    have hn : authO (toL s) = none := by unfold authO; rw [if_neg hh]
    obtain ⟨v1, v2, v3⟩ := auth_none hn
    rw [v1, v2, v3]
    rw [hf] at HH
    clear hf hn v1 v2 v3 hh HL HD
    generalize ofL (aheadOf 58 (toL s)) = A at *
    generalize ofL (behind 58 (toL s)) = B at *
    generalize hasB 58 (toL s) = q at *
    go_enter Tryd.func14, Tryd.ntmps14
    go_wp2_with fail
    refine (HC.out _).mono ?_
    rintro e w1 ⟨rfl, hb1⟩
    go_wp2_with fail
    refine (HH.out _ (HM.out.below hb1)).mono ?_
    rintro e w2 ⟨rfl, rfl⟩
    go_wp2_with fail
    go_ret3
    exact ⟨rfl, hb1⟩
  rw [hh] at HH
  cases hq : hasB 58 (toL s)
  · have hn : authO (toL s) = some (lower (aheadOf 58 (toL s)), 0) := by unfold authO; rw [if_pos hh, hq]; rfl
    obtain ⟨v1, v2, v3⟩ := auth_some hn
    rw [v1, v2, v3]
    rw [hq] at HC
    clear hn v1 v2 v3 hh hq HD
    generalize ofL (lower (aheadOf 58 (toL s))) = L at *
    generalize ofL (aheadOf 58 (toL s)) = A at *
    generalize ofL (behind 58 (toL s)) = B at *
    go_enter Tryd.func14, Tryd.ntmps14
    go_wp2_with fail
    refine (HC.out _).mono ?_
    rintro e w1 ⟨rfl, hb1⟩
    go_wp2_with fail
    refine (HH.out _ (HM.out.below hb1)).mono ?_
    rintro e w2 ⟨rfl, rfl⟩
    go_wp2_with fail
    refine (HL.out _).mono ?_
    rintro e w2 ⟨rfl, hb2⟩
    have HB := Lib.hid (below_chain hb1 hb2)
    clear hb1 hb2
    go_wp2_with fail
    go_ret3
    exact ⟨rfl, HB.out⟩
  · rw [hq] at HC
    by_cases hp : portOk (behind 58 (toL s)) = true
    · have hn : authO (toL s) = some (lower (aheadOf 58 (toL s)), numR 10 5 (behind 58 (toL s))) := by unfold authO; rw [if_pos hh, hq, if_pos rfl, if_pos hp]
      obtain ⟨v1, v2, v3⟩ := auth_some hn
      rw [v1, v2, v3]
      unfold portOk at hp
      simp only [Bool.and_eq_true, decide_eq_true_eq] at hp
      obtain ⟨⟨p1, p2⟩, p3⟩ := hp
      rw [p1] at HD
      clear hn v1 v2 v3 hh hq p1
      generalize ofL (lower (aheadOf 58 (toL s))) = L at *
      generalize ofL (aheadOf 58 (toL s)) = A at *
      generalize numR 10 5 (behind 58 (toL s)) = n at *
      generalize ofL (behind 58 (toL s)) = B at *
      go_enter Tryd.func14, Tryd.ntmps14
      go_wp2_with fail
      refine (HC.out _).mono ?_
      rintro e w1 ⟨rfl, hb1⟩
      go_wp2_with fail
      refine (HH.out _ (HM.out.below hb1)).mono ?_
      rintro e w2 ⟨rfl, rfl⟩
      go_wp2_with fail
      refine (HD.out _).mono ?_
      rintro e w2 ⟨rfl, rfl⟩
      go_wp2_with fail
      refine (HL.out _).mono ?_
      rintro e w2 ⟨rfl, hb2⟩
      have HB := Lib.hid (below_chain hb1 hb2)
      clear hb1 hb2
      go_wp2_with fail
      go_ret3
      exact ⟨rfl, HB.out⟩
    · have hn : authO (toL s) = none := by unfold authO; rw [if_pos hh, hq, if_pos rfl, if_neg hp]
      obtain ⟨v1, v2, v3⟩ := auth_none hn
      rw [v1, v2, v3]
      have hc : numOk 10 5 (behind 58 (toL s)) = false ∨ (numOk 10 5 (behind 58 (toL s)) = true ∧ numR 10 5 (behind 58 (toL s)) < 1) ∨ (numOk 10 5 (behind 58 (toL s)) = true ∧ 1 ≤ numR 10 5 (behind 58 (toL s)) ∧ 65535 < numR 10 5 (behind 58 (toL s))) := by
        unfold portOk at hp
        simp only [Bool.and_eq_true, decide_eq_true_eq] at hp
        cases h : numOk 10 5 (behind 58 (toL s))
        · exact .inl rfl
        · right
          rcases Int.lt_or_le (numR 10 5 (behind 58 (toL s))) 1 with h2 | h2
          · exact .inl ⟨rfl, h2⟩
          · rcases Int.lt_or_le 65535 (numR 10 5 (behind 58 (toL s))) with h3 | h3
            · exact .inr ⟨rfl, h2, h3⟩
            · exact absurd ⟨⟨h, h2⟩, h3⟩ hp
      clear hn v1 v2 v3 hh hq hp HL
      rcases hc with h1 | ⟨h1, h2⟩ | ⟨h1, h2, h3⟩
      all_goals
        rw [h1] at HD
        clear h1
        generalize ofL (aheadOf 58 (toL s)) = A at *
        generalize numR 10 5 (behind 58 (toL s)) = n at *
        generalize ofL (behind 58 (toL s)) = B at *
        go_enter Tryd.func14, Tryd.ntmps14
        go_wp2_with fail
        refine (HC.out _).mono ?_
        rintro e w1 ⟨rfl, hb1⟩
        go_wp2_with fail
        refine (HH.out _ (HM.out.below hb1)).mono ?_
        rintro e w2 ⟨rfl, rfl⟩
        go_wp2_with fail
        refine (HD.out _).mono ?_
        rintro e w2 ⟨rfl, rfl⟩
        go_wp2_with fail
        go_ret3
        exact ⟨rfl, hb1⟩
end Go.Proofs.YtaiipdjibllodaaDoor.TAuth

/- Layer 6: targets in memory. -/
namespace Go.Proofs.YtaiipdjibllodaaDoor.TBox
open Go.ChangeShapes Go.WideShapes Go.ChangeAt Go.RowKit LexPure Bytes TargetPure Mem
set_option maxRecDepth 20000
def tv (t : Tgt) : Value := .agg #[.int .i64 t.form, .string (ofL t.host), .int .i64 t.port, .string (ofL t.path), .string (ofL t.query), .bool t.has]
def tc (t : Tgt) : Array Value := #[.int .i64 t.form, .string (ofL t.host), .int .i64 t.port, .string (ofL t.path), .string (ofL t.query), .bool t.has]
/-- what a target's box holds, cell by cell -/
structure Box (w : World) (g : Nat) (t : Tgt) : Prop where
  has : Has w g 24 (tc t)
theorem Box.new (w : World) (t : Tgt) : Box (w.alloc (.cells (tc t) 24)) w.heap.size t := ⟨Has.new w _ _⟩
theorem Box.alloc {w : World} {g : Nat} {t : Tgt} (h : Box w g t) (o : Obj) : Box (w.alloc o) g t := ⟨h.has.alloc o⟩
theorem Box.below {w w' : World} {g B : Nat} {t : Tgt} (h : Box w g t) (hb : Below B w w') (hg : g < B) : Box w' g t := ⟨h.has.below hb hg⟩
theorem Box.cells {w : World} {g : Nat} {t : Tgt} (h : Box w g t) : w.cell? ⟨g, 0, none⟩ = some (.int .i64 t.form) ∧ w.cell? ⟨g, 1, none⟩ = some (.string (ofL t.host)) ∧ w.cell? ⟨g, 2, none⟩ = some (.int .i64 t.port) ∧ w.cell? ⟨g, 3, none⟩ = some (.string (ofL t.path)) ∧ w.cell? ⟨g, 4, none⟩ = some (.string (ofL t.query)) ∧ w.cell? ⟨g, 5, none⟩ = some (.bool t.has) :=
  ⟨(h.has.cell 0).trans rfl, (h.has.cell 1).trans rfl, (h.has.cell 2).trans rfl, (h.has.cell 3).trans rfl, (h.has.cell 4).trans rfl, (h.has.cell 5).trans rfl⟩
theorem Box.frees {w : World} {g : Nat} {t : Tgt} (h : Box w g t) : w.frozen? ⟨g, 0, none⟩ = false ∧ w.frozen? ⟨g, 1, none⟩ = false ∧ w.frozen? ⟨g, 2, none⟩ = false ∧ w.frozen? ⟨g, 3, none⟩ = false ∧ w.frozen? ⟨g, 4, none⟩ = false ∧ w.frozen? ⟨g, 5, none⟩ = false :=
  ⟨h.has.free 0, h.has.free 1, h.has.free 2, h.has.free 3, h.has.free 4, h.has.free 5⟩
def rv (r : Tgt × Int) : Value := .tuple #[tv r.1, .int .i64 r.2]
/-- the boxes of a call that takes a target and answers one -/
structure Two (w W : World) (g : Nat) (t u : Tgt) : Prop where
  at_ : g = w.heap.size
  below : Below w.heap.size w W
  tbox : Box W g t
  rbox : Box W (g + 1) u
  size : g + 2 ≤ W.heap.size
theorem Two.start (w : World) (fo : Int) (ho : List UInt8) (po : Int) (pa qu : List UInt8) (ha : Bool) : Two w ((w.alloc (.cells #[.int .i64 fo, .string (ofL ho), .int .i64 po, .string (ofL pa), .string (ofL qu), .bool ha] 24)).alloc (.cells #[.int .i64 0, .string ⟨#[]⟩, .int .i64 0, .string ⟨#[]⟩, .string ⟨#[]⟩, .bool false] 24)) w.heap.size ⟨fo, ho, po, pa, qu, ha⟩ zero := by
  refine ⟨rfl, ((Below.refl w.heap.size w).alloc (Nat.le_refl _) _).alloc (by simp) _, (Box.new w ⟨fo, ho, po, pa, qu, ha⟩).alloc _, ?_, by simp⟩
  have := Box.new (w.alloc (.cells (tc ⟨fo, ho, po, pa, qu, ha⟩) 24)) zero
  rw [show (w.alloc (.cells (tc ⟨fo, ho, po, pa, qu, ha⟩) 24)).heap.size = w.heap.size + 1 by simp] at this
  exact this
theorem Two.call {w W W' : World} {g : Nat} {t u : Tgt} (h : Two w W g t u) (hb : Below W.heap.size W W') : Two w W' g t u :=
  ⟨h.at_, below_chain h.below hb, h.tbox.below hb (by have := h.size; omega), h.rbox.below hb (by have := h.size; omega), Nat.le_trans h.size hb.size⟩
/-- a whole target written into its box, as the walk writes it -/
def put (W : World) (g : Nat) (t : Tgt) : World :=
  (((((W.setCell ⟨g, 0, none⟩ (.int .i64 t.form)).setCell ⟨g, 1, none⟩ (.string (ofL t.host))).setCell ⟨g, 2, none⟩ (.int .i64 t.port)).setCell ⟨g, 3, none⟩ (.string (ofL t.path))).setCell ⟨g, 4, none⟩ (.string (ofL t.query))).setCell ⟨g, 5, none⟩ (.bool t.has)
theorem Box.put {W : World} {g : Nat} {u : Tgt} (h : Box W g u) (t : Tgt) : Box (put W g t) g t :=
  ⟨by have := (((((h.has.set_ 0 (.int .i64 t.form)).set_ 1 (.string (ofL t.host))).set_ 2 (.int .i64 t.port)).set_ 3 (.string (ofL t.path))).set_ 4 (.string (ofL t.query))).set_ 5 (.bool t.has); unfold TBox.put; simpa [tc] using this⟩
theorem below_put {B : Nat} {a W : World} {g : Nat} (h : Below B a W) (hg : B ≤ g) (t : Tgt) : Below B a (put W g t) :=
  (((((h.setCell (p := ⟨g, 0, none⟩) hg _).setCell (p := ⟨g, 1, none⟩) hg _).setCell (p := ⟨g, 2, none⟩) hg _).setCell (p := ⟨g, 3, none⟩) hg _).setCell (p := ⟨g, 4, none⟩) hg _).setCell (p := ⟨g, 5, none⟩) hg _
theorem load_box {w : World} {g : Nat} {t : Tgt} (h : Box w g t) : (loadVar 24 ⟨g, 0, none⟩).run Tryd.prog w = .ok (tv t) w :=
  run_loadVar_row w g 24 24 _ _ _ h.has.at_ Tryd.underlying24 rfl (by kernel_rfl)
theorem Box.far {w : World} {g : Nat} {t : Tgt} (h : Box w g t) {p : Addr} (hp : g ≠ p.block) (u : Value) : Box (w.setCell p u) g t := ⟨h.has.far hp u⟩
/-- what a call that answers a target and a number hands back -/
theorem end_box {W : World} {g : Nat} {t : Tgt} {v : Int} {tmps : Array Value} {p u : Tmp} (hp : tmps.getD p undef = .pointer (some ⟨g, 0, none⟩)) (hu : tmps.getD u undef = .int .i64 v) (h : Box W g t) :
    (((asAddr (tmps.getD p undef)).run Tryd.prog W).andThen fun a w₁ => ((loadVar 24 a).run Tryd.prog w₁).andThen fun v w₂ => .ok (.tuple #[v, tmps.getD u undef]) w₂) = .ok (rv (t, v)) W := by
  rw [hp, hu]
  have := load_box h
  simp [asAddr, Result.andThen, this, rv]
/-- the box of a call that answers a target -/
structure One (w W : World) (g : Nat) (u : Tgt) : Prop where
  at_ : g = w.heap.size
  below : Below w.heap.size w W
  rbox : Box W g u
  size : g + 1 ≤ W.heap.size
theorem One.start (w : World) : One w (w.alloc (.cells #[.int .i64 0, .string ⟨#[]⟩, .int .i64 0, .string ⟨#[]⟩, .string ⟨#[]⟩, .bool false] 24)) w.heap.size zero :=
  ⟨rfl, (Below.refl w.heap.size w).alloc (Nat.le_refl _) _, Box.new w zero, by simp⟩
theorem One.call {w W W' : World} {g : Nat} {u : Tgt} (h : One w W g u) (hb : Below W.heap.size W W') : One w W' g u :=
  ⟨h.at_, below_chain h.below hb, h.rbox.below hb (by have := h.size; omega), Nat.le_trans h.size hb.size⟩
theorem One.put {w W : World} {g : Nat} {u : Tgt} (h : One w W g u) (t : Tgt) : Below w.heap.size w (TBox.put W g t) := below_put h.below (by rw [h.at_]; exact Nat.le_refl _) t
/-- a target that a law keeps in a variable -/
structure Bx (w W : World) (g : Nat) (t : Tgt) : Prop where
  low : w.heap.size ≤ g
  lt : g < W.heap.size
  box : Box W g t
  below : Below w.heap.size w W
theorem Bx.new {w W : World} (h : Below w.heap.size w W) (fo : Int) (ho : List UInt8) (po : Int) (pa qu : List UInt8) (ha : Bool) :
    Bx w (W.alloc (.cells #[.int .i64 fo, .string (ofL ho), .int .i64 po, .string (ofL pa), .string (ofL qu), .bool ha] 24)) W.heap.size ⟨fo, ho, po, pa, qu, ha⟩ :=
  ⟨h.size, by simp, Box.new W ⟨fo, ho, po, pa, qu, ha⟩, h.alloc h.size _⟩
theorem Bx.call {w W W' : World} {g : Nat} {t : Tgt} (h : Bx w W g t) (hb : Below W.heap.size W W') : Bx w W' g t :=
  ⟨h.low, Nat.lt_of_lt_of_le h.lt hb.size, h.box.below hb h.lt, below_chain h.below hb⟩
theorem Bx.alloc {w W : World} {g : Nat} {t : Tgt} (h : Bx w W g t) (o : Obj) : Bx w (W.alloc o) g t :=
  h.call ((Below.refl _ _).alloc (Nat.le_refl _) o)
end Go.Proofs.YtaiipdjibllodaaDoor.TBox

/- Layer 6 of the program: withPath. -/
namespace Go.Proofs.YtaiipdjibllodaaDoor.TPath
open Go.ChangeShapes Go.WideShapes Go.ChangeAt Go.RowKit LexPure Bytes Ret CutAt HostPure TargetPure RNormal PathPure PUnder PCut PathObj TQuery TAuth TBox Mem
set_option maxRecDepth 20000
set_option maxHeartbeats 1600000 in
theorem tpath_any (t : Tgt) (s : ByteArray) (hs : s.size ≤ 4194304) (w : World) (hm : MaxInt w) :
    Calls Tryd.prog 20 #[tv t, .string s] w fun e w' => e = .returned (rv (local6 t (toL s))) ∧ Below w.heap.size w w' := by
  have HC := Lib.hid (fun w => cut_full s (by omega) w)
  have hl1 := ahead_len 63 (toL s)
  have hl2 := behind_len 63 (toL s)
  rw [toL_length] at hl1 hl2
  rw [show cutA (toL s) = aheadOf 63 (toL s) from rfl, show cutB (toL s) = behind 63 (toL s) from rfl, show cutQ (toL s) = hasB 63 (toL s) from rfl] at HC
  have HN := Lib.hid (fun w hm => normal_any (ofL (aheadOf 63 (toL s))) (by rw [ofL_size]; omega) w hm)
  have HQ := Lib.hid (fun w => tquery_any (ofL (behind 63 (toL s))) (by rw [ofL_size]; omega) w)
  rw [toL_ofL] at HN HQ
  have HM := Lib.hid hm
  clear hm hl1 hl2 hs
  obtain ⟨fo, ho, po, pa, qu, ha⟩ := t
  have HT := Lib.hid (Two.start w fo ho po pa qu ha)
  have HLO : Hid (∀ x, local6 ⟨fo, ho, po, pa, qu, ha⟩ (toL s) = x → Hid (local6 ⟨fo, ho, po, pa, qu, ha⟩ (toL s) = x)) := Lib.hid (fun _ h => Lib.hid h)
  have HX : Hid (∃ x, x = local6 ⟨fo, ho, po, pa, qu, ha⟩ (toL s)) := Lib.hid ⟨_, rfl⟩
  obtain ⟨x, hx⟩ := HX.out
  rw [← hx]
  replace hx := Lib.hid hx
  clear HX HLO
  unfold tv
  simp only
  obtain ⟨B0, hB0⟩ : ∃ B0, B0 = Below w.heap.size w := ⟨_, rfl⟩
  rw [← hB0]
  replace hB0 := Lib.hid hB0
  go_enter Tryd.func20, Tryd.ntmps20
  go_wp2_with fail
  generalize (w.alloc (.cells #[.int .i64 fo, .string (ofL ho), .int .i64 po, .string (ofL pa), .string (ofL qu), .bool ha] 24)).alloc (.cells #[.int .i64 0, .string ⟨#[]⟩, .int .i64 0, .string ⟨#[]⟩, .string ⟨#[]⟩, .bool false] 24) = W at HT ⊢
  generalize w.heap.size = g at HT ⊢
  refine (HC.out _).mono ?_
  rintro e w1 ⟨rfl, hb1⟩
  replace HT := Lib.hid (HT.out.call hb1)
  clear HC hb1
  go_wp2_with fail
  refine (HN.out _ (HM.out.below HT.out.below)).mono ?_
  rintro e w2 ⟨rfl, hb2⟩
  replace HT := Lib.hid (HT.out.call hb2)
  clear HN hb2
  generalize hahead : aheadOf 63 (toL s) = A at *
  generalize hbehind : behind 63 (toL s) = B at *
  generalize hhas : hasB 63 (toL s) = q at *
  cases hn : normal A with
  | none =>
    have hr : x = (zero, 50) := by rw [hx.out]; unfold local6; rw [hahead, hn]
    subst hr
    obtain ⟨r0, r1, r2, r3, r4, r5⟩ := HT.out.rbox.cells
    obtain ⟨f0, f1, f2, f3, f4, f5⟩ := HT.out.rbox.frees
    rw [(norm_none hn).1, (norm_none hn).2]
    have HE := Lib.hid (HT.out.rbox.put zero)
    have HB : Hid (B0 (put w2 (g + 1) zero)) := Lib.hid (by rw [hB0.out]; exact below_put HT.out.below (by rw [HT.out.at_]; omega) zero)
    clear hn hx HQ hahead hbehind hhas
    go_wp2_with fail
    refine bodyPost_ret (v := rv (zero, 50)) ?_ rfl ⟨rfl, HB.out⟩
    rw [results_cell_tmp rfl]
    exact end_box rfl rfl HE.out
  | some p =>
    rw [(norm_some hn).1, (norm_some hn).2]
    cases hk : qok B with
    | false =>
      have hr : x = (zero, 60) := by rw [hx.out]; unfold local6; rw [hahead, hn, hbehind]; simp only; rw [hk]; rfl
      subst hr
      obtain ⟨r0, r1, r2, r3, r4, r5⟩ := HT.out.rbox.cells
      obtain ⟨f0, f1, f2, f3, f4, f5⟩ := HT.out.rbox.frees
      have HE := Lib.hid (HT.out.rbox.put zero)
      have HB : Hid (B0 (put w2 (g + 1) zero)) := Lib.hid (by rw [hB0.out]; exact below_put HT.out.below (by rw [HT.out.at_]; omega) zero)
      rw [hk] at HQ
      clear hn hx hk hahead hbehind hhas
      go_wp2_with (refine (HQ.out _).mono ?_; rintro e w3 ⟨rfl, rfl⟩)
      refine bodyPost_ret (v := rv (zero, 60)) ?_ rfl ⟨rfl, HB.out⟩
      rw [results_cell_tmp rfl]
      exact end_box rfl rfl HE.out
    | true =>
      have hr : x = (⟨fo, ho, po, p, B, q⟩, 0) := by rw [hx.out]; unfold local6; rw [hahead, hn, hbehind, hhas]; simp only; rw [hk]; rfl
      subst hr
      obtain ⟨t0, t1, t2, t3, t4, t5⟩ := HT.out.tbox.cells
      obtain ⟨u0, u1, u2, u3, u4, u5⟩ := HT.out.tbox.frees
      obtain ⟨r0, r1, r2, r3, r4, r5⟩ := HT.out.rbox.cells
      obtain ⟨f0, f1, f2, f3, f4, f5⟩ := HT.out.rbox.frees
      have hne : ∀ i, g + 1 ≠ (⟨g, i, none⟩ : Addr).block := fun i => by simp
      have HE := Lib.hid ((((HT.out.rbox.far (hne 3) (.string (ofL p))).far (hne 4) (.string (ofL B))).far (hne 5) (.bool q)).put ⟨fo, ho, po, p, B, q⟩)
      have HB : Hid (B0 (put (((w2.setCell ⟨g, 3, none⟩ (.string (ofL p))).setCell ⟨g, 4, none⟩ (.string (ofL B))).setCell ⟨g, 5, none⟩ (.bool q)) (g + 1) ⟨fo, ho, po, p, B, q⟩)) := Lib.hid (by
        rw [hB0.out]
        have hg : w.heap.size ≤ g := by rw [HT.out.at_]; exact Nat.le_refl _
        exact below_put (((HT.out.below.setCell (p := ⟨g, 3, none⟩) hg _).setCell (p := ⟨g, 4, none⟩) hg _).setCell (p := ⟨g, 5, none⟩) hg _) (by omega) _)
      rw [hk] at HQ
      clear hn hx hk hahead hbehind hhas hne
      go_wp2_with (refine (HQ.out _).mono ?_; rintro e w3 ⟨rfl, rfl⟩)
      refine bodyPost_ret (v := rv (⟨fo, ho, po, p, B, q⟩, 0)) ?_ rfl ⟨rfl, HB.out⟩
      rw [results_cell_tmp rfl]
      exact end_box rfl rfl HE.out
end Go.Proofs.YtaiipdjibllodaaDoor.TPath

/- What Go reads of a text rune by rune, as far as a search for two plain bytes asks. No program is named. -/
namespace Go.Proofs.YtaiipdjibllodaaDoor.UtfPure
open LexPure Bytes TargetPure
theorem get_bang (s : ByteArray) (i : Nat) (h : i < s.size) : s.get! i = s[i] := by
  simp [ByteArray.get!, getElem!_pos, h]
  rfl
/-- the bytes that a rune beyond the first 128 takes are all beyond the first 128 -/
theorem decode_wide (s : ByteArray) (pos : Nat) (h : pos < s.size) (ha : 128 ≤ (s[pos]'h).toNat) :
    pos + (Utf8.decode s pos).2 ≤ s.size ∧ ∀ j (hj : j < s.size), pos ≤ j → j < pos + (Utf8.decode s pos).2 → 128 ≤ (s[j]'hj).toNat := by
  have hn : ¬ (s[pos]'h).toNat < 128 := by omega
  have h0 : (s.get! (pos + 0)).toNat = (s[pos]'h).toNat := by rw [Nat.add_zero, get_bang s pos h]
  have one : ∀ j (hj : j < s.size), pos ≤ j → j < pos + 1 → 128 ≤ (s[j]'hj).toNat := fun j hj h1 h2 => by
    obtain rfl : j = pos := by omega
    exact ha
  have at1 : ∀ k (hk : pos + k < s.size), (s.get! (pos + k)).toNat / 64 = 2 → 128 ≤ (s[pos + k]'hk).toNat := fun k hk hd => by
    rw [get_bang s (pos + k) hk] at hd
    omega
  simp only [Utf8.decode, h0, hn, if_false, Bool.and_eq_true, decide_eq_true_eq, beq_iff_eq]
  repeat' split
  all_goals simp only
  all_goals first
    | exact ⟨by omega, one⟩
    | (rename_i c1 c2
       refine ⟨by omega, fun j hj h1 h2 => ?_⟩
       rcases (show j = pos ∨ j = pos + 1 ∨ j = pos + 2 ∨ j = pos + 3 by omega) with rfl | rfl | rfl | rfl
       · exact ha
       · first | exact at1 1 hj (by omega) | omega
       · first | exact at1 2 hj (by omega) | omega
       · first | exact at1 3 hj (by omega) | omega)
theorem encode_high {r : Int} (h0 : 128 ≤ r) : (Utf8.encode r).size = 2 ∧ (∃ h : 1 < (Utf8.encode r).size, 128 ≤ ((Utf8.encode r)[1]'h).toNat) ∨ 3 ≤ (Utf8.encode r).size := by
  have key : ∀ c : Nat, 128 ≤ c → c < 2048 → 128 ≤ (UInt8.ofNat (0x80 + c % 64)).toNat := fun c _ _ => by
    have : (0x80 + c % 64) < 256 := by omega
    rw [UInt8.toNat_ofNat', Nat.mod_eq_of_lt this]
    omega
  have hc : 128 ≤ (if Utf8.valid r then r.toNat else Utf8.runeError) := by
    split
    · omega
    · decide
  generalize hcc : (if Utf8.valid r then r.toNat else Utf8.runeError) = c at hc
  have he : Utf8.encode r = if c < 0x80 then ⟨#[UInt8.ofNat c]⟩ else if c < 0x800 then ⟨#[UInt8.ofNat (0xC0 + c / 64), UInt8.ofNat (0x80 + c % 64)]⟩ else if c < 0x10000 then ⟨#[UInt8.ofNat (0xE0 + c / 4096), UInt8.ofNat (0x80 + c / 64 % 64), UInt8.ofNat (0x80 + c % 64)]⟩ else ⟨#[UInt8.ofNat (0xF0 + c / 262144), UInt8.ofNat (0x80 + c / 4096 % 64), UInt8.ofNat (0x80 + c / 64 % 64), UInt8.ofNat (0x80 + c % 64)]⟩ := by
    unfold Utf8.encode
    rw [hcc]
  rw [if_neg (by omega)] at he
  by_cases h1 : c < 0x800
  · rw [if_pos h1] at he
    left
    rw [he]
    exact ⟨rfl, (show 1 < 2 by decide), key c hc h1⟩
  · rw [if_neg h1] at he
    right
    by_cases h2 : c < 0x10000
    · rw [if_pos h2] at he
      rw [he]
      exact Nat.le_refl 3
    · rw [if_neg h2] at he
      rw [he]
      exact (by decide : 3 ≤ 4)
theorem encode_few (r : Int) : (Utf8.encode r).size ≤ 4 := by
  unfold Utf8.encode
  simp only
  repeat' split
  all_goals first | exact (by decide : 1 ≤ 4) | exact (by decide : 2 ≤ 4) | exact (by decide : 3 ≤ 4) | exact (by decide : 4 ≤ 4)
def ENDS : List UInt8 := [47, 63]
theorem ends_has (c : UInt8) : ENDS.contains c = endC c := by
  have := all_bytes (p := fun c => ENDS.contains c == endC c) (by decide +kernel) c
  simpa using this
theorem any_say : ∀ s : List UInt8, (Go.Lib.indexAny s ENDS = -1 ∧ inA s = s ∧ outA s = []) ∨ ∃ i : Nat, Go.Lib.indexAny s ENDS = i ∧ i < s.length ∧ inA s = s.take i ∧ outA s = s.drop i
  | [] => .inl ⟨rfl, rfl, rfl⟩
  | c :: s => by
    have ih := any_say s
    have hc := ends_has c
    unfold inA outA at *
    rw [Go.Lib.indexAny, hc]
    cases he : endC c
    · rw [List.takeWhile_cons, List.dropWhile_cons, he]
      simp only [Bool.false_eq_true, if_false, Bool.not_false, if_true]
      rcases ih with ⟨h1, h2, h3⟩ | ⟨i, h1, h2, h3, h4⟩
      · left
        rw [h1, h2, h3]
        exact ⟨rfl, rfl, rfl⟩
      · right
        have : ((i : Int) == -1) = false := beq_eq_false_iff_ne.2 (by omega)
        rw [h1, this, h3, h4]
        exact ⟨i + 1, by simp, by simp; omega, rfl, rfl⟩
    · right
      rw [List.takeWhile_cons, List.dropWhile_cons, he]
      exact ⟨0, rfl, by simp, rfl, rfl⟩
/-- a rune that was passed over -/
theorem pass_wide {s : ByteArray} {pos : Nat} (h : pos < s.size) (ha : 128 ≤ (s[pos]'h).toNat) (hno : Go.Lib.NoAny (toL s) ENDS pos) : Go.Lib.NoAny (toL s) ENDS (pos + (Utf8.decode s pos).2) := by
  obtain ⟨_, hw⟩ := decode_wide s pos h ha
  intro j b hj hb
  rcases Nat.lt_or_ge j pos with h1 | h1
  · exact hno j b h1 hb
  · have hjs : j < s.size := by
      have := (List.getElem?_eq_some_iff.1 hb).1
      rwa [toL_length] at this
    have h2 := hw j hjs h1 hj
    have h3 := toL_get s j hjs
    rw [hb] at h3
    rw [← Option.some.inj h3] at h2
    rw [ends_has]
    have h4 := all_bytes (p := fun c => decide (c.toNat < 128) || !endC c) (by decide +kernel) b
    have h5 : decide (b.toNat < 128) = false := decide_eq_false (by omega)
    rw [h5, Bool.false_or] at h4
    simpa using h4
end Go.Proofs.YtaiipdjibllodaaDoor.UtfPure

/-
  DERIVED: THE SHELF's CONTRACTS AT THIS DUMP, IN PLAIN WORDS (tools/lay-plain.mjs out of 'YtaiipdjibllodaaDoorAnyLaysT.lean', which tools/lay-shelf.mjs wrote): THE SAME DECLARATIONS UNDER THE SAME NAMES: 'import', 'namespace', 'open', 'def', 'theorem' AND NOTHING ELSE: no command of the shelf's: FOR A HAND-IN. Each laying: the table of numbers ('.._ren') and one theorem, a field a fact of the dump's own or the kernel's comparison; each contract: ONE APPLICATION.
-/
namespace Go.Proofs
open Go.Shelf
def Tryd.lays153_ren : Go.Shelf.Ren := ⟨fun | 153 => 35 | 152 => 45 | 226 => 46 | 227 => 47 | 228 => 48 | 137 => 61 | 119 => 62 | 224 => 63 | 225 => 64 | 217 => 68 | 266 => 76 | n => n, fun | 9 => 9 | 3 => 3 | 4 => 4 | 5 => 5 | 21 => 21 | 117 => 64 | 116 => 63 | 0 => 0 | 46 => 84 | 124 => 85 | n => n, fun | n => n⟩
theorem Tryd.lays153 : Go.Proofs.Lays.n153 Tryd.prog Tryd.lays153_ren := {
  mixed := by kernel_rfl
  f119 := Tryd.func62.trans (congrArg some (by kernel_rfl))
  f137 := Tryd.func61.trans (congrArg some (by kernel_rfl))
  f152 := Tryd.func45.trans (congrArg some (by kernel_rfl))
  f153 := Tryd.func35.trans (congrArg some (by kernel_rfl))
  f217 := Tryd.func68.trans (congrArg some (by kernel_rfl))
  f224 := Tryd.func63.trans (congrArg some (by kernel_rfl))
  f225 := Tryd.func64.trans (congrArg some (by kernel_rfl))
  f226 := Tryd.func46.trans (congrArg some (by kernel_rfl))
  f227 := Tryd.func47.trans (congrArg some (by kernel_rfl))
  f228 := Tryd.func48.trans (congrArg some (by kernel_rfl))
  f266 := Tryd.func76.trans (congrArg some (by kernel_rfl))
  t0 := Tryd.underlying0
  a0 := Tryd.isAgg0
  z0 := Tryd.sizeOf0
  v0 := Tryd.zeroValue0
  t3 := Tryd.underlying3
  a3 := Tryd.isAgg3
  z3 := Tryd.sizeOf3
  v3 := Tryd.zeroValue3
  t4 := Tryd.underlying4
  a4 := Tryd.isAgg4
  z4 := Tryd.sizeOf4
  v4 := Tryd.zeroValue4
  t5 := Tryd.underlying5
  a5 := Tryd.isAgg5
  z5 := Tryd.sizeOf5
  v5 := Tryd.zeroValue5
  t9 := Tryd.underlying9
  a9 := Tryd.isAgg9
  z9 := Tryd.sizeOf9
  v9 := Tryd.zeroValue9
  t21 := Tryd.underlying21
  a21 := Tryd.isAgg21
  z21 := Tryd.sizeOf21
  v21 := Tryd.zeroValue21
  t46 := Tryd.underlying84
  a46 := Tryd.isAgg84
  z46 := Tryd.sizeOf84
  v46 := Tryd.zeroValue84
  t116 := Tryd.underlying63
  a116 := Tryd.isAgg63
  z116 := Tryd.sizeOf63
  t117 := Tryd.underlying64
  a117 := Tryd.isAgg64
  z117 := Tryd.sizeOf64
  v117 := Tryd.zeroValue64
  t124 := Tryd.underlying85
  a124 := Tryd.isAgg85
  z124 := Tryd.sizeOf85
  v124 := Tryd.zeroValue85 }
end Go.Proofs
