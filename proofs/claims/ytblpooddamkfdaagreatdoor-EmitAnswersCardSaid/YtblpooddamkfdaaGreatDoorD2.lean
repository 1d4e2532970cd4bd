/- Texts of this seat, one behind another: OutPure, OutFew, R12Box, CutAt, HeadCut, EmitBack, EmitAnsP, R12Heads, R12Body. -/
import Derived.Laws.Tables
import Derived.Laws.ResultCell
import Derived.Lib.IndexMore
import Derived.Laws.DeepStrings4
import Derived.Deep.RegionHeld3
import Derived.Test.YtblpooddamkfdaaGreatDoorD1
import Derived.Test.YtblpooddamkfdaaGreatDoorA1
import Derived.Test.YtblpooddamkfdaaGreatDoorB7
import Derived.Test.YtblpooddamkfdaaGreatDoorA3
/- Layer 12: a response read piece by piece, over lists of bytes. No program is named. -/
namespace Go.Proofs.YtblpooddamkfdaaGreatDoor.OutPure
open Bytes LexPure LexNum FieldsPure HeadPure FramePure ChunkPure
set_option maxRecDepth 20000
/-! ### the heads -/
def interim (st : Int) : Bool := decide (100 ≤ st) && decide (st < 200) && decide (st ≠ 101)
def heads : Nat → List UInt8 → Res × List UInt8
  | 0, D => (read8 true D, D)
  | k + 1, D => match read8 true D with
    | .done h n => if interim h.status = true then heads k (D.drop n) else (.done h n, D)
    | .wait => (.wait, D)
    | .bad e => (.bad e, D)
def headsOf (D : List UInt8) : Res × List UInt8 := heads D.length D
theorem read_nil : read8 true [] = .wait := rfl
theorem heads_enough : ∀ (n k : Nat) (D : List UInt8), D.length ≤ n → D.length ≤ k → heads k D = heads D.length D := by
  intro n
  induction n with
  | zero =>
    intro k D hn _
    have : D = [] := List.length_eq_zero_iff.1 (by omega)
    subst this
    cases k with
    | zero => rfl
    | succ k =>
      show (match read8 true [] with | .done h n => if interim h.status = true then heads k (([] : List UInt8).drop n) else (.done h n, []) | .wait => (.wait, []) | .bad e => (.bad e, [])) = (read8 true [], [])
      rw [read_nil]
  | succ n ih =>
    intro k D hn hk
    cases D with
    | nil => exact ih k [] (Nat.zero_le _) (Nat.zero_le _)
    | cons c D =>
      cases k with
      | zero => rw [List.length_cons] at hk; omega
      | succ k =>
        rw [List.length_cons]
        unfold heads
        cases hr : read8 true (c :: D) with
        | wait => rfl
        | bad e => rfl
        | done h m =>
          dsimp only
          obtain ⟨h1, h2, _⟩ := read_front true (c :: D) h m hr
          rw [List.length_cons] at hn hk h1
          split
          · have hl : ((c :: D).drop m).length ≤ D.length := by rw [List.length_drop, List.length_cons]; omega
            rw [ih k _ (by omega) (by omega), ih D.length _ (by omega) hl]
          · rfl
theorem heads_step {D : List UInt8} {h : H8} {n : Nat} (hr : read8 true D = .done h n) (hi : interim h.status = true) : headsOf D = headsOf (D.drop n) := by
  obtain ⟨h1, h2, _⟩ := read_front true D h n hr
  unfold headsOf
  cases hD : D.length with
  | zero => omega
  | succ k =>
    conv => lhs; unfold heads
    rw [hr]
    dsimp only
    rw [if_pos hi]
    exact heads_enough D.length k _ (by rw [List.length_drop]; omega) (by rw [List.length_drop]; omega)
theorem heads_wait {D : List UInt8} (hr : read8 true D = .wait) : headsOf D = (.wait, D) := by
  unfold headsOf
  cases D.length with
  | zero => show (read8 true D, D) = _; rw [hr]
  | succ k => unfold heads; rw [hr]
theorem heads_bad {D : List UInt8} {e : Int} (hr : read8 true D = .bad e) : headsOf D = (.bad e, D) := by
  unfold headsOf
  cases D.length with
  | zero => show (read8 true D, D) = _; rw [hr]
  | succ k => unfold heads; rw [hr]
theorem heads_done {D : List UInt8} {h : H8} {n : Nat} (hr : read8 true D = .done h n) (hi : interim h.status = false) : headsOf D = (.done h n, D) := by
  unfold headsOf
  cases D.length with
  | zero => show (read8 true D, D) = _; rw [hr]
  | succ k => unfold heads; rw [hr]; dsimp only; rw [if_neg (by rw [hi]; decide)]
/-- what the heads come to: the last one's reading, and the bytes behind the interim ones -/
theorem heads_is : ∀ (n : Nat) (D : List UInt8), D.length ≤ n → read8 true (headsOf D).2 = (headsOf D).1 ∧ (headsOf D).2.length ≤ D.length ∧ headsOf (headsOf D).2 = headsOf D ∧ ∀ h k, (headsOf D).1 = .done h k → interim h.status = false := by
  intro n
  induction n with
  | zero =>
    intro D hn
    have : D = [] := List.length_eq_zero_iff.1 (by omega)
    subst this
    rw [heads_wait read_nil]
    exact ⟨read_nil, Nat.le_refl _, heads_wait read_nil, fun h k x => by cases x⟩
  | succ n ih =>
    intro D hn
    cases hr : read8 true D with
    | wait => rw [heads_wait hr]; exact ⟨hr, Nat.le_refl _, heads_wait hr, fun h k x => by cases x⟩
    | bad e => rw [heads_bad hr]; exact ⟨hr, Nat.le_refl _, heads_bad hr, fun h k x => by cases x⟩
    | done h m =>
      cases hi : interim h.status with
      | false =>
        rw [heads_done hr hi]
        exact ⟨hr, Nat.le_refl _, heads_done hr hi, fun h' k x => by injection x with x1 _; rw [← x1]; exact hi⟩
      | true =>
        obtain ⟨h1, h2, _⟩ := read_front true D h m hr
        rw [heads_step hr hi]
        have := ih (D.drop m) (by rw [List.length_drop]; omega)
        exact ⟨this.1, Nat.le_trans this.2.1 (by rw [List.length_drop]; omega), this.2.2⟩
theorem heads_append (x : List UInt8) : ∀ (n : Nat) (D : List UInt8), D.length ≤ n → ((headsOf D).1 ≠ .wait → headsOf (D ++ x) = ((headsOf D).1, (headsOf D).2 ++ x)) ∧ ((headsOf D).1 = .wait → headsOf (D ++ x) = headsOf ((headsOf D).2 ++ x)) := by
  intro n
  induction n with
  | zero =>
    intro D hn
    have : D = [] := List.length_eq_zero_iff.1 (by omega)
    subst this
    rw [heads_wait read_nil]
    exact ⟨fun h => absurd rfl h, fun _ => rfl⟩
  | succ n ih =>
    intro D hn
    cases hr : read8 true D with
    | wait => rw [heads_wait hr]; exact ⟨fun h => absurd rfl h, fun _ => rfl⟩
    | bad e =>
      have := read_append true D x (by rw [hr]; exact fun h => by cases h)
      rw [hr] at this
      rw [heads_bad hr, heads_bad this]
      exact ⟨fun _ => rfl, fun h => by cases h⟩
    | done h m =>
      have hx := read_append true D x (by rw [hr]; exact fun h => by cases h)
      rw [hr] at hx
      obtain ⟨h1, h2, _⟩ := read_front true D h m hr
      cases hi : interim h.status with
      | false =>
        rw [heads_done hr hi, heads_done hx hi]
        exact ⟨fun _ => rfl, fun h => by cases h⟩
      | true =>
        rw [heads_step hr hi, heads_step hx hi, List.drop_append_of_le_length h1]
        exact ih (D.drop m) (by rw [List.length_drop]; omega)
/-- an error has a number -/
theorem fields_err (h : H8) : ∀ (m : Nat) (acc : List HField) (a : Nat) (s : List UInt8) (e : Int), fields8 h m acc a s = .bad e → e ≠ 0 := by
  intro m
  induction m with
  | zero =>
    intro acc a s e hb
    unfold fields8 at hb
    cases hs : scan 512 83 0 s with
    | wait => rw [hs] at hb; cases hb
    | bad e' =>
      rw [hs] at hb
      injection hb with hb
      rw [← hb]
      exact scan_bad 512 83 (by decide) s 0 e' hs
    | whole k =>
      rw [hs] at hb
      dsimp only at hb
      split at hb
      · cases hb
      · injection hb with hb
        omega
  | succ m ih =>
    intro acc a s e hb
    unfold fields8 at hb
    cases hs : scan 512 83 0 s with
    | wait => rw [hs] at hb; cases hb
    | bad e' =>
      rw [hs] at hb
      injection hb with hb
      rw [← hb]
      exact scan_bad 512 83 (by decide) s 0 e' hs
    | whole k =>
      rw [hs] at hb
      dsimp only at hb
      split at hb
      · cases hb
      · split at hb
        · exact ih _ _ _ _ hb
        · injection hb with hb
          omega
theorem read_err (r : Bool) (s : List UInt8) (e : Int) (hb : read8 r s = .bad e) : e ≠ 0 := by
  unfold read8 from8 at hb
  split at hb
  · cases hb
  · rename_i e' hs
    injection hb with hb
    rw [← hb]
    exact scan_bad 1100 82 (by decide) _ 0 e' hs
  · rename_i k hs
    dsimp only at hb
    generalize (if r = true then status8 _ else start8 _) = x at hb
    split at hb
    · exact fields_err _ _ _ _ _ _ hb
    · rename_i hx
      injection hb with hb
      rw [← hb]
      exact hx
/-! ### a reader -/
inductive Md where
  | head
  | len (left : Nat)
  | chunks (m : M)
  | all
  | fin
  | nothing
  | bad (e : Int)
structure St where
  md : Md
  data : List UInt8
  gone : Bool
  kind : Int
  kept : Bool
inductive Pc where
  | none
  | head (h : H8)
  | data (d : List UInt8)
  | fin
def st0 : St := ⟨.head, [], false, 0, false⟩
def tell (d : List UInt8) : Pc := if d = [] then .none else .data d
def isN : Pc → Bool
  | .none => true
  | _ => false
def doneM : Md → Bool
  | .nothing => true
  | _ => false
def MT : Int := 1099511627776
def openM (f : Int × Int × Int) : Md := if f.1 = 2 then .len f.2.1.toNat else if f.1 = 3 then .chunks (begin_ MT) else if f.1 = 4 then .all else .fin
def stepO (meth : List UInt8) (s : St) : Pc × Nat × Int × St :=
  match s.md with
  | .head => match headsOf s.data with
    | (.wait, r) => (.none, 0, 0, { s with data := r })
    | (.bad e, r) => (.none, 0, e, { s with data := r })
    | (.done h n, r) => if (response9 meth h.status h.minor h.fields).2.2 = 0 then
        (.head h, n, 0, ⟨openM (response9 meth h.status h.minor h.fields), r, s.gone, (response9 meth h.status h.minor h.fields).1, keep9 h.minor h.fields⟩)
      else (.none, 0, (response9 meth h.status h.minor h.fields).2.2, { s with data := r })
  | .len left => if left = 0 then (.fin, 0, 0, { s with md := .nothing }) else (tell (s.data.take left), (s.data.take left).length, 0, { s with md := .len (left - (s.data.take left).length) })
  | .chunks m => if (ans m s.data).2.2.2 ≠ 0 then (.none, 0, (ans m s.data).2.2.2, { s with md := .chunks (next m s.data) })
      else if (ans m s.data).1 = [] ∧ (ans m s.data).2.2.1 = true then (.fin, (ans m s.data).2.1, 0, { s with md := .nothing })
      else (tell (ans m s.data).1, (ans m s.data).2.1, 0, { s with md := .chunks (next m s.data) })
  | .all => if s.data = [] ∧ s.gone = true then (.fin, 0, 0, { s with md := .nothing }) else (tell s.data, s.data.length, 0, s)
  | .fin => (.fin, 0, 0, { s with md := .nothing })
  | .nothing => (.none, 0, 0, s)
  | .bad e => (.none, 0, e, s)
/-- the error behind a step -/
def errO (r : Pc × Nat × Int × St) : Int := if r.2.2.1 = 0 ∧ isN r.1 = true ∧ r.2.2.2.gone = true ∧ doneM r.2.2.2.md = false then 121 else r.2.2.1
def nextO (meth : List UInt8) (s : St) : Pc × Int × St :=
  if errO (stepO meth s) ≠ 0 then (.none, errO (stepO meth s), { (stepO meth s).2.2.2 with md := .bad (errO (stepO meth s)) })
  else ((stepO meth s).1, 0, { (stepO meth s).2.2.2 with data := (stepO meth s).2.2.2.data.drop (stepO meth s).2.1 })
def feedO (s : St) (x : List UInt8) : St := if s.gone = true then s else { s with data := s.data ++ x }
def endO (s : St) : St := { s with gone := true }
/-- how many pieces it can tell at most before it has none -/
def rank (s : St) : Nat :=
  match s.md with
  | .head => 3
  | .len left => if s.data ≠ [] ∧ left ≠ 0 then 2 else 1
  | .chunks m => if s.data ≠ [] ∧ stop m = false then 2 else 1
  | .all => if s.data ≠ [] then 2 else 1
  | .fin => 1
  | .nothing => 0
  | .bad _ => 0
theorem tell_none {d : List UInt8} : isN (tell d) = true ↔ d = [] := by
  unfold tell
  split <;> simp_all [isN]
/-- where it tells anything there is no error -/
theorem next_some {meth : List UInt8} {s : St} (h : isN (nextO meth s).1 = false) : errO (stepO meth s) = 0 ∧ (stepO meth s).2.2.1 = 0 ∧ isN (stepO meth s).1 = false ∧ nextO meth s = ((stepO meth s).1, 0, { (stepO meth s).2.2.2 with data := (stepO meth s).2.2.2.data.drop (stepO meth s).2.1 }) := by
  unfold nextO at h ⊢
  by_cases he : errO (stepO meth s) ≠ 0
  · rw [if_pos he] at h
    cases h
  · rw [if_neg he] at h ⊢
    have he' : errO (stepO meth s) = 0 := by omega
    refine ⟨he', ?_, h, rfl⟩
    unfold errO at he'
    split at he'
    · omega
    · exact he'
theorem rank_two (s : St) (h : s.md ≠ .head) : rank s < 3 := by
  unfold rank
  split
  · rename_i hm; exact absurd hm h
  all_goals (repeat' split) <;> omega
theorem open_head (f : Int × Int × Int) : openM f ≠ .head := by
  unfold openM
  (repeat' split) <;> exact fun h => by cases h
theorem rank_open (f : Int × Int × Int) (s : St) (h : s.md = openM f) : rank s < 3 := rank_two s (by rw [h]; exact open_head f)
theorem rank_le (s : St) : rank s ≤ 3 := by
  unfold rank
  split
  · omega
  · split <;> omega
  · split <;> omega
  · split <;> omega
  · omega
  · omega
  · omega
theorem rank_next {meth : List UInt8} {s : St} (h : isN (nextO meth s).1 = false) : rank (nextO meth s).2.2 < rank s := by
  obtain ⟨_, he, hp, hn⟩ := next_some h
  rw [hn]
  clear hn h
  dsimp only
  obtain ⟨md, data, gone, kind, kept⟩ := s
  cases md with
  | head =>
    unfold stepO at he hp ⊢
    dsimp only at he hp ⊢
    split at hp
    · cases hp
    · cases hp
    · rename_i h n r hh
      split at hp
      · rename_i hf
        simp only [if_pos hf]
        exact rank_open (response9 meth h.status h.minor h.fields) _ rfl
      · cases hp
  | len left =>
    unfold stepO at he hp ⊢
    dsimp only at he hp ⊢
    by_cases h0 : left = 0
    · rw [if_pos h0]
      dsimp only [rank]
      rw [if_neg (fun x => x.2 h0)]
      omega
    · rw [if_neg h0] at hp ⊢
      dsimp only at hp ⊢
      have hd : data ≠ [] := fun e => by
        rw [e, List.take_nil] at hp
        cases hp
      have hq : data ≠ [] ∧ left ≠ 0 := ⟨hd, h0⟩
      dsimp only [rank]
      rw [if_pos hq, if_neg]
      · omega
      · rw [List.length_take]
        rintro ⟨h1, h2⟩
        rcases Nat.le_total left data.length with hl | hl
        · rw [Nat.min_eq_left hl] at h2
          omega
        · rw [Nat.min_eq_right hl] at h1
          exact h1 (List.drop_length)
  | chunks m =>
    unfold stepO at he hp ⊢
    dsimp only at he hp ⊢
    by_cases h0 : (ans m data).2.2.2 ≠ 0
    · rw [if_pos h0] at hp
      cases hp
    · rw [if_neg h0] at hp ⊢
      by_cases h1 : (ans m data).1 = [] ∧ (ans m data).2.2.1 = true
      · rw [if_pos h1]
        dsimp only [rank]
        split <;> omega
      · rw [if_neg h1] at hp ⊢
        dsimp only at hp ⊢
        have ha : (ans m data).1 ≠ [] := fun e => by
          rw [tell_none.2 e] at hp
          cases hp
        have hd : data ≠ [] ∧ stop m = false := by
          refine ⟨fun e => ?_, ?_⟩
          · have := (ans_used m data)
            rw [e] at this
            have h3 : (ans m []).1.length = 0 := by simp only [List.length_nil] at this; omega
            rw [e] at ha
            exact ha (List.length_eq_zero_iff.1 h3)
          · cases hs : stop m with
            | false => rfl
            | true =>
              exfalso
              apply ha
              unfold ans
              rw [run_stop hs]
              split <;> rfl
        dsimp only [rank]
        rw [if_pos hd, if_neg]
        · omega
        · rintro ⟨h2, h3⟩
          apply h2
          have hu := (run_used m data).2.2 h3
          have : (ans m data).2.1 = (run m data).2.2 := by
            unfold ans
            unfold next at h3
            cases hp2 : (run m data).1.ph <;> simp_all [stop]
          rw [this, hu]
          exact List.drop_length
  | all =>
    unfold stepO at he hp ⊢
    dsimp only at he hp ⊢
    by_cases h0 : data = [] ∧ gone = true
    · rw [if_pos h0]
      dsimp only [rank]
      split <;> omega
    · rw [if_neg h0] at hp ⊢
      dsimp only at hp ⊢
      have hd : data ≠ [] := fun e => by
        rw [tell_none.2 e] at hp
        cases hp
      dsimp only [rank]
      rw [if_pos hd, if_neg]
      · omega
      · rw [List.drop_length]
        exact fun x => x rfl
  | fin =>
    unfold stepO
    dsimp only [rank]
    omega
  | nothing => unfold stepO at hp; cases hp
  | bad e => unfold stepO at hp; cases hp
/-! ### till it has no more -/
/-- the state, the status, the body and the error behind it -/
abbrev Sum := St × Int × List UInt8 × Int
def drainO (meth : List UInt8) : Nat → St → Int → List UInt8 → Sum
  | 0, s, c, b => (s, c, b, 0)
  | k + 1, s, c, b => match nextO meth s with
    | (.none, e, s') => (s', c, b, e)
    | (.head h, _, s') => drainO meth k s' h.status b
    | (.data d, _, s') => drainO meth k s' c (b ++ d)
    | (.fin, _, s') => drainO meth k s' c b
def drain (meth : List UInt8) (s : St) (c : Int) (b : List UInt8) : Sum := drainO meth 4 s c b
def turn (meth : List UInt8) (q : Sum) (x : List UInt8) : Sum := drain meth (feedO q.1 x) q.2.1 q.2.2.1
def sum0 : Sum := (st0, 0, [], 0)
def fed (meth : List UInt8) (P : List (List UInt8)) : Sum := P.foldl (turn meth) sum0
def told (meth : List UInt8) (P : List (List UInt8)) (fin : Bool) : Sum := drain meth (if fin = true then endO (fed meth P).1 else (fed meth P).1) (fed meth P).2.1 (fed meth P).2.2.1
/-- bytes that are not used, and the bytes of a piece -/
def bulkP : Pc → Nat
  | .data d => d.length
  | _ => 0
theorem heads_len (D : List UInt8) : (headsOf D).2.length ≤ D.length := (heads_is D.length D (Nat.le_refl _)).2.1
theorem step_bulk (meth : List UInt8) (s : St) : (stepO meth s).2.2.2.data.length ≤ s.data.length ∧ bulkP (stepO meth s).1 ≤ (stepO meth s).2.1 ∧ (stepO meth s).2.1 ≤ (stepO meth s).2.2.2.data.length := by
  obtain ⟨md, data, gone, kind, kept⟩ := s
  have hh := heads_len data
  cases md with
  | head =>
    unfold stepO
    dsimp only
    split
    · rename_i r hr; rw [hr] at hh; exact ⟨hh, Nat.le_refl _, Nat.zero_le _⟩
    · rename_i r hr; rw [hr] at hh; exact ⟨hh, Nat.le_refl _, Nat.zero_le _⟩
    · rename_i h n r hr
      have h1 := (heads_is data.length data (Nat.le_refl _)).1
      rw [hr] at hh h1
      have h2 := (read_front true _ _ _ h1).1
      split
      · exact ⟨hh, Nat.zero_le _, h2⟩
      · exact ⟨hh, Nat.zero_le _, Nat.zero_le _⟩
  | len left =>
    unfold stepO
    dsimp only
    split
    · exact ⟨Nat.le_refl _, Nat.zero_le _, Nat.zero_le _⟩
    · refine ⟨Nat.le_refl _, ?_, by rw [List.length_take]; exact Nat.min_le_right _ _⟩
      unfold tell
      split
      · exact Nat.zero_le _
      · exact Nat.le_refl _
  | chunks m =>
    unfold stepO
    dsimp only
    have hu := ans_used m data
    split
    · exact ⟨Nat.le_refl _, Nat.zero_le _, Nat.zero_le _⟩
    · split
      · exact ⟨Nat.le_refl _, Nat.zero_le _, hu.1⟩
      · refine ⟨Nat.le_refl _, ?_, hu.1⟩
        unfold tell
        split
        · exact Nat.zero_le _
        · exact hu.2.1
  | all =>
    unfold stepO
    dsimp only
    split
    · exact ⟨Nat.le_refl _, Nat.zero_le _, Nat.zero_le _⟩
    · refine ⟨Nat.le_refl _, ?_, Nat.le_refl _⟩
      unfold tell
      split
      · exact Nat.zero_le _
      · exact Nat.le_refl _
  | fin => exact ⟨Nat.le_refl _, Nat.zero_le _, Nat.zero_le _⟩
  | nothing => exact ⟨Nat.le_refl _, Nat.zero_le _, Nat.zero_le _⟩
  | bad e => exact ⟨Nat.le_refl _, Nat.zero_le _, Nat.zero_le _⟩
theorem next_bulk (meth : List UInt8) (s : St) : bulkP (nextO meth s).1 + (nextO meth s).2.2.data.length ≤ s.data.length := by
  obtain ⟨h1, h2, h3⟩ := step_bulk meth s
  unfold nextO
  split
  · show 0 + (stepO meth s).2.2.2.data.length ≤ _
    omega
  · show bulkP (stepO meth s).1 + ((stepO meth s).2.2.2.data.drop (stepO meth s).2.1).length ≤ _
    rw [List.length_drop]
    omega
theorem drain_bulk (meth : List UInt8) : ∀ (k : Nat) (s : St) (c : Int) (b : List UInt8), (drainO meth k s c b).2.2.1.length + (drainO meth k s c b).1.data.length ≤ b.length + s.data.length := by
  intro k
  induction k with
  | zero => intro s c b; exact Nat.le_refl _
  | succ k ih =>
    intro s c b
    have h := next_bulk meth s
    unfold drainO
    split
    · rename_i e s' hn
      rw [hn] at h
      dsimp only [bulkP] at h ⊢
      omega
    · rename_i hd e s' hn
      rw [hn] at h
      have := ih s' hd.status b
      dsimp only [bulkP] at h
      omega
    · rename_i d e s' hn
      rw [hn] at h
      have := ih s' c (b ++ d)
      rw [List.length_append] at this
      dsimp only [bulkP] at h
      omega
    · rename_i e s' hn
      rw [hn] at h
      have := ih s' c b
      dsimp only [bulkP] at h
      omega
theorem tell_some {d x : List UInt8} (h : tell d = .data x) : x ≠ [] := by
  unfold tell at h
  split at h
  · cases h
  · rename_i hd; injection h with h; rw [← h]; exact hd
theorem step_data {meth : List UInt8} {s : St} {d : List UInt8} (h : (stepO meth s).1 = .data d) : d ≠ [] := by
  unfold stepO at h
  split at h
  · split at h
    · cases h
    · cases h
    · split at h <;> cases h
  · split at h
    · cases h
    · exact tell_some h
  · split at h
    · cases h
    · split at h
      · cases h
      · exact tell_some h
  · split at h
    · cases h
    · exact tell_some h
  · cases h
  · cases h
  · cases h
theorem data_some {meth : List UInt8} {s : St} (_h : isN (nextO meth s).1 = false) : ∀ d, (nextO meth s).1 = .data d → d ≠ [] := fun d hd => by
  unfold nextO at hd
  split at hd
  · cases hd
  · exact step_data hd
end Go.Proofs.YtblpooddamkfdaaGreatDoor.OutPure

/- Layer 12: a response's head that is read is short, its fields are few, its status has three digits. No program is named. -/
namespace Go.Proofs.YtblpooddamkfdaaGreatDoor.OutFew
open LexPure LexNum Bytes FieldsPure HeadPure FramePure Flds OutPure
set_option maxRecDepth 20000
def short (f : HField) : Prop := f.1.length ≤ 512 ∧ f.2.length ≤ 512
theorem trim_len (l : List UInt8) : (trim l).length ≤ l.length := trim_length l
theorem field_short (l : List UInt8) (h : l.length ≤ 512) : short (field8 l).1 := by
  unfold field8
  split
  · refine ⟨?_, ?_⟩
    · have : (nameB l).length ≤ l.length := (List.takeWhile_prefix _).length_le
      show (nameB l).length ≤ 512
      omega
    · have h1 := trim_len (l.drop ((nameB l).length + 1))
      rw [List.length_drop] at h1
      show (trim _).length ≤ 512
      omega
  · exact ⟨Nat.zero_le _, Nat.zero_le _⟩
theorem fields_few (h : H8) : ∀ (m : Nat) (acc : List HField) (a : Nat) (s : List UInt8) (h' : H8) (n : Nat), fields8 h m acc a s = .done h' n → (∀ f ∈ acc, short f) →
    h'.status = h.status ∧ ∀ f ∈ h'.fields, short f := by
  intro m
  induction m with
  | zero =>
    intro acc a s h' n hd ha
    unfold fields8 at hd
    cases hs : scan 512 83 0 s with
    | wait => rw [hs] at hd; cases hd
    | bad e => rw [hs] at hd; cases hd
    | whole k =>
      rw [hs] at hd
      dsimp only at hd
      by_cases hk : k = 0
      · rw [if_pos hk] at hd
        injection hd with e1 e2
        subst e1
        exact ⟨rfl, ha⟩
      · rw [if_neg hk] at hd
        cases hd
  | succ m ih =>
    intro acc a s h' n hd ha
    unfold fields8 at hd
    cases hs : scan 512 83 0 s with
    | wait => rw [hs] at hd; cases hd
    | bad e => rw [hs] at hd; cases hd
    | whole k =>
      rw [hs] at hd
      dsimp only at hd
      by_cases hk : k = 0
      · rw [if_pos hk] at hd
        injection hd with e1 e2
        subst e1
        exact ⟨rfl, ha⟩
      · rw [if_neg hk] at hd
        by_cases hf : (field8 (s.take k)).2 = 0
        · rw [if_pos hf] at hd
          obtain ⟨l, q, e, hk2, _, hb⟩ := scan_whole 512 83 s 0 k hs
          have hkl : k ≤ 512 := by omega
          exact ih _ _ _ _ _ hd (fun f hf => by
            rcases List.mem_append.1 hf with hf | hf
            · exact ha f hf
            · rw [List.mem_singleton] at hf
              rw [hf]
              exact field_short _ (by rw [List.length_take]; omega))
        · rw [if_neg hf] at hd
          cases hd
theorem status_range (l : List UInt8) (h : (status8 l).2 = 0) : 100 ≤ (status8 l).1.status ∧ (status8 l).1.status < 600 := by
  unfold status8 at h ⊢
  split
  · rename_i hc
    rw [if_pos hc] at h
    dsimp only at h ⊢
    split
    · exact ⟨hc.2.2.2.1, hc.2.2.2.2.1⟩
    · rename_i hv
      rw [if_neg hv] at h
      exact absurd h hv
  · rename_i hc
    rw [if_neg hc] at h
    cases h
theorem resp_few {s : List UInt8} {h : H8} {n : Nat} (hd : read8 true s = .done h n) : 100 ≤ h.status ∧ h.status < 600 ∧ Few h.fields := by
  unfold read8 from8 at hd
  split at hd
  · cases hd
  · cases hd
  · rename_i k hs
    dsimp only at hd
    rw [if_pos rfl] at hd
    split at hd
    · rename_i h0
      obtain ⟨h1, h2⟩ := fields_few _ _ _ _ _ _ _ hd (fun f hf => by cases hf)
      have hr := status_range _ h0
      refine ⟨by rw [h1]; exact hr.1, by rw [h1]; exact hr.2, fun j hj => ?_⟩
      have := h2 _ (List.getElem_mem hj)
      exact ⟨by have := this.1; omega, by have := this.2; omega⟩
    · cases hd
/-- lengths are small -/
theorem numR_most (p : List UInt8) : numR 10 15 p ≤ 999999999999999 := by
  unfold numR
  split
  · rename_i h
    unfold numOk at h
    rw [Bool.and_eq_true, Bool.and_eq_true] at h
    have h1 := numV_lt 10 p h.2
    have h2 := of_decide_eq_true h.1.2
    have h3 : 10 ^ p.length ≤ 10 ^ 15 := Nat.pow_le_pow_right (by decide) (by omega)
    have h4 : (10 : Nat) ^ 15 = 1000000000000000 := by decide
    omega
  · omega
theorem len_most : ∀ (l : List (List UInt8)) (n : Int), n ≤ 999999999999999 → lenFrom n l ≤ 999999999999999 := by
  intro l
  induction l with
  | nil => intro n h; exact h
  | cons p l ih =>
    intro n h
    unfold lenFrom lenStep
    by_cases hc : numOk 10 15 p = true ∧ (n < 0 ∨ numR 10 15 p = n)
    · rw [if_pos hc]
      exact ih _ (numR_most p)
    · rw [if_neg hc]
      show (-1 : Int) ≤ _
      decide
theorem resp_len (meth : List UInt8) (st minor : Int) (G : List HField) : (response9 meth st minor G).2.1 ≤ 999999999999999 ∧ ((response9 meth st minor G).2.2 = 0 → 0 ≤ (response9 meth st minor G).2.1) := by
  have h := len_most (lens G) (-1) (by decide)
  have h2 : lenFrom (-1) (lens G) = lenN G := rfl
  rw [h2] at h
  unfold response9
  (repeat' split) <;> dsimp only <;> first | (constructor <;> omega) | exact ⟨by omega, fun e => by omega⟩
end Go.Proofs.YtblpooddamkfdaaGreatDoor.OutFew

/- The document's layer 12, where the whole of a good response has come: its reader in memory. -/
namespace Go.Proofs.YtblpooddamkfdaaGreatDoor.R12Box
open Go.ChangeShapes Go.WideShapes Go.ChangeAt Go.RowKit Bytes LexPure FieldsPure HeadPure FramePure Flds HBox Mem KeptRow
set_option maxRecDepth 100000
set_option linter.unusedVariables false
set_option linter.unusedSimpArgs false
abbrev RT : TypeId := 48
abbrev PT : TypeId := 50
abbrev HT : TypeId := 25
/-- the reader's cells: what it was told is whole, it isn't closed, it knows of no error -/
def rcs (m A : ByteArray) (hd : Bool) (told : Int) (dn : Bool) (us : Int) : Array Value := #[.string m, .string A, .bool false, .bool hd, .int .i64 told, .bool dn, .int .i64 0, .int .i64 us]
/-- a piece's cells -/
def pcs (k : Int) (h : H8) (l : Value) (d : ByteArray) : Array Value := #[.int .i64 k, .string (ofL h.method), .string (ofL h.target), .int .i64 h.status, .string (ofL h.reason), .int .i64 h.minor, l, .string d]
/-- all bytes are one good response: its head and then b -/
structure Whole12 (m A : ByteArray) (h : H8) (n0 : Nat) (K L : Int) (b : List UInt8) : Prop where
  read : read8 true (toL A) = .done h n0
  pos : 0 < n0
  resp : response9 (toL m) h.status h.minor h.fields = (K, L, 0)
  kind : (K = 2 ∧ L = b.length) ∨ (K = 1 ∧ b = [])
  status : 200 ≤ h.status
  few : Few h.fields
  len : h.fields.length ≤ 32
  all : ∃ hd : List UInt8, toL A = hd ++ b ∧ hd.length = n0
  size : A.size ≤ 70368744177664
theorem Whole12.bytes {m A : ByteArray} {h : H8} {n0 : Nat} {K L : Int} {b : List UInt8} (g : Whole12 m A h n0 K L b) : A.size = n0 + b.length := by
  obtain ⟨hd, e, hl⟩ := g.all
  have := congrArg List.length e
  rw [toL_length, List.length_append, hl] at this
  exact this
theorem Whole12.cut {m A : ByteArray} {h : H8} {n0 : Nat} {K L : Int} {b : List UInt8} (g : Whole12 m A h n0 K L b) : A.extract n0 A.size = ofL b := by
  obtain ⟨hd, e, hl⟩ := g.all
  apply toL_inj
  rw [toL_ofL, toL_extract, e]
  have hs := g.bytes
  rw [show A.size = (hd ++ b).length by rw [List.length_append, hl]; omega, List.take_length, ← hl, List.drop_left]
theorem rd_cells {w : World} {g : Nat} {m A : ByteArray} {hd dn : Bool} {told us : Int} (h : Has w g RT (rcs m A hd told dn us)) : w.cell? ⟨g, 0, none⟩ = some (.string m) ∧ w.cell? ⟨g, 1, none⟩ = some (.string A) ∧ w.cell? ⟨g, 2, none⟩ = some (.bool false) ∧ w.cell? ⟨g, 3, none⟩ = some (.bool hd) ∧
    w.cell? ⟨g, 4, none⟩ = some (.int .i64 told) ∧ w.cell? ⟨g, 5, none⟩ = some (.bool dn) ∧ w.cell? ⟨g, 6, none⟩ = some (.int .i64 0) ∧ w.cell? ⟨g, 7, none⟩ = some (.int .i64 us) :=
  ⟨h.cell 0, h.cell 1, h.cell 2, h.cell 3, h.cell 4, h.cell 5, h.cell 6, h.cell 7⟩
theorem rd_frees {w : World} {g : Nat} {cs : Array Value} (h : Has w g RT cs) : w.frozen? ⟨g, 3, none⟩ = false ∧ w.frozen? ⟨g, 4, none⟩ = false ∧ w.frozen? ⟨g, 5, none⟩ = false ∧ w.frozen? ⟨g, 6, none⟩ = false ∧ w.frozen? ⟨g, 7, none⟩ = false :=
  ⟨h.free 3, h.free 4, h.free 5, h.free 6, h.free 7⟩
theorem has_setRow {w : World} {g : Nat} {T : TypeId} {old : Array Value} (h : Has w g T old) (cs : Array Value) : Has (w.setRow g cs) g T cs := ⟨setRow_heap w g old cs T (0, 0) h.at_⟩
theorem row_setRow {w : World} {base n size g : Nat} {e : TypeId} {v : Value} {xs : List Value} (h : w.ownsRow base e size v n xs) (hg : g < base) (cs : Array Value) : (w.setRow g cs).ownsRow base e size v n xs := by
  refine ⟨h.1, ?_⟩
  rcases h.2 with hx | ⟨k, cap, cur, rfl, hb, hk, rest⟩
  · exact .inl hx
  · exact .inr ⟨k, cap, cur, rfl, hb, (setRow_other w g k cs (by omega)).trans hk, rest⟩
theorem below_setRow {w w' : World} {B g : Nat} (h : Below B w w') (hg : B ≤ g) (cs : Array Value) : Below B w (w'.setRow g cs) :=
  ⟨h.os, h.tape, h.output, by rw [setRow_size]; exact h.size, fun i hi => (setRow_other w' g i cs (by omega)).trans (h.block i hi)⟩
theorem far_setRow {w : World} {g k : Nat} {T : TypeId} {cs : Array Value} (h : Has w k T cs) (hk : k ≠ g) (x : Array Value) : Has (w.setRow g x) k T cs := ⟨(setRow_other w g k x hk).trans h.at_⟩
theorem results_cell_tmp3 {fn : Func} {p t u v : Tmp} {ty : TypeId} (h : fn.results = #[.cell p ty, .tmp t, .tmp u, .tmp v]) (tmps : Array Value) (P : Program) (w : World) :
    (results fn tmps).run P w =
      ((asAddr (tmps.getD p undef)).run P w).andThen fun a w₁ => ((loadVar ty a).run P w₁).andThen fun x w₂ => .ok (.tuple #[x, tmps.getD t undef, tmps.getD u undef, tmps.getD v undef]) w₂ := by
  simp only [results, h]
  simp [Sem.run_bind, Result.andThen]
end Go.Proofs.YtblpooddamkfdaaGreatDoor.R12Box

/- A text cut at its first byte of a kind: ahead of it, behind it. No program is named. -/
namespace Go.Proofs.YtblpooddamkfdaaGreatDoor.CutAt
open Bytes
def aheadOf (x : UInt8) (s : List UInt8) : List UInt8 := s.takeWhile (fun c => c != x)
def behind (x : UInt8) (s : List UInt8) : List UInt8 := (s.dropWhile (fun c => c != x)).tail
def hasB (x : UInt8) (s : List UInt8) : Bool := s.any (fun c => c == x)
theorem index_tail (x : UInt8) (c : UInt8) (l : List UInt8) (h : (c == x) = false) : Go.Lib.index (c :: l) [x] = if Go.Lib.index l [x] == -1 then -1 else Go.Lib.index l [x] + 1 := by
  have hp : ([x] : List UInt8).isPrefixOf (c :: l) = false := by
    have : ¬ x = c := fun e => by rw [← e, beq_self_eq_true] at h; cases h
    simp [List.isPrefixOf, this]
  rw [Go.Lib.index, hp]
  rfl
theorem cut_say (x : UInt8) (s : List UInt8) : (Go.Lib.cut s [x]).1 = aheadOf x s ∧ (Go.Lib.cut s [x]).2.1 = behind x s ∧ (Go.Lib.cut s [x]).2.2 = hasB x s := by
  unfold aheadOf behind hasB Go.Lib.cut
  induction s with
  | nil =>
    have : Go.Lib.index [] [x] = -1 := by simp [Go.Lib.index]
    rw [this]
    exact ⟨rfl, rfl, rfl⟩
  | cons c l ih =>
    by_cases hc : c = x
    · subst hc
      have hix : Go.Lib.index (c :: l) [c] = 0 := by rw [Go.Lib.index]; simp [List.isPrefixOf]
      rw [hix]
      simp
    · have hq : (c == x) = false := by simpa using hc
      have hn : (c != x) = true := by simp [hc]
      rw [index_tail x c l hq, List.takeWhile_cons, hn, List.dropWhile_cons, hn, List.any_cons, hq]
      have hge := Go.Lib.index_ge l [x]
      by_cases hm : Go.Lib.index l [x] = -1
      · rw [hm] at ih ⊢
        simp at ih ⊢
        exact ⟨ih.1, ih.2⟩
      · obtain ⟨i, hi⟩ : ∃ i : Nat, Go.Lib.index l [x] = i := ⟨(Go.Lib.index l [x]).toNat, by omega⟩
        rw [hi] at ih ⊢
        have h1 : ((i : Int) == -1) = false := beq_eq_false_iff_ne.2 (by omega)
        have h3 : ((i : Int) + 1).toNat = i + 1 := by omega
        have h4 : (0 : Int) ≤ (i : Int) + 1 := by omega
        have h5 : (0 : Int) ≤ (i : Int) := by omega
        simp only [h1, h3, h4, h5, if_true, Bool.false_eq_true, if_false, Bool.false_or] at ih ⊢
        rw [show i + 1 + ([x] : List UInt8).length = (i + [x].length) + 1 from rfl, List.take_succ_cons, List.drop_succ_cons]
        exact ⟨by rw [← ih.1]; simp, ih.2.1, ih.2.2⟩
end Go.Proofs.YtblpooddamkfdaaGreatDoor.CutAt

/- Layer 8, lines cut at blanks, at a dot, at a colon: another way to the same answers. No program is named. -/
namespace Go.Proofs.YtblpooddamkfdaaGreatDoor.HeadCut
open Bytes LexPure LexNum FieldsPure HeadPure CutAt
set_option maxRecDepth 20000
theorem cut_drop (x : UInt8) : ∀ s : List UInt8, behind x s = s.drop ((aheadOf x s).length + 1)
  | [] => rfl
  | c :: s => by
    unfold behind aheadOf
    rw [List.dropWhile_cons, List.takeWhile_cons]
    split
    · rw [List.length_cons, List.drop_succ_cons]
      exact cut_drop x s
    · rfl
theorem ahead_take (x : UInt8) : ∀ s : List UInt8, aheadOf x s = s.take (aheadOf x s).length
  | [] => rfl
  | c :: s => by
    unfold aheadOf
    rw [List.takeWhile_cons]
    split
    · rw [List.length_cons, List.take_succ_cons]
      exact congrArg _ (ahead_take x s)
    · rfl
theorem cut_at {x : UInt8} {b : List UInt8} : ∀ {a : List UInt8}, (∀ c ∈ a, c ≠ x) → aheadOf x (a ++ x :: b) = a ∧ behind x (a ++ x :: b) = b ∧ hasB x (a ++ x :: b) = true
  | [], _ => by simp [aheadOf, behind, hasB]
  | c :: a, h => by
    have hc : (c != x) = true := bne_iff_ne.2 (h c (List.mem_cons_self))
    obtain ⟨h1, h2, h3⟩ := cut_at (b := b) (a := a) (fun d hd => h d (List.mem_cons_of_mem _ hd))
    unfold aheadOf behind hasB at *
    rw [List.cons_append, List.takeWhile_cons, if_pos hc, List.dropWhile_cons, if_pos hc, List.any_cons, h1, h2, h3, Bool.or_true]
    exact ⟨rfl, rfl, rfl⟩
theorem cut_none {x : UInt8} : ∀ {a : List UInt8}, (∀ c ∈ a, c ≠ x) → aheadOf x a = a ∧ behind x a = [] ∧ hasB x a = false
  | [], _ => ⟨rfl, rfl, rfl⟩
  | c :: a, h => by
    have hc : (c != x) = true := bne_iff_ne.2 (h c (List.mem_cons_self))
    have hq : (c == x) = false := beq_eq_false_iff_ne.2 (h c (List.mem_cons_self))
    obtain ⟨h1, h2, h3⟩ := cut_none (a := a) (fun d hd => h d (List.mem_cons_of_mem _ hd))
    unfold aheadOf behind hasB at *
    rw [List.takeWhile_cons, if_pos hc, List.dropWhile_cons, if_pos hc, List.any_cons, h1, h2, h3, hq]
    exact ⟨rfl, rfl, rfl⟩
theorem cut_or (x : UInt8) : ∀ s : List UInt8, (∃ a b, s = a ++ x :: b ∧ ∀ c ∈ a, c ≠ x) ∨ (∀ c ∈ s, c ≠ x)
  | [] => .inr (fun c h => by cases h)
  | c :: s => by
    by_cases hc : c = x
    · exact .inl ⟨[], s, by rw [hc]; rfl, fun d h => by cases h⟩
    · rcases cut_or x s with ⟨a, b, h, h2⟩ | h
      · exact .inl ⟨c :: a, b, by rw [h]; rfl, fun d hd => by rcases List.mem_cons.1 hd with rfl | hd; exact hc; exact h2 d hd⟩
      · exact .inr (fun d hd => by rcases List.mem_cons.1 hd with rfl | hd; exact hc; exact h d hd)
theorem dig_digit (c : UInt8) : decide (dig c < 10) = digitB c ∧ (digitB c = true → (dig c : Int) = (c.toNat : Int) - 48 ∧ c ≠ 32) := by
  have := all_bytes (p := fun c => decide (decide (dig c < 10) = digitB c ∧ (digitB c = true → (dig c : Int) = (c.toNat : Int) - 48 ∧ c ≠ 32))) (by decide +kernel) c
  exact of_decide_eq_true this
/-! ### the version -/
theorem one_digit (f : List UInt8) : numOk 10 1 f = true ↔ ∃ a, f = [a] ∧ digitB a = true := by
  unfold numOk
  cases f with
  | nil => simp
  | cons a f =>
    cases f with
    | nil => simp [(dig_digit a).1.symm]
    | cons b f => simp; omega
theorem one_worth {a : UInt8} (h : digitB a = true) : numR 10 1 [a] = (a.toNat : Int) - 48 := by
  unfold numR
  rw [(one_digit [a]).2 ⟨a, rfl, h⟩, ← ((dig_digit a).2 h).1]
  simp [numV]
def HTTPS : List UInt8 := [72, 84, 84, 80, 47]
def verR (s : List UInt8) : List UInt8 := if HTTPS.isPrefixOf s = true then s.drop 5 else s
def verP (s : List UInt8) : Int × Int :=
  if HTTPS.isPrefixOf s = true ∧ numOk 10 1 (aheadOf 46 (verR s)) = true ∧ numOk 10 1 (behind 46 (verR s)) = true then (if numR 10 1 (aheadOf 46 (verR s)) = 1 then (numR 10 1 (behind 46 (verR s)), 0) else (0, 81)) else (0, 80)
theorem version_prog (s : List UInt8) : version8 s = verP s := by
  by_cases h : HTTPS.isPrefixOf s = true ∧ numOk 10 1 (aheadOf 46 (verR s)) = true ∧ numOk 10 1 (behind 46 (verR s)) = true
  · have hv : verR s = s.drop 5 := by unfold verR; rw [if_pos h.1]
    unfold verP
    rw [if_pos h]
    rw [hv] at h ⊢
    obtain ⟨h1, h2, h3⟩ := h
    obtain ⟨a, e2, d2⟩ := (one_digit _).1 h2
    obtain ⟨b, e3, d3⟩ := (one_digit _).1 h3
    obtain ⟨t, ht⟩ := List.isPrefixOf_iff_prefix.1 h1
    have hs : s = HTTPS ++ [a, 46, b] := by
      rw [← ht] at e2 e3 ⊢
      have hd : (HTTPS ++ t).drop 5 = t := rfl
      rw [hd] at e2 e3
      rcases cut_or 46 t with ⟨x, y, hxy, hx⟩ | hx
      · have := cut_at (b := y) hx
        rw [← hxy] at this
        rw [hxy, ← this.1, ← this.2.1, e2, e3]
        rfl
      · rw [(cut_none hx).2.1] at e3
        cases e3
    rw [e2, e3, one_worth d2, one_worth d3, hs]
    show (if _ then _ else _) = _
    rw [if_pos ⟨rfl, rfl, rfl, rfl, rfl, rfl, d2, d3⟩]
    by_cases h1 : a = 49
    · subst h1
      rw [if_pos rfl, if_pos (by decide)]
    · rw [if_neg h1, if_neg]
      intro h
      exact h1 (UInt8.toNat_inj.1 (by show a.toNat = 49; omega))
  · unfold verP
    rw [if_neg h]
    unfold version8
    split
    · rename_i c1 c2 c3 c4 c5 a c6 b
      rw [if_neg]
      rintro ⟨rfl, rfl, rfl, rfl, rfl, rfl, d2, d3⟩
      refine h ⟨rfl, ?_⟩
      have hv : verR [72, 84, 84, 80, 47, a, 46, b] = [a] ++ 46 :: [b] := by
        unfold verR
        rw [if_pos (show HTTPS.isPrefixOf [72, 84, 84, 80, 47, a, 46, b] = true from rfl)]
        rfl
      have ha : ∀ c ∈ [a], c ≠ 46 := by
        intro c hc
        rw [List.mem_singleton] at hc
        subst hc
        intro e
        subst e
        exact absurd d2 (by decide)
      obtain ⟨e1, e2, _⟩ := cut_at (b := [b]) ha
      rw [hv, e1, e2]
      exact ⟨(one_digit _).2 ⟨a, rfl, d2⟩, (one_digit _).2 ⟨b, rfl, d3⟩⟩
    · rfl
/-- a version of its form has eight bytes and no blank -/
theorem version_form {s : List UInt8} (h : (version8 s).2 ≠ 80) : s.length = 8 ∧ ∀ c ∈ s, c ≠ 32 := by
  unfold version8 at h
  split at h
  · rename_i c1 c2 c3 c4 c5 a c6 b
    by_cases hc : c1 = 72 ∧ c2 = 84 ∧ c3 = 84 ∧ c4 = 80 ∧ c5 = 47 ∧ c6 = 46 ∧ digitB a = true ∧ digitB b = true
    · obtain ⟨rfl, rfl, rfl, rfl, rfl, rfl, d2, d3⟩ := hc
      refine ⟨rfl, ?_⟩
      have ha := ((dig_digit a).2 d2).2
      have hb := ((dig_digit b).2 d3).2
      intro c hc
      simp only [List.mem_cons, List.not_mem_nil, or_false] at hc
      rcases hc with rfl | rfl | rfl | rfl | rfl | rfl | rfl | rfl <;> first | exact ha | exact hb | decide
    · rw [if_neg hc] at h
      exact absurd rfl h
  · exact absurd rfl h
theorem version_nil : version8 [] = (0, 80) := rfl
/-! ### the start line -/
def startP (l : List UInt8) : H8 × Int :=
  if (aheadOf 32 l).length ≤ 16 ∧ token (aheadOf 32 l) = true ∧ (aheadOf 32 (behind 32 l)).all seenB = true ∧ aheadOf 32 (behind 32 l) ≠ [] then
    (if (version8 (behind 32 (behind 32 l))).2 = 0 then (⟨aheadOf 32 l, aheadOf 32 (behind 32 l), 0, [], (version8 (behind 32 (behind 32 l))).1, []⟩, 0) else (zero8, (version8 (behind 32 (behind 32 l))).2))
  else (zero8, 80)
theorem start_prog (l : List UInt8) : start8 l = startP l := by
  unfold start8 startP
  rw [show upB l = aheadOf 32 l from rfl, ← cut_drop]
  generalize hr : behind 32 l = r
  simp only
  rw [show upB r = aheadOf 32 r from rfl, ← cut_drop]
  have hlr : (aheadOf 32 l).length < l.length ∨ r = [] := by
    rw [← hr, cut_drop]
    rcases Nat.lt_or_ge (aheadOf 32 l).length l.length with h | h
    · exact .inl h
    · exact .inr (List.drop_eq_nil_of_le (by omega))
  have hlv : (aheadOf 32 r).length < r.length ∨ version8 (behind 32 r) = (0, 80) := by
    rcases Nat.lt_or_ge (aheadOf 32 r).length r.length with h | h
    · exact .inl h
    · exact .inr (by rw [cut_drop, List.drop_eq_nil_of_le (by omega)]; rfl)
  have hpos : 0 < (aheadOf 32 r).length ↔ aheadOf 32 r ≠ [] := List.length_pos_iff
  by_cases h1 : (aheadOf 32 l).length ≤ 16 ∧ token (aheadOf 32 l) = true ∧ (aheadOf 32 r).all seenB = true ∧ aheadOf 32 r ≠ []
  · rw [if_pos h1]
    obtain ⟨a1, a2, a3, a4⟩ := h1
    have hl : (aheadOf 32 l).length < l.length := by
      rcases hlr with h | h
      · exact h
      · rw [h] at a4; exact absurd rfl a4
    rw [if_pos (show (aheadOf 32 l).length < l.length ∧ (aheadOf 32 l).length ≤ 16 ∧ token (aheadOf 32 l) = true from ⟨hl, a1, a2⟩)]
    rcases hlv with h | h
    · rw [if_pos (show (aheadOf 32 r).length < r.length ∧ 0 < (aheadOf 32 r).length ∧ (aheadOf 32 r).all seenB = true from ⟨h, hpos.2 a4, a3⟩)]
    · rw [h]
      simp
  · rw [if_neg h1]
    by_cases h2 : (aheadOf 32 l).length < l.length ∧ (aheadOf 32 l).length ≤ 16 ∧ token (aheadOf 32 l) = true
    · rw [if_pos h2, if_neg]
      rintro ⟨_, b2, b3⟩
      exact h1 ⟨h2.2.1, h2.2.2, b3, hpos.1 b2⟩
    · rw [if_neg h2]
/-! ### the status line -/
theorem plain_blank (c : UInt8) (h : blankB c = true) : plainB c = true := by
  have := all_bytes (p := fun c => !blankB c || plainB c) (by decide +kernel) c
  rw [h] at this
  simpa using this
theorem drop_plain (s : List UInt8) : (s.dropWhile blankB).all plainB = s.all plainB := by
  induction s with
  | nil => rfl
  | cons c s ih =>
    rw [List.dropWhile_cons]
    split
    · rename_i h
      rw [ih, List.all_cons, plain_blank c h, Bool.true_and]
    · rfl
theorem trim_plain (s : List UInt8) : (trim s).all plainB = s.all plainB := by
  unfold trim
  rw [List.all_reverse, drop_plain, List.all_reverse, drop_plain]
theorem value_trim' (s : List UInt8) : value (trim s) = s.all plainB := by
  unfold value
  rw [trim_plain]
  cases h : s.all plainB with
  | false => rfl
  | true =>
    rw [Bool.true_and]
    cases ht : trim s with
    | nil => rfl
    | cons c r =>
      have h1 : blankB c = false := trim_head c r ht
      have h2 : blankB ((c :: r).getLastD 0) = false := by
        rw [List.getLastD_eq_getLast?, ← List.head?_reverse]
        cases hr : (c :: r).reverse with
        | nil => simp at hr
        | cons d t =>
          exact trim_last d t (by rw [ht]; exact hr)
      rw [List.headD_cons, h1, h2]
      rfl
def statusP (l : List UInt8) : H8 × Int :=
  if numOk 10 3 (aheadOf 32 (behind 32 l)) = true ∧ 100 ≤ numR 10 3 (aheadOf 32 (behind 32 l)) ∧ numR 10 3 (aheadOf 32 (behind 32 l)) ≤ 599 ∧ (behind 32 (behind 32 l)).all plainB = true then
    (if (version8 (aheadOf 32 l)).2 = 0 then (⟨[], [], numR 10 3 (aheadOf 32 (behind 32 l)), behind 32 (behind 32 l), (version8 (aheadOf 32 l)).1, []⟩, 0) else (zero8, (version8 (aheadOf 32 l)).2))
  else (zero8, 80)
theorem three_digits {d : List UInt8} (h : numOk 10 3 d = true) (h1 : 100 ≤ numR 10 3 d) : d.length = 3 := by
  unfold numR at h1
  rw [if_pos h] at h1
  unfold numOk at h
  simp only [Bool.and_eq_true, decide_eq_true_eq] at h
  obtain ⟨⟨h2, h3⟩, h4⟩ := h
  have hlt := numV_lt 10 d h4
  rcases (show d.length = 0 ∨ d.length = 1 ∨ d.length = 2 ∨ d.length = 3 by omega) with e | e | e | e
  · rw [e] at hlt; omega
  · rw [e] at hlt; omega
  · rw [e] at hlt; omega
  · exact e
theorem ok_bare {d : List UInt8} (h : numOk 10 3 d = true) : ∀ c ∈ d, c ≠ 32 := by
  unfold numOk at h
  simp only [Bool.and_eq_true] at h
  intro c hc
  have := List.all_eq_true.1 h.2 c hc
  rw [(dig_digit c).1] at this
  exact ((dig_digit c).2 this).2
theorem status_prog (l : List UInt8) : status8 l = statusP l := by
  by_cases hC : 12 ≤ l.length ∧ l[8]? = some 32 ∧ numOk 10 3 ((l.drop 9).take 3) = true ∧ 100 ≤ numR 10 3 ((l.drop 9).take 3) ∧ numR 10 3 ((l.drop 9).take 3) < 600 ∧ (l.length = 12 ∨ l[12]? = some 32) ∧ (l.drop 13).all plainB = true
  · have e8 : status8 l = if (version8 (l.take 8)).2 = 0 then (⟨[], [], numR 10 3 ((l.drop 9).take 3), l.drop 13, (version8 (l.take 8)).1, []⟩, 0) else (zero8, (version8 (l.take 8)).2) := by
      unfold status8
      rw [if_pos hC]
    rw [e8]
    obtain ⟨c1, c2, c3, c4, c5, c6, c7⟩ := hC
    have hl8 : l = l.take 8 ++ 32 :: l.drop 9 := by
      have h8 : 8 < l.length := by omega
      rw [List.getElem?_eq_getElem h8] at c2
      injection c2 with c2
      rw [← c2, ← List.drop_eq_getElem_cons h8, List.take_append_drop]
    by_cases hv : (version8 (l.take 8)).2 = 80
    · -- the version isn't of its form
      rw [hv, if_neg (by decide)]
      unfold statusP
      by_cases hp : numOk 10 3 (aheadOf 32 (behind 32 l)) = true ∧ 100 ≤ numR 10 3 (aheadOf 32 (behind 32 l)) ∧ numR 10 3 (aheadOf 32 (behind 32 l)) ≤ 599 ∧ (behind 32 (behind 32 l)).all plainB = true
      · rw [if_pos hp]
        have hv2 : (version8 (aheadOf 32 l)).2 = 80 := by
          rcases Decidable.em ((version8 (aheadOf 32 l)).2 = 80) with h | h
          · exact h
          · exfalso
            obtain ⟨f1, f2⟩ := version_form h
            have : aheadOf 32 l = l.take 8 := by rw [ahead_take, f1]
            rw [this] at h
            exact h hv
        rw [hv2, if_neg (by decide)]
      · rw [if_neg hp]
    · obtain ⟨_, f2⟩ := version_form hv
      obtain ⟨g1, g2, _⟩ := cut_at (b := l.drop 9) f2
      rw [← hl8] at g1 g2
      have h9 : l.drop 9 = (l.drop 9).take 3 ++ l.drop 12 := by
        conv => lhs; rw [← List.take_append_drop 3 (l.drop 9), List.drop_drop]
      have hb := ok_bare c3
      have hd : aheadOf 32 (l.drop 9) = (l.drop 9).take 3 ∧ behind 32 (l.drop 9) = l.drop 13 := by
        rcases c6 with h | h
        · have e12 : l.drop 12 = [] := List.drop_eq_nil_of_le (by omega)
          have e13 : l.drop 13 = [] := List.drop_eq_nil_of_le (by omega)
          have := cut_none hb
          rw [e12, List.append_nil] at h9
          rw [← h9] at this
          rw [e13, ← h9]
          exact ⟨this.1, this.2.1⟩
        · have h12 : 12 < l.length := by
            rcases Nat.lt_or_ge 12 l.length with h2 | h2
            · exact h2
            · rw [List.getElem?_eq_none h2] at h; cases h
          have e12 : l.drop 12 = 32 :: l.drop 13 := by
            rw [List.getElem?_eq_getElem h12] at h
            injection h with h
            rw [← h, ← List.drop_eq_getElem_cons h12]
          have := cut_at (b := l.drop 13) hb
          rw [← e12, ← h9] at this
          exact ⟨this.1, this.2.1⟩
      unfold statusP
      rw [g2, hd.1, hd.2, g1, if_pos (show numOk 10 3 ((l.drop 9).take 3) = true ∧ 100 ≤ numR 10 3 ((l.drop 9).take 3) ∧ numR 10 3 ((l.drop 9).take 3) ≤ 599 ∧ (l.drop 13).all plainB = true from ⟨c3, c4, by omega, c7⟩)]
  · have e8 : status8 l = (zero8, 80) := by
      unfold status8
      rw [if_neg hC]
    rw [e8]
    unfold statusP
    by_cases hp : numOk 10 3 (aheadOf 32 (behind 32 l)) = true ∧ 100 ≤ numR 10 3 (aheadOf 32 (behind 32 l)) ∧ numR 10 3 (aheadOf 32 (behind 32 l)) ≤ 599 ∧ (behind 32 (behind 32 l)).all plainB = true
    · rw [if_pos hp]
      rcases Decidable.em ((version8 (aheadOf 32 l)).2 = 80) with h | h
      · rw [h, if_neg (by decide)]
      · exfalso
        obtain ⟨f1, f2⟩ := version_form h
        obtain ⟨p1, p2, p3, p4⟩ := hp
        have h3 := three_digits p1 p2
        rcases cut_or 32 l with ⟨a, b, hab, ha⟩ | ha
        · obtain ⟨g1, g2, _⟩ := cut_at (b := b) ha
          rw [← hab] at g1 g2
          rw [g1] at f1
          have hb : b = l.drop 9 := by rw [hab, List.drop_append, f1, List.drop_eq_nil_of_le (by omega)]; rfl
          have hl8 : l[8]? = some 32 := by rw [hab, List.getElem?_append_right (by omega), f1]; rfl
          rw [g2] at p1 p2 p3 p4 h3
          have hbl : l.length = 9 + b.length := by rw [hab, List.length_append, List.length_cons]; omega
          rcases cut_or 32 b with ⟨x, y, hxy, hx⟩ | hx
          · obtain ⟨k1, k2, _⟩ := cut_at (b := y) hx
            rw [← hxy] at k1 k2
            rw [k1] at p1 p2 p3 h3
            rw [k2] at p4
            have e1 : (l.drop 9).take 3 = x := by rw [← hb, hxy, ← h3, List.take_left']; rfl
            have e2 : l.drop 13 = y := by
              rw [show l.drop 13 = (l.drop 9).drop 4 by rw [List.drop_drop], ← hb, hxy, List.drop_append, h3, List.drop_eq_nil_of_le (by omega)]
              rfl
            have e3 : l[12]? = some 32 := by
              rw [show l[12]? = (l.drop 9)[3]? by rw [List.getElem?_drop], ← hb, hxy, List.getElem?_append_right (by omega), h3]
              rfl
            refine hC ⟨?_, hl8, by rw [e1]; exact p1, by rw [e1]; exact p2, by rw [e1]; omega, .inr e3, by rw [e2]; exact p4⟩
            rw [hbl, hxy, List.length_append]
            omega
          · obtain ⟨k1, k2, _⟩ := cut_none hx
            rw [k1] at p1 p2 p3 h3
            have e1 : (l.drop 9).take 3 = b := by rw [← hb, List.take_of_length_le (by omega)]
            have e2 : l.drop 13 = [] := List.drop_eq_nil_of_le (by omega)
            exact hC ⟨by omega, hl8, by rw [e1]; exact p1, by rw [e1]; exact p2, by rw [e1]; omega, .inl (by omega), by rw [e2]; rfl⟩
        · rw [(cut_none ha).2.1] at h3
          cases h3
    · rw [if_neg hp]
/-! ### a field's line -/
def fieldP (l : List UInt8) : HField × Int :=
  if hasB 58 l = true ∧ token (aheadOf 58 l) = true ∧ value (trim (behind 58 l)) = true then ((aheadOf 58 l, trim (behind 58 l)), 0) else (([], []), 70)
theorem field_prog (l : List UInt8) : field8 l = fieldP l := by
  unfold field8 fieldP
  rw [show nameB l = aheadOf 58 l from rfl, ← cut_drop]
  have : (aheadOf 58 l).length < l.length ↔ hasB 58 l = true := by
    rcases cut_or 58 l with ⟨a, b, hab, ha⟩ | ha
    · obtain ⟨g1, _, g3⟩ := cut_at (b := b) ha
      rw [← hab] at g1 g3
      rw [g1, g3, hab, List.length_append, List.length_cons]
      constructor
      · intro; rfl
      · intro; omega
    · obtain ⟨g1, _, g3⟩ := cut_none ha
      rw [g1, g3]
      constructor
      · intro h; omega
      · intro h; cases h
  simp only [this]
end Go.Proofs.YtblpooddamkfdaaGreatDoor.HeadCut

/- Layer 13: how what is written is framed: which fields are there, how often, and what they say. No program is named. -/
namespace Go.Proofs.YtblpooddamkfdaaGreatDoor.EmitBack
open Bytes LexPure LexNum FieldsPure HeadPure HeadWrit HeadCut HeadLines DecN FramePure EmitPure
set_option maxRecDepth 20000
/-! ### how often a field is there -/
theorem getN_cons (f : HField) (G : List HField) (n : List UInt8) : getN (f :: G) n = (if hit n f then 1 else 0) + getN G n := by
  unfold getN
  rw [List.countP_cons]
  omega
theorem getN_nil (n : List UInt8) : getN [] n = 0 := rfl
theorem getN_told (G : List HField) (n : List UInt8) : getN (G.map EmitPure.told) n = getN G n := by
  unfold getN
  rw [List.countP_map]
  rfl
theorem skip_congr {req : Bool} {n m : List UInt8} (h : alike n m = true) : skipE req n = skipE req m := by
  have hc : ∀ x, alike n x = alike m x := fun x => by
    unfold alike
    rw [(alike_iff n m).1 h]
  unfold skipE
  rw [hc, hc, hc, hc, hc]
/-- a name that is left out, or concerns one connection alone, is not told on -/
theorem on_none {req : Bool} {l : List HField} {n : List UInt8} (h : one l n = true ∨ skipE req n = true) : getN (onE req l) n = 0 := by
  unfold getN
  rw [List.countP_eq_zero]
  intro f hf hh
  unfold onE strip at hf
  rw [List.mem_filter, List.mem_filter] at hf
  obtain ⟨⟨_, h1⟩, h2⟩ := hf
  have ha : alike f.1 n = true := hh
  rcases h with h | h
  · rw [one_congr ha, h] at h1
    cases h1
  · rw [skip_congr ha, h] at h2
    cases h2
theorem one_low {l : List HField} {n : List UInt8} (h : fixed.any (fun x => alike x n) = true) : one l n = true := by unfold one; rw [h]; rfl
theorem on_te (req : Bool) (l : List HField) : getN (onE req l) TENC = 0 := on_none (.inl (one_low (by decide)))
theorem on_cl (req : Bool) (l : List HField) : getN (onE req l) CLEN = 0 := on_none (.inr (by cases req <;> decide))
theorem on_conn (req : Bool) (l : List HField) : getN (onE req l) CONNECTION = 0 := on_none (.inl (one_low (by decide)))
theorem on_via (req : Bool) (l : List HField) : getN (onE req l) VIAN = 0 := on_none (.inr (by cases req <;> decide))
theorem on_host (l : List HField) : getN (onE true l) HOSTN = 0 := on_none (.inr (by decide))
theorem on_exp (l : List HField) : getN (onE true l) EXPN = 0 := on_none (.inr (by decide))
theorem on_xff (l : List HField) : getN (onE true l) XFFN = 0 := on_none (.inr (by decide))
theorem on_up (req : Bool) (l : List HField) : getN (onE req l) UPN = 0 := on_none (.inl (one_low (by decide)))
/-! ### elements and lengths where a field is there not at all, or once -/
theorem filter_none {G : List HField} {n : List UInt8} (h : getN G n = 0) : G.filter (hit n) = [] := by
  unfold getN at h
  rw [List.countP_eq_length_filter] at h
  exact List.eq_nil_of_length_eq_zero h
theorem elems_append (a b : List HField) (n : List UInt8) : elems (a ++ b) n = elems a n ++ elems b n := by
  unfold elems
  rw [List.filter_append, List.flatMap_append]
theorem elems_none {G : List HField} {n : List UInt8} (h : getN G n = 0) : elems G n = [] := by
  unfold elems
  rw [filter_none h]
  rfl
theorem lens_append (a b : List HField) : lens (a ++ b) = lens a ++ lens b := by
  unfold lens
  rw [List.filter_append, List.flatMap_append]
theorem lens_none {G : List HField} (h : getN G CLEN = 0) : lens G = [] := by
  unfold lens
  rw [filter_none h]
  rfl
theorem len_said {n : Nat} (h : n < 1000000000000000) : lenFrom (-1) [decN n] = n := by
  obtain ⟨h1, h2⟩ := dec_num h
  unfold lenFrom lenStep
  rw [if_pos ⟨h1, .inl (by omega)⟩]
  exact h2
/-! ### a reply with its length -/
/-- what stands behind Via in a reply that is framed by its length and asks for no upgrade -/
def restR (n : Nat) (keep : Bool) : List HField := (CLN, decN n) :: (if keep then [] else [(CONN, CLOSEV)])
theorem replyF_local (status : Int) (reason : List UInt8) (l : List HField) (n : Nat) (keep : Bool) :
    replyF ⟨status, reason, l, 2, n, keep, []⟩ = onE false l ++ ((VIAN, joinV l VIAN BARB) :: restR n keep) := by
  unfold replyF restR decZ
  have e1 : ¬ ((n : Int) < 0) := by omega
  simp only [if_true, if_false, show ¬ ((2 : Int) = 3) from by decide, List.nil_append, e1, Int.natAbs_natCast]
  rfl
theorem trim_dec (n : Nat) : trim (decN n) = decN n := dec_trim n
theorem reply_frame (l : List HField) (x : List UInt8) {n : Nat} (hn : n < 1000000000000000) (keep : Bool) :
    getN ((onE false l ++ ((VIAN, x) :: restR n keep)).map EmitPure.told) TENC = 0 ∧ getN ((onE false l ++ ((VIAN, x) :: restR n keep)).map EmitPure.told) CLEN = 1 ∧
    lenN ((onE false l ++ ((VIAN, x) :: restR n keep)).map EmitPure.told) = n ∧ keep9 1 ((onE false l ++ ((VIAN, x) :: restR n keep)).map EmitPure.told) = keep := by
  have hT : getN (onE false l) TENC = 0 := on_te _ _
  have hC : getN (onE false l) CLEN = 0 := on_cl _ _
  have hN : getN (onE false l) CONNECTION = 0 := on_conn _ _
  have t1 : ∀ m, getN ((VIAN, x) :: restR n keep) m = (if alike VIAN m then 1 else 0) + ((if alike CLN m then 1 else 0) + (if keep then 0 else if alike CONN m then 1 else 0)) := fun m => by
    unfold restR
    rw [getN_cons, getN_cons]
    cases keep with
    | true => simp [hit, getN_nil]; rfl
    | false => simp [hit, getN_cons, getN_nil]; rfl
  refine ⟨?_, ?_, ?_, ?_⟩
  · rw [getN_told, getN_append, hT, t1, show alike VIAN TENC = false from by decide, show alike CLN TENC = false from by decide, show alike CONN TENC = false from by decide]
    cases keep <;> rfl
  · rw [getN_told, getN_append, hC, t1, show alike VIAN CLEN = false from by decide, show alike CLN CLEN = true from by decide, show alike CONN CLEN = false from by decide]
    cases keep <;> rfl
  · unfold lenN
    rw [List.map_append, lens_append, lens_none (by rw [getN_told]; exact hC), List.nil_append, List.map_cons, lens_cons]
    rw [if_neg (by show ¬ alike VIAN CLEN = true; decide)]
    unfold restR
    rw [List.map_cons, lens_cons, if_pos (by show alike CLN CLEN = true; decide)]
    have e : lens ((if keep then [] else [(CONN, CLOSEV)] : List HField).map EmitPure.told) = [] := by
      cases keep with
      | true => rfl
      | false => exact lens_none (by rw [getN_told]; decide)
    rw [e, List.append_nil]
    show lenFrom (-1) ((pieces (trim (decN n))).map trim) = _
    rw [trim_dec, dec_pieces]
    show lenFrom (-1) [trim (decN n)] = _
    rw [trim_dec, len_said hn]
  · have e : elems ((onE false l ++ ((VIAN, x) :: restR n keep)).map EmitPure.told) CONNECTION = if keep then [] else [CLOSEV] := by
      rw [List.map_append, elems_append, elems_none (by rw [getN_told]; exact hN), List.nil_append, List.map_cons]
      have e2 : ∀ (f : HField) (G : List HField), hit CONNECTION f = false → elems (f :: G) CONNECTION = elems G CONNECTION := fun f G hf => by
        unfold elems
        rw [List.filter_cons_of_neg (by rw [hf]; decide)]
      rw [e2 _ _ (by show alike VIAN CONNECTION = false; decide)]
      unfold restR
      rw [List.map_cons, e2 _ _ (by show alike CLN CONNECTION = false; decide)]
      cases keep with
      | true => rfl
      | false => decide
    unfold keep9 hasE
    rw [e]
    cases keep with
    | true => rfl
    | false => decide
/-- how a client takes it -/
theorem reply_response (l : List HField) (x : List UInt8) {n : Nat} (hn : n < 1000000000000000) (keep : Bool) {status : Int} (h1 : 200 ≤ status) (h2 : status ≠ 204) (h3 : status ≠ 304) :
    response9 [71, 69, 84] status 1 ((onE false l ++ ((VIAN, x) :: restR n keep)).map EmitPure.told) = (2, (n : Int), 0) ∧
    response9 [72, 69, 65, 68] status 1 ((onE false l ++ ((VIAN, x) :: restR n keep)).map EmitPure.told) = (1, 0, 0) := by
  obtain ⟨t1, t2, t3, _⟩ := reply_frame l x hn keep
  constructor
  · unfold response9
    rw [if_neg (by omega), if_neg (by omega), if_neg (fun h => absurd h.1 (by decide)), if_neg (by decide), t1, if_neg (by omega), t2, if_neg (by decide), t3, if_neg (by omega)]
  · unfold response9
    rw [if_neg (by omega), if_neg (by omega), if_neg (fun h => absurd h.1 (by decide)), if_pos rfl]
/-! ### a head that is written is read -/
theorem plain_not (c : UInt8) (h : plainB c = true) : c ≠ 10 ∧ c ≠ 13 := by
  constructor
  · rintro rfl
    exact absurd h (by decide)
  · rintro rfl
    exact absurd h (by decide)
theorem dec_plain (n : Nat) : ∀ c ∈ decN n, plainB c = true := fun c hc => (dec_byte c (decN_all n c hc).2).1
theorem status_len {n : Nat} (h1 : 100 ≤ n) (h2 : n < 600) (x : List UInt8) : (statusL n x).length = 13 + x.length := by
  unfold statusL decZ
  rw [if_neg (by omega), Int.natAbs_natCast, decN_three h1 (by omega)]
  simp only [List.length_append, List.length_cons, List.length_nil]
  omega
theorem status_bare {n : Nat} {x : List UInt8} (hx : x.all plainB = true) : bare (statusL n x) := by
  intro c hc
  refine plain_not c ?_
  unfold statusL decZ at hc
  rw [if_neg (by omega), Int.natAbs_natCast] at hc
  rcases List.mem_append.1 hc with q | q
  · exact List.all_eq_true.1 (show ([72, 84, 84, 80, 47, 49, 46, 49, 32] : List UInt8).all plainB = true by decide) c q
  rcases List.mem_append.1 q with q | q
  · exact dec_plain n c q
  rcases List.mem_cons.1 q with q | q
  · rw [q]
    decide
  · exact List.all_eq_true.1 hx c q
theorem head_back {n : Nat} (h1 : 100 ≤ n) (h2 : n < 600) {x : List UInt8} (hx : x.all plainB = true) (hl : x.length ≤ 1000) {G : List HField} (hG : G.length ≤ 32) (hf : ∀ f ∈ G, EmitPure.Fair f) (s : List UInt8) :
    read8 true (statusL n x ++ 13 :: 10 :: (G.flatMap lineE ++ 13 :: 10 :: s)) = .done ⟨[], [], n, x, 1, G.map EmitPure.told⟩ ((statusL n x).length + 2 + (G.flatMap lineE).length + 2) := by
  have hsl := status_len h1 h2 x
  unfold read8 skipOf
  simp only [if_true, List.drop_zero]
  unfold from8
  rw [scan_line 1100 82 _ _ 0 (status_bare hx) (.inr (by omega))]
  simp only [Nat.zero_add, if_true]
  have e3 : (statusL n x ++ 13 :: 10 :: (G.flatMap lineE ++ 13 :: 10 :: s)).take (statusL n x).length = statusL n x := List.take_left
  have e4 : (statusL n x ++ 13 :: 10 :: (G.flatMap lineE ++ 13 :: 10 :: s)).drop ((statusL n x).length + 2) = G.flatMap lineE ++ 13 :: 10 :: s := by
    rw [← List.drop_drop, List.drop_left]
    rfl
  rw [e3, e4, status_back h1 h2 hx, if_pos rfl, lines_back _ s G 32 [] _ hG hf, List.nil_append]
theorem reason_plain (s : Int) : (reasonL s).all plainB = true ∧ (reasonL s).length ≤ 31 ∧ reasonL s ≠ [] := by
  have hp : ∀ p ∈ phrases, p.2.all plainB = true ∧ p.2.length ≤ 31 ∧ p.2 ≠ [] := by decide
  unfold reasonL
  cases h : phrases.find? (fun p => p.1 == s) with
  | none => decide
  | some p => exact hp p (List.mem_of_find?_eq_some h)
/-! ### fields that can be written -/
theorem fair_of {n x : List UInt8} (ht : token n = true) (hx : x.all plainB = true) (hl : n.length + x.length ≤ 510) : EmitPure.Fair (n, x) :=
  ⟨ht, by rw [value_trim']; exact hx, fun c hc => plain_not c (List.all_eq_true.1 hx c hc), hl⟩
theorem right_plain {f : HField} (h : right f = true) : token f.1 = true ∧ f.2.all plainB = true := by
  unfold right value at h
  simp only [Bool.and_eq_true] at h
  exact ⟨h.1.1, h.1.2.1⟩
theorem joined_one {l : List HField} {n s : List UInt8} (h1 : getN l n ≤ 1) (hr : ∀ f ∈ l, right f = true) (hl : ∀ f ∈ l, f.1.length + f.2.length ≤ 200) (hs : s.all plainB = true) :
    (joinV l n s).all plainB = true ∧ (joinV l n s).length ≤ 202 + s.length := by
  unfold joinV
  unfold getN at h1
  rw [List.countP_eq_length_filter] at h1
  match hq : l.filter (hit n), h1 with
  | [], _ => exact ⟨by simpa using hs, by simp⟩
  | [f], _ =>
    have hf : f ∈ l := (List.mem_filter.1 (by rw [hq]; exact List.mem_singleton.2 rfl : f ∈ l.filter (hit n))).1
    have hp := (right_plain (hr f hf)).2
    have hz := hl f hf
    simp only [List.flatMap_cons, List.flatMap_nil, List.append_nil, List.all_append, List.length_append, List.length_cons, List.length_nil, hp, hs]
    exact ⟨by decide, by omega⟩
theorem on_mem {req : Bool} {l : List HField} {f : HField} (h : f ∈ onE req l) : f ∈ l := by
  unfold onE strip at h
  exact (List.mem_filter.1 (List.mem_filter.1 h).1).1
theorem on_len (req : Bool) (l : List HField) : (onE req l).length ≤ l.length := by
  unfold onE strip
  exact Nat.le_trans (List.length_filter_le _ _) (List.length_filter_le _ _)
theorem dec_len15 {n : Nat} (h : n < 1000000000000000) : (decN n).length ≤ 15 := decN_len 14 n (by omega)
theorem reply_fair {l : List HField} (h1 : getN l VIAN ≤ 1) (hr : ∀ f ∈ l, right f = true) (hl : ∀ f ∈ l, f.1.length + f.2.length ≤ 200) {n : Nat} (hn : n < 1000000000000000) (keep : Bool) :
    ∀ f ∈ onE false l ++ ((VIAN, joinV l VIAN BARB) :: restR n keep), EmitPure.Fair f := by
  intro f hf
  obtain ⟨j1, j2⟩ := joined_one (n := VIAN) (s := BARB) h1 hr hl (by decide)
  rcases List.mem_append.1 hf with q | q
  · obtain ⟨r1, r2⟩ := right_plain (hr f (on_mem q))
    exact fair_of r1 r2 (by have := hl f (on_mem q); omega)
  rcases List.mem_cons.1 q with rfl | q
  · exact fair_of (by decide) j1 (by have e : VIAN.length = 3 := rfl; have e2 : BARB.length = 12 := rfl; rw [e]; omega)
  unfold restR at q
  rcases List.mem_cons.1 q with rfl | q
  · exact fair_of (by decide) (List.all_eq_true.2 (dec_plain n)) (by have e : CLN.length = 14 := rfl; have := dec_len15 hn; rw [e]; omega)
  · cases keep with
    | true => cases q
    | false =>
      rw [if_neg (by decide), List.mem_singleton] at q
      subst q
      exact fair_of (by decide) (by decide) (by decide)
theorem reply_count (l : List HField) (x : List UInt8) (n : Nat) (keep : Bool) (hl : l.length ≤ 20) : (onE false l ++ ((VIAN, x) :: restR n keep)).length ≤ 32 := by
  have h := on_len false l
  unfold restR
  rw [List.length_append, List.length_cons, List.length_cons]
  cases keep with
  | true => simp; omega
  | false => simp; omega
/-- a local reply, read: its head, with the status, and where it ends -/
theorem local_read {status : Nat} (s1 : 100 ≤ status) (s2 : status < 600) {l : List HField} (h20 : l.length ≤ 20) (h1 : getN l VIAN ≤ 1) (hr : ∀ f ∈ l, right f = true) (hl : ∀ f ∈ l, f.1.length + f.2.length ≤ 200) {body : List UInt8} (hn : body.length < 1000000000000000) (keep bodiless : Bool) :
    read8 true (localE status l body keep bodiless) = .done ⟨[], [], status, reasonL status, 1, (onE false l ++ ((VIAN, joinV l VIAN BARB) :: restR body.length keep)).map EmitPure.told⟩ (headE ⟨status, [], l, 2, body.length, keep, []⟩).length := by
  obtain ⟨p1, p2, _⟩ := reason_plain status
  have e : localE status l body keep bodiless = statusL status (reasonL status) ++ 13 :: 10 :: ((onE false l ++ ((VIAN, joinV l VIAN BARB) :: restR body.length keep)).flatMap lineE ++ 13 :: 10 :: (if bodiless then [] else body)) := by
    unfold localE headE
    rw [if_pos rfl, replyF_local]
    simp
  have e2 : (headE ⟨status, [], l, 2, body.length, keep, []⟩).length = (statusL status (reasonL status)).length + 2 + ((onE false l ++ ((VIAN, joinV l VIAN BARB) :: restR body.length keep)).flatMap lineE).length + 2 := by
    unfold headE
    rw [if_pos rfl, replyF_local]
    simp only [List.length_append, List.length_cons, List.length_nil]
    omega
  rw [e, e2, head_back s1 s2 p1 (by omega) (reply_count l _ _ keep h20) (reply_fair h1 hr hl hn keep)]
end Go.Proofs.YtblpooddamkfdaaGreatDoor.EmitBack

/- Layer 13: a local reply is one whole response. -/
namespace Go.Proofs.YtblpooddamkfdaaGreatDoor.EmitAnsP
open Bytes LexPure FieldsPure HeadPure FramePure EmitPure EmitBack Flds R12Box
set_option maxRecDepth 100000
theorem getN_via {l : List HField} : getN l VIAN = getN l [118, 105, 97] := by
  have e : hit VIAN = hit [118, 105, 97] := by
    funext f
    unfold hit alike
    rw [show lower VIAN = lower [118, 105, 97] from by decide]
  unfold getN
  rw [e]
theorem few_right {l : List HField} (hr : ∀ f ∈ l, right f = true) : Few l := fun j hj => by
  have h := hr _ (List.getElem_mem hj)
  unfold right at h
  simp only [Bool.and_eq_true, decide_eq_true_eq] at h
  omega
section
variable {s : Int} {l : List HField} {body : List UInt8}
theorem local_size (s1 : 200 ≤ s) (s2 : s ≤ 599) (h20 : l.length ≤ 20) (hr : ∀ f ∈ l, right f = true) (hb : body.length ≤ 5000) (keep bodiless : Bool) : (localE s l body keep bodiless).length ≤ 70368744177664 := by
  have h := PEmLocal.head_len (r := ⟨s, [], l, 2, (body.length : Int), keep, []⟩) ⟨few_right hr, Nat.le_trans h20 (by decide), Nat.zero_le _, Nat.zero_le _, by dsimp only; omega, by dsimp only; omega, by dsimp only; omega, by dsimp only; omega⟩
  unfold localE
  rw [List.length_append]
  cases bodiless <;> simp <;> omega
theorem whole_get (s1 : 200 ≤ s) (s2 : s ≤ 599) (s3 : ¬ s = 204) (s4 : ¬ s = 304) (h20 : l.length ≤ 20) (h1 : getN l [118, 105, 97] ≤ 1) (hr : ∀ f ∈ l, right f = true) (hl : ∀ f ∈ l, f.1.length + f.2.length ≤ 200) (hb : body.length ≤ 5000) (keep : Bool) :
    ∃ h n0, Whole12 ⟨#[71, 69, 84]⟩ (ofL (localE s l body keep false)) h n0 2 body.length body ∧ h.status = s ∧ keep9 h.minor h.fields = keep := by
  obtain ⟨n, rfl⟩ : ∃ n : Nat, s = n := ⟨s.toNat, by omega⟩
  have hv : getN l VIAN ≤ 1 := by rw [getN_via]; exact h1
  have hrd := local_read (status := n) (by omega) (by omega) h20 hv hr hl (body := body) (by omega) keep false
  obtain ⟨_, _, _, hk⟩ := reply_frame l (joinV l VIAN BARB) (n := body.length) (by omega) keep
  have hrs := (reply_response l (joinV l VIAN BARB) (n := body.length) (by omega) keep (status := (n : Int)) s1 s3 s4).1
  have hon := on_len false l
  refine ⟨_, _, ⟨by rw [toL_ofL]; exact hrd, ?_, hrs, .inl ⟨rfl, rfl⟩, s1, (OutFew.resp_few hrd).2.2, ?_, ⟨headE ⟨n, [], l, 2, body.length, keep, []⟩, by rw [toL_ofL]; rfl, rfl⟩, by rw [ofL_size]; exact local_size s1 s2 h20 hr hb keep false⟩, rfl, hk⟩
  · unfold headE statusL
    simp only [List.length_append, List.length_cons]
    omega
  · rw [List.length_map, List.length_append, List.length_cons]
    have : (restR body.length keep).length ≤ 2 := by unfold restR; cases keep <;> simp
    omega
theorem whole_head (s1 : 200 ≤ s) (s2 : s ≤ 599) (s3 : ¬ s = 204) (s4 : ¬ s = 304) (h20 : l.length ≤ 20) (h1 : getN l [118, 105, 97] ≤ 1) (hr : ∀ f ∈ l, right f = true) (hl : ∀ f ∈ l, f.1.length + f.2.length ≤ 200) (hb : body.length ≤ 5000) (keep : Bool) :
    ∃ h n0, Whole12 ⟨#[72, 69, 65, 68]⟩ (ofL (localE s l body keep true)) h n0 1 0 [] ∧ h.status = s ∧ keep9 h.minor h.fields = keep := by
  obtain ⟨n, rfl⟩ : ∃ n : Nat, s = n := ⟨s.toNat, by omega⟩
  have hv : getN l VIAN ≤ 1 := by rw [getN_via]; exact h1
  have hrd := local_read (status := n) (by omega) (by omega) h20 hv hr hl (body := body) (by omega) keep true
  obtain ⟨_, _, _, hk⟩ := reply_frame l (joinV l VIAN BARB) (n := body.length) (by omega) keep
  have hrs := (reply_response l (joinV l VIAN BARB) (n := body.length) (by omega) keep (status := (n : Int)) s1 s3 s4).2
  have hon := on_len false l
  refine ⟨_, _, ⟨by rw [toL_ofL]; exact hrd, ?_, hrs, .inr ⟨rfl, rfl⟩, s1, (OutFew.resp_few hrd).2.2, ?_, ⟨headE ⟨n, [], l, 2, body.length, keep, []⟩, by rw [toL_ofL]; rfl, rfl⟩, by rw [ofL_size]; exact local_size s1 s2 h20 hr hb keep true⟩, rfl, hk⟩
  · unfold headE statusL
    simp only [List.length_append, List.length_cons]
    omega
  · rw [List.length_map, List.length_append, List.length_cons]
    have : (restR body.length keep).length ≤ 2 := by unfold restR; cases keep <;> simp
    omega
end
end Go.Proofs.YtblpooddamkfdaaGreatDoor.EmitAnsP

/- The document's layer 12, where the whole of a good response has come: heads. -/
namespace Go.Proofs.YtblpooddamkfdaaGreatDoor.R12Heads
open Go.ChangeShapes Go.WideShapes Go.ChangeAt Go.RowKit Bytes LexPure FieldsPure HeadPure FramePure Flds HBox Mem KeptRow R12Box
set_option maxRecDepth 100000
set_option linter.unusedVariables false
set_option linter.unusedSimpArgs false
/-- the reader beside the head's box -/
structure Two (w : World) (g gr gb : Nat) (cs zs : Array Value) (h : H8) (v : Value) (wr : World) : Prop where
  rd : Has wr g RT cs
  rs : Has wr gr HT zs
  bx : HBox wr gb h v
  row : wr.ownsRow (w.heap.size + 1) 36 2 v h.fields.length (encFs h.fields)
  lt : gb < wr.heap.size
  below : Below w.heap.size w wr
theorem Two.call {w : World} {g gr gb : Nat} {cs zs : Array Value} {h : H8} {v : Value} {wr w1 : World} (x : Two w g gr gb cs zs h v wr) (hb : Below wr.heap.size wr w1) : Two w g gr gb cs zs h v w1 :=
  ⟨x.rd.below hb x.rd.lt, x.rs.below hb x.rs.lt, x.bx.below hb x.lt, row_below x.row hb, Nat.lt_of_lt_of_le x.lt hb.size, below_chain x.below hb⟩
theorem Two.drew {w : World} {g gr gb : Nat} {cs zs : Array Value} {h : H8} {v : Value} {wr : World} (x : Two w g gr gb cs zs h v wr) : Two w g gr gb cs zs h v wr.drew :=
  ⟨x.rd.drew, x.rs.drew, ⟨x.bx.has.drew⟩, x.row, x.lt, ⟨x.below.os, x.below.tape, x.below.output, x.below.size, x.below.block⟩⟩
set_option maxHeartbeats 6400000 in
theorem heads_any {m A : ByteArray} {h : H8} {n0 : Nat} {K L : Int} {b : List UInt8} (G : Whole12 m A h n0 K L b) {w : World} {g : Nat} {hd dn : Bool} {told us : Int} (hR : Has w g RT (rcs m A hd told dn us)) :
    Calls Tryz.prog 43 #[.pointer (some ⟨g, 0, none⟩)] w fun e w' => ∃ p cap, e = .returned (.tuple #[hv h (.slice p h.fields.length cap), .int .i64 n0, .int .i64 0, .int .i64 0]) ∧ FL w' (.slice p h.fields.length cap) h.fields ∧ Below w.heap.size w w' := by
  have HRd := Lib.hid (fun w' => R8Read.r8read_any A (Nat.le_trans G.size (by decide)) true w')
  rw [G.read] at HRd
  have HRs := Lib.hid (fun v w' hf => R9Resp.r9response_any m h v G.few (Nat.le_trans G.len (by decide)) w' hf)
  rw [G.resp] at HRs
  have hl5 : h.fields.length ≤ 4398046511104 := Nat.le_trans G.len (by decide)
  have hst : (200 : Int) ≤ h.status := G.status
  have hn0 : ((n0 : Int) == 0) = false := by have := G.pos; simp; omega
  have hns : (n0 : Int) ≤ 70368744177664 := by have := G.bytes; have := G.size; omega
  have hx0 : A.extract 0 A.size = A := by simp
  have hz : (A.size : Int) ≤ 70368744177664 := by have := G.size; omega
  obtain ⟨W1, hW1⟩ : ∃ W1, W1 = w.alloc (.cells #[.string ⟨#[]⟩, .string ⟨#[]⟩, .int .i64 0, .string ⟨#[]⟩, .int .i64 0, .slice none 0 0] HT) := ⟨_, rfl⟩
  have hb1 : Below w.heap.size w W1 := by rw [hW1]; exact (Below.refl _ w).alloc (Nat.le_refl _) _
  have hr1 : Has W1 w.heap.size HT #[.string ⟨#[]⟩, .string ⟨#[]⟩, .int .i64 0, .string ⟨#[]⟩, .int .i64 0, .slice none 0 0] := by rw [hW1]; exact Has.new w HT _
  have HR1 := Lib.hid (hR.below hb1 hR.lt)
  have HB1 := Lib.hid hb1
  have HZ1 := Lib.hid hr1
  have HW1 := Lib.hid hW1
  have HG := Lib.hid hR.lt
  clear hb1 hr1 hW1 hR
  go_enter Tryz.func43, Tryz.ntmps43
  go_wp2_with fail
  rw [← HW1.out]
  clear HW1
  go_loopw [6] (fun i wr => i = .int .i64 0 ∧ Hid (wr = W1)) (fun _ _ => 0)
  case atStart => exact ⟨rfl, Lib.hid rfl⟩
  case round =>
    obtain ⟨rfl, HE⟩ := hrel
    obtain rfl := HE.out
    clear HE
    obtain ⟨r0, r1, -⟩ := rd_cells HR1.out
    have HX := Lib.hid (HRd.out wr)
    clear HRd
    go_wp2_with fail
    refine HX.out.mono ?_
    rintro e w2 ⟨v, rfl, hrow, hb2⟩
    have hf := fl_of hrow.1 (Nat.le_trans hrow.2 (by decide))
    obtain ⟨p, cap, rfl, _, _⟩ := id hf
    dsimp only [hrv3, resH, resN, resE] at hf ⊢
    have hbs : w.heap.size + 1 ≤ wr.heap.size := HZ1.out.lt
    have hal := (Below.refl w2.heap.size w2).alloc (Nat.le_refl _) (.cells (hc h (.slice p h.fields.length cap)) HT)
    have hT : Hid (Two w g w.heap.size w2.heap.size (rcs m A hd told dn us) #[.string ⟨#[]⟩, .string ⟨#[]⟩, .int .i64 0, .string ⟨#[]⟩, .int .i64 0, .slice none 0 0] h (.slice p h.fields.length cap) (w2.alloc (.cells (hc h (.slice p h.fields.length cap)) HT))) := Lib.hid
      ⟨(HR1.out.below hb2 HR1.out.lt).alloc _, (HZ1.out.below hb2 HZ1.out.lt).alloc _, ⟨Has.new w2 _ _⟩, row_below (row_mono hrow.1 hbs) hal, by simp, below_chain (below_chain HB1.out hb2) hal⟩
    clear hal hf hrow hb2 HX r0 r1 HR1 HZ1 HB1
    unfold hc at hT
    unfold hv
    go_wp2_with fail
    generalize w2.alloc (.cells #[.string (ofL h.method), .string (ofL h.target), .int .i64 h.status, .string (ofL h.reason), .int .i64 h.minor, .slice p h.fields.length cap] HT) = W2 at hT ⊢
    generalize w2.heap.size = gb at hT ⊢
    have P1 := hT.out.drew
    have c1 := And.intro (rd_cells P1.rd).1 P1.bx.cells
    have HU := Lib.hid (fun w' hf => HRs.out (.slice p h.fields.length cap) w' hf)
    unfold hv at HU
    clear hT HRs
    go_region_held3 (fun w' => w'.cell? ⟨g, 0, none⟩ = some (.string m) ∧ w'.cell? ⟨gb, 0, none⟩ = some (.string (ofL h.method)) ∧ w'.cell? ⟨gb, 1, none⟩ = some (.string (ofL h.target)) ∧ w'.cell? ⟨gb, 2, none⟩ = some (.int .i64 h.status) ∧ w'.cell? ⟨gb, 3, none⟩ = some (.string (ofL h.reason)) ∧ w'.cell? ⟨gb, 4, none⟩ = some (.int .i64 h.minor) ∧ w'.cell? ⟨gb, 5, none⟩ = some (.slice p h.fields.length cap)) (first | exact c2 | exact c1)
      (first
        | (go_at_call 44; refine (HU.out _ (fl_of P1.row hl5)).mono ?_; rintro e w3 ⟨rfl, hb3⟩; dsimp only [R9Req.trip]
           have P2 := P1.call hb3
           have c2 := And.intro (rd_cells P2.rd).1 P2.bx.cells
           clear hb3 HU))
    obtain ⟨_, k0, k1, k2, k3, k4, k5⟩ := c2
    have hat := P2.rs.at_
    have HP := Lib.hid P2
    clear P1 P2 c1
    go_wp2_with (refine wpList_store_row rfl HT _ _ rfl w.heap.size (hc h (.slice p h.fields.length cap)) rfl rfl HT _ hat (by kernel_rfl) rfl (by simp [hc, Value.oneCell']) ?_)
    have HF : Hid (FL (w3.setRow w.heap.size (hc h (.slice p h.fields.length cap))) (.slice p h.fields.length cap) h.fields ∧ Below w.heap.size w (w3.setRow w.heap.size (hc h (.slice p h.fields.length cap)))) := Lib.hid
      ⟨fl_of (row_setRow HP.out.row (Nat.lt_succ_self _) _) hl5, below_setRow HP.out.below (Nat.le_refl _) _⟩
    have hld : (loadVar HT ⟨w.heap.size, 0, none⟩).run Tryz.prog (w3.setRow w.heap.size (hc h (.slice p h.fields.length cap))) = .ok (hv h (.slice p h.fields.length cap)) (w3.setRow w.heap.size (hc h (.slice p h.fields.length cap))) :=
      hload ⟨has_setRow ⟨hat⟩ _⟩
    refine bodyPost_ret (v := .tuple #[hv h (.slice p h.fields.length cap), .int .i64 n0, .int .i64 0, .int .i64 0]) ?_ rfl ⟨p, cap, rfl, HF.out⟩
    rw [results_cell_tmp3 rfl]
    simp [asAddr, Result.andThen, hld]
end Go.Proofs.YtblpooddamkfdaaGreatDoor.R12Heads

/- The document's layer 12, where the whole of a good response has come: body. -/
namespace Go.Proofs.YtblpooddamkfdaaGreatDoor.R12Body
open Go.ChangeShapes Go.WideShapes Go.ChangeAt Go.RowKit Bytes LexPure FieldsPure HeadPure FramePure Flds HBox Mem KeptRow R12Box
set_option maxRecDepth 100000
set_option linter.unusedVariables false
set_option linter.unusedSimpArgs false
theorem results_tmp4 {fn : Func} {t u v x : Tmp} (h : fn.results = #[.tmp t, .tmp u, .tmp v, .tmp x]) (tmps : Array Value) (P : Program) (w : World) :
    (results fn tmps).run P w = .ok (.tuple #[tmps.getD t undef, tmps.getD u undef, tmps.getD v undef, tmps.getD x undef]) w := by
  simp [results, h]
set_option maxHeartbeats 1600000 in
theorem body_any {m A : ByteArray} {h : H8} {n0 : Nat} {K L : Int} {b : List UInt8} (G : Whole12 m A h n0 K L b) (g : Nat) (w : World) :
    Calls Tryz.prog 66 #[.pointer (some ⟨g, 0, none⟩), .string (ofL b), .int .i64 K, .int .i64 L] w fun e w' => e = .returned (.tuple #[.string (ofL b), .bool true, .int .i64 b.length, .int .i64 0]) ∧ w' = w := by
  have hb := G.bytes
  have hs := G.size
  rcases G.kind with ⟨rfl, rfl⟩ | ⟨rfl, rfl⟩
  · have z1 : (ofL b).size = b.length := ofL_size b
    have hx : (ofL b).extract 0 b.length = ofL b := by rw [← z1]; simp
    have hle : (b.length : Int) ≤ 70368744177664 := by omega
    have hn : (0 : Int) ≤ (b.length : Int) := by omega
    clear hb hs G
    generalize ofL b = B at *
    generalize b.length = n at *
    subst z1
    go_enter Tryz.func66, Tryz.ntmps66
    go_wp2_with fail
    refine bodyPost_ret (results_tmp4 rfl _ _ _) rfl ?_
    exact ⟨rfl, rfl⟩
  · clear hb hs G
    go_enter Tryz.func66, Tryz.ntmps66
    go_wp2_with fail
    refine bodyPost_ret (results_tmp4 rfl _ _ _) rfl ?_
    exact ⟨rfl, rfl⟩
end Go.Proofs.YtblpooddamkfdaaGreatDoor.R12Body
