/- Texts of this seat, one behind another: OutSay, OutSpc, OutEnd, BulkOf, SArg, OutflowPiecesW. -/
import Derived.Test.YtggmafmebocoaaaGreatDoorRows
import Derived.Deep.Slices
import Derived.Test.YtggmafmebocoaaaGreatDoorA1
import Derived.Test.YtggmafmebocoaaaGreatDoorC1
import Derived.Test.YtggmafmebocoaaaGreatDoorB
/- Layer 12: what is told of a response's bytes, however they come in pieces. No program is named. -/
namespace Go.Proofs.YtggmafmebocoaaaGreatDoor.OutSay
open Bytes LexPure LexNum FieldsPure HeadPure FramePure ChunkPure OutPure
set_option maxRecDepth 20000
set_option linter.unusedVariables false
set_option linter.unusedSimpArgs false
section
variable (meth : List UInt8) (x : List UInt8) (go : Bool) (kd : Int) (kp : Bool)
theorem next_nothing : nextO meth ⟨.nothing, x, go, kd, kp⟩ = (.none, 0, ⟨.nothing, x, go, kd, kp⟩) := by
  unfold nextO errO stepO
  simp [isN, doneM]
theorem next_bad (e : Int) (he : e ≠ 0) : nextO meth ⟨.bad e, x, go, kd, kp⟩ = (.none, e, ⟨.bad e, x, go, kd, kp⟩) := by
  unfold nextO errO stepO
  simp [he]
theorem next_fin : nextO meth ⟨.fin, x, go, kd, kp⟩ = (.fin, 0, ⟨.nothing, x, go, kd, kp⟩) := by
  unfold nextO errO stepO
  simp [isN, doneM]
theorem next_len0 : nextO meth ⟨.len 0, x, go, kd, kp⟩ = (.fin, 0, ⟨.nothing, x, go, kd, kp⟩) := by
  unfold nextO errO stepO
  simp [isN, doneM]
theorem next_lenN (l : Nat) (hl : l ≠ 0) : nextO meth ⟨.len l, [], false, kd, kp⟩ = (.none, 0, ⟨.len l, [], false, kd, kp⟩) := by
  unfold nextO errO stepO
  simp [isN, doneM, hl, tell]
theorem next_lenD (l : Nat) (hl : l ≠ 0) (hx : x ≠ []) : nextO meth ⟨.len l, x, false, kd, kp⟩ = (.data (x.take l), 0, ⟨.len (l - min l x.length), x.drop (min l x.length), false, kd, kp⟩) := by
  have ht : x.take l ≠ [] := by
    intro h
    rcases List.take_eq_nil_iff.1 h with h | h
    · exact hl h
    · exact hx h
  unfold nextO errO stepO
  simp [isN, doneM, hl, tell, ht]
theorem next_lenE (l : Nat) (hl : l ≠ 0) : nextO meth ⟨.len l, [], true, kd, kp⟩ = (.none, 121, ⟨.bad 121, [], true, kd, kp⟩) := by
  unfold nextO errO stepO
  simp [isN, doneM, hl, tell]
theorem next_allN : nextO meth ⟨.all, [], false, kd, kp⟩ = (.none, 0, ⟨.all, [], false, kd, kp⟩) := by
  unfold nextO errO stepO
  simp [isN, doneM, tell]
theorem next_allD (hx : x ≠ []) : nextO meth ⟨.all, x, false, kd, kp⟩ = (.data x, 0, ⟨.all, [], false, kd, kp⟩) := by
  unfold nextO errO stepO
  simp [isN, doneM, tell, hx]
theorem next_allE : nextO meth ⟨.all, [], true, kd, kp⟩ = (.fin, 0, ⟨.nothing, [], true, kd, kp⟩) := by
  unfold nextO errO stepO
  simp [isN, doneM, tell]
/-- what a decoder comes to -/
theorem next_chB (m : M) (e : Int) (he : e ≠ 0) (h : (run m x).1.ph = .bad e) : nextO meth ⟨.chunks m, x, go, kd, kp⟩ = (.none, e, ⟨.bad e, x, go, kd, kp⟩) := by
  have ha : ans m x = ([], 0, false, e) := by unfold ans; rw [h]
  unfold nextO errO stepO
  simp [ha, he, isN, doneM]
theorem next_chW (m : M) (h : (run m x).1.ph = .done) (hb : (run m x).2.1 = []) : nextO meth ⟨.chunks m, x, go, kd, kp⟩ = (.fin, 0, ⟨.nothing, x.drop (run m x).2.2, go, kd, kp⟩) := by
  have ha : ans m x = ([], (run m x).2.2, true, 0) := by unfold ans; rw [h, hb]
  unfold nextO errO stepO
  simp [ha, isN, doneM]
theorem next_chD (m : M) (h : good (run m x).1 = true) (hb : (run m x).2.1 ≠ []) : nextO meth ⟨.chunks m, x, go, kd, kp⟩ = (.data (run m x).2.1, 0, ⟨.chunks (run m x).1, x.drop (run m x).2.2, go, kd, kp⟩) := by
  have ha := ans_good h
  unfold nextO errO stepO
  simp [ha, isN, doneM, tell, hb, next]
theorem next_chN (m : M) (h : stop (run m x).1 = false) (hb : (run m x).2.1 = []) : nextO meth ⟨.chunks m, x, false, kd, kp⟩ = (.none, 0, ⟨.chunks (run m x).1, [], false, kd, kp⟩) := by
  have hg : good (run m x).1 = true ∧ whole (run m x).1 = false := by
    rw [stop_say] at h
    cases h1 : good (run m x).1
    · rw [h1] at h; cases h
    · cases h2 : whole (run m x).1
      · exact ⟨rfl, rfl⟩
      · rw [h1, h2] at h; cases h
  have ha := ans_good hg.1
  have hu := (run_used m x).2.2 h
  unfold nextO errO stepO
  simp [ha, isN, doneM, tell, hb, next, hg.2, hu]
theorem next_chE (m : M) (h : stop m = false) : nextO meth ⟨.chunks m, [], true, kd, kp⟩ = (.none, 121, ⟨.bad 121, [], true, kd, kp⟩) := by
  have hg : good m = true ∧ whole m = false := by
    rw [stop_say] at h
    cases h1 : good m
    · rw [h1] at h; cases h
    · cases h2 : whole m
      · exact ⟨rfl, rfl⟩
      · rw [h1, h2] at h; cases h
  have ha : ans m [] = ([], 0, false, 0) := by
    have := ans_good (m := m) (l := []) (by show good m = true; exact hg.1)
    rw [this]
    show ([], 0, whole m, (0 : Int)) = _
    rw [hg.2]
  unfold nextO errO stepO
  simp [ha, isN, doneM, tell, next]
end
/-! ### drained -/
theorem drain_succ (meth : List UInt8) (k : Nat) (s : St) (c : Int) (b : List UInt8) : drainO meth (k + 1) s c b = match nextO meth s with
    | (.none, e, s') => (s', c, b, e)
    | (.head h, _, s') => drainO meth k s' h.status b
    | (.data d, _, s') => drainO meth k s' c (b ++ d)
    | (.fin, _, s') => drainO meth k s' c b := rfl
section
variable (meth : List UInt8) (x : List UInt8) (go : Bool) (kd : Int) (kp : Bool) (k : Nat) (c : Int) (b : List UInt8)
theorem drain_nothing : drainO meth (k + 1) ⟨.nothing, x, go, kd, kp⟩ c b = (⟨.nothing, x, go, kd, kp⟩, c, b, 0) := by rw [drain_succ, next_nothing]
theorem drain_bad (e : Int) (he : e ≠ 0) : drainO meth (k + 1) ⟨.bad e, x, go, kd, kp⟩ c b = (⟨.bad e, x, go, kd, kp⟩, c, b, e) := by rw [drain_succ, next_bad meth x go kd kp e he]
theorem drain_fin : drainO meth (k + 2) ⟨.fin, x, go, kd, kp⟩ c b = (⟨.nothing, x, go, kd, kp⟩, c, b, 0) := by rw [drain_succ, next_fin]; exact drain_nothing _ _ _ _ _ _ _ _
theorem drain_len (l : Nat) : ∃ y, drainO meth (k + 3) ⟨.len l, x, false, kd, kp⟩ c b = (if x.length < l then (⟨.len (l - x.length), [], false, kd, kp⟩, c, b ++ x, 0) else (⟨.nothing, y, false, kd, kp⟩, c, b ++ x.take l, 0)) := by
  by_cases hl : l = 0
  · subst hl
    refine ⟨x, ?_⟩
    rw [drain_succ, next_len0, if_neg (by omega), List.take_zero, List.append_nil]
    exact drain_nothing _ _ _ _ _ _ _ _
  · by_cases hx : x = []
    · subst hx
      refine ⟨[], ?_⟩
      rw [drain_succ, next_lenN _ _ _ _ hl, if_pos (by simp; omega), List.append_nil]
      rfl
    · rcases Nat.lt_or_ge x.length l with h | h
      · refine ⟨[], ?_⟩
        rw [drain_succ, next_lenD _ _ _ _ _ hl hx, if_pos h, Nat.min_eq_right (by omega), List.drop_length, List.take_of_length_le (by omega)]
        show drainO meth (k + 2) ⟨.len (l - x.length), [], false, kd, kp⟩ c (b ++ x) = _
        rw [drain_succ, next_lenN _ _ _ _ (by omega)]
      · refine ⟨x.drop l, ?_⟩
        rw [drain_succ, next_lenD _ _ _ _ _ hl hx, if_neg (by omega), Nat.min_eq_left h, Nat.sub_self]
        show drainO meth (k + 2) ⟨.len 0, x.drop l, false, kd, kp⟩ c (b ++ x.take l) = _
        rw [drain_succ, next_len0]
        exact drain_nothing _ _ _ _ _ _ _ _
theorem drain_all : drainO meth (k + 2) ⟨.all, x, false, kd, kp⟩ c b = (⟨.all, [], false, kd, kp⟩, c, b ++ x, 0) := by
  by_cases hx : x = []
  · subst hx
    rw [drain_succ, next_allN, List.append_nil]
  · rw [drain_succ, next_allD _ _ _ _ hx]
    show drainO meth (k + 1) ⟨.all, [], false, kd, kp⟩ c (b ++ x) = _
    rw [drain_succ, next_allN]
theorem run_nil (m : M) : run m [] = (m, [], 0) := rfl
theorem run_done {m : M} {y : List UInt8} (h : m.ph = .done) : run m y = (m, [], 0) := run_stop (by unfold stop; rw [h]) y
theorem drain_chunks (m : M) (ht : ChunkPure.Told m) : ∃ b' y, (∀ e, (run m x).1.ph = .bad e → drainO meth (k + 3) ⟨.chunks m, x, false, kd, kp⟩ c b = (⟨.bad e, y, false, kd, kp⟩, c, b', e)) ∧
    ((run m x).1.ph = .done → drainO meth (k + 3) ⟨.chunks m, x, false, kd, kp⟩ c b = (⟨.nothing, y, false, kd, kp⟩, c, b ++ (run m x).2.1, 0)) ∧
    (stop (run m x).1 = false → drainO meth (k + 3) ⟨.chunks m, x, false, kd, kp⟩ c b = (⟨.chunks (run m x).1, [], false, kd, kp⟩, c, b ++ (run m x).2.1, 0)) := by
  cases hs : stop (run m x).1 with
  | false =>
    refine ⟨b, x, fun e he => ?_, fun he => ?_, fun _ => ?_⟩
    · unfold stop at hs; rw [he] at hs; cases hs
    · unfold stop at hs; rw [he] at hs; cases hs
    · by_cases hb : (run m x).2.1 = []
      · rw [drain_succ, next_chN _ _ _ _ _ hs hb, hb, List.append_nil]
      · have hg : good (run m x).1 = true := by
          rw [stop_say] at hs
          cases h1 : good (run m x).1
          · rw [h1] at hs; cases hs
          · rfl
        rw [drain_succ, next_chD _ _ _ _ _ _ hg hb, (run_used m x).2.2 hs, List.drop_length]
        show drainO meth (k + 2) ⟨.chunks (run m x).1, [], false, kd, kp⟩ c (b ++ (run m x).2.1) = _
        rw [drain_succ, next_chN _ _ _ _ _ (by rw [run_nil]; exact hs) (by rw [run_nil]), run_nil]
  | true =>
    cases hp : (run m x).1.ph with
    | bad e =>
      have he := (ht.run x) e hp
      refine ⟨b, x, fun e' he' => ?_, fun he' => (by cases he'), fun h => (by cases h)⟩
      injection he' with he'
      subst he'
      rw [drain_succ, next_chB _ _ _ _ _ _ _ (by omega) hp]
    | done =>
      by_cases hb : (run m x).2.1 = []
      · refine ⟨b, x.drop (run m x).2.2, fun e' he' => (by cases he'), fun _ => ?_, fun h => (by cases h)⟩
        rw [drain_succ, next_chW _ _ _ _ _ _ hp hb, hb, List.append_nil]
        exact drain_nothing _ _ _ _ _ _ _ _
      · have hg : good (run m x).1 = true := by unfold good; rw [hp]
        refine ⟨b, (x.drop (run m x).2.2).drop 0, fun e' he' => (by cases he'), fun _ => ?_, fun h => (by cases h)⟩
        rw [drain_succ, next_chD _ _ _ _ _ _ hg hb]
        show drainO meth (k + 2) ⟨.chunks (run m x).1, x.drop (run m x).2.2, false, kd, kp⟩ c (b ++ (run m x).2.1) = _
        rw [drain_succ, next_chW _ _ _ _ _ _ (by rw [run_done hp]; exact hp) (by rw [run_done hp]), run_done hp]
        exact drain_nothing _ _ _ _ _ _ _ _
    | size => unfold stop at hs; rw [hp] at hs; cases hs
    | data n => unfold stop at hs; rw [hp] at hs; cases hs
    | after => unfold stop at hs; rw [hp] at hs; cases hs
    | trail n => unfold stop at hs; rw [hp] at hs; cases hs
end
end Go.Proofs.YtggmafmebocoaaaGreatDoor.OutSay

/- Layer 12: what the pieces together say. No program is named. -/
namespace Go.Proofs.YtggmafmebocoaaaGreatDoor.OutSpc
open Bytes LexPure LexNum FieldsPure HeadPure FramePure ChunkPure OutPure OutSay
set_option maxRecDepth 20000
set_option linter.unusedVariables false
set_option linter.unusedSimpArgs false
/-- of the bytes B of a body, framed by f -/
structure BodyS (f : Int × Int × Int) (B : List UInt8) (q : Sum) : Prop where
  less : f.1 = 2 → B.length < f.2.1.toNat → q.1.md = .len (f.2.1.toNat - B.length) ∧ q.1.data = [] ∧ q.2.2.1 = B ∧ q.2.2.2 = 0
  full : f.1 = 2 → ¬ B.length < f.2.1.toNat → q.1.md = .nothing ∧ q.2.2.1 = B.take f.2.1.toNat ∧ q.2.2.2 = 0
  bad : f.1 = 3 → ∀ e, (run (begin_ MT) B).1.ph = .bad e → q.1.md = .bad e ∧ q.2.2.2 = e
  whole : f.1 = 3 → (run (begin_ MT) B).1.ph = .done → q.1.md = .nothing ∧ q.2.2.1 = (run (begin_ MT) B).2.1 ∧ q.2.2.2 = 0
  more : f.1 = 3 → stop (run (begin_ MT) B).1 = false → q.1.md = .chunks (run (begin_ MT) B).1 ∧ q.1.data = [] ∧ q.2.2.1 = (run (begin_ MT) B).2.1 ∧ q.2.2.2 = 0
  all : f.1 = 4 → q.1.md = .all ∧ q.1.data = [] ∧ q.2.2.1 = B ∧ q.2.2.2 = 0
  none : f.1 ≠ 2 → f.1 ≠ 3 → f.1 ≠ 4 → q.1.md = .nothing ∧ q.2.2.1 = [] ∧ q.2.2.2 = 0
theorem stop_cases (m : M) : (∃ e, m.ph = .bad e) ∨ m.ph = .done ∨ stop m = false := by
  unfold stop
  cases h : m.ph with
  | bad e => exact .inl ⟨e, rfl⟩
  | done => exact .inr (.inl rfl)
  | size => exact .inr (.inr rfl)
  | data n => exact .inr (.inr rfl)
  | after => exact .inr (.inr rfl)
  | trail n => exact .inr (.inr rfl)
theorem told_run (B : List UInt8) : ChunkPure.Told (run (begin_ MT) B).1 := (ChunkPure.Told.start MT).run B
/-- the body's first bytes -/
theorem body_open (meth : List UInt8) (f : Int × Int × Int) (B : List UInt8) (kd : Int) (kp : Bool) (c : Int) (k : Nat) : BodyS f B (drainO meth (k + 3) ⟨openM f, B, false, kd, kp⟩ c []) ∧ (drainO meth (k + 3) ⟨openM f, B, false, kd, kp⟩ c []).2.1 = c ∧ (drainO meth (k + 3) ⟨openM f, B, false, kd, kp⟩ c []).1.gone = false := by
  by_cases h2 : f.1 = 2
  · have ho : openM f = .len f.2.1.toNat := by unfold openM; rw [if_pos h2]
    obtain ⟨y, hd⟩ := drain_len meth B kd kp k c [] f.2.1.toNat
    rw [ho, hd]
    by_cases hl : B.length < f.2.1.toNat
    · rw [if_pos hl]
      exact ⟨⟨fun _ _ => ⟨rfl, rfl, rfl, rfl⟩, fun _ h => absurd hl h, fun h => by omega, fun h => by omega, fun h => by omega, fun h => by omega, fun h => absurd h2 h⟩, rfl, rfl⟩
    · rw [if_neg hl]
      exact ⟨⟨fun _ h => absurd h hl, fun _ _ => ⟨rfl, rfl, rfl⟩, fun h => by omega, fun h => by omega, fun h => by omega, fun h => by omega, fun h => absurd h2 h⟩, rfl, rfl⟩
  by_cases h3 : f.1 = 3
  · have ho : openM f = .chunks (begin_ MT) := by unfold openM; rw [if_neg h2, if_pos h3]
    rw [ho]
    obtain ⟨b', y, d1, d2, d3⟩ := drain_chunks meth B kd kp k c [] (begin_ MT) (ChunkPure.Told.start MT)
    rcases stop_cases (run (begin_ MT) B).1 with ⟨e, hp⟩ | hp | hp
    · rw [d1 e hp]
      exact ⟨⟨fun h => absurd h h2, fun h => absurd h h2, fun _ e' he' => (by rw [hp] at he'; injection he' with he'; subst he'; exact ⟨rfl, rfl⟩), fun _ h => (by rw [hp] at h; cases h), fun _ h => (by unfold stop at h; rw [hp] at h; cases h), fun h => by omega, fun _ h => absurd h3 h⟩, rfl, rfl⟩
    · rw [d2 hp]
      exact ⟨⟨fun h => absurd h h2, fun h => absurd h h2, fun _ e' he' => (by rw [hp] at he'; cases he'), fun _ _ => ⟨rfl, rfl, rfl⟩, fun _ h => (by unfold stop at h; rw [hp] at h; cases h), fun h => by omega, fun _ h => absurd h3 h⟩, rfl, rfl⟩
    · rw [d3 hp]
      exact ⟨⟨fun h => absurd h h2, fun h => absurd h h2, fun _ e' he' => (by unfold stop at hp; rw [he'] at hp; cases hp), fun _ h => (by unfold stop at hp; rw [h] at hp; cases hp), fun _ _ => ⟨rfl, rfl, rfl, rfl⟩, fun h => by omega, fun _ h => absurd h3 h⟩, rfl, rfl⟩
  by_cases h4 : f.1 = 4
  · have ho : openM f = .all := by unfold openM; rw [if_neg h2, if_neg h3, if_pos h4]
    rw [ho, drain_all meth B kd kp (k + 1) c []]
    exact ⟨⟨fun h => absurd h h2, fun h => absurd h h2, fun h => absurd h h3, fun h => absurd h h3, fun h => absurd h h3, fun _ => ⟨rfl, rfl, rfl, rfl⟩, fun _ _ h => absurd h4 h⟩, rfl, rfl⟩
  · have ho : openM f = .fin := by unfold openM; rw [if_neg h2, if_neg h3, if_neg h4]
    rw [ho, drain_fin meth B false kd kp (k + 1) c []]
    exact ⟨⟨fun h => absurd h h2, fun h => absurd h h2, fun h => absurd h h3, fun h => absurd h h3, fun h => absurd h h3, fun h => absurd h h4, fun _ _ _ => ⟨rfl, rfl, rfl⟩⟩, rfl, rfl⟩
theorem run_next (B x : List UInt8) : (run (begin_ MT) (B ++ x)).1 = (run (run (begin_ MT) B).1 x).1 ∧ (run (begin_ MT) (B ++ x)).2.1 = (run (begin_ MT) B).2.1 ++ (run (run (begin_ MT) B).1 x).2.1 := by
  rw [run_append]
  exact ⟨rfl, rfl⟩
/-- more of its bytes -/
theorem body_more (meth : List UInt8) (f : Int × Int × Int) (B x : List UInt8) (q : Sum) (hb : BodyS f B q) (hg : q.1.gone = false) : BodyS f (B ++ x) (turn meth q x) ∧ (turn meth q x).2.1 = q.2.1 ∧ (turn meth q x).1.gone = false := by
  obtain ⟨⟨md, data, gone, kd, kp⟩, c, b, e⟩ := q
  dsimp only at hg
  subst hg
  have ht : turn meth (⟨md, data, false, kd, kp⟩, c, b, e) x = drainO meth 4 ⟨md, data ++ x, false, kd, kp⟩ c b := rfl
  rw [ht]
  clear ht
  by_cases h2 : f.1 = 2
  · by_cases hl : B.length < f.2.1.toNat
    · obtain ⟨e1, e2, e3, e4⟩ := hb.less h2 hl
      dsimp only at e1 e2 e3 e4
      subst e1 e2 e3
      rw [List.nil_append]
      obtain ⟨y, hd⟩ := drain_len meth x kd kp 1 c b (f.2.1.toNat - b.length)
      rw [hd]
      by_cases hl2 : x.length < f.2.1.toNat - b.length
      · rw [if_pos hl2]
        exact ⟨⟨fun _ _ => ⟨by rw [List.length_append, Nat.sub_sub], rfl, rfl, rfl⟩, fun _ h => absurd (by rw [List.length_append]; omega) h, fun h => by omega, fun h => by omega, fun h => by omega, fun h => by omega, fun h => absurd h2 h⟩, rfl, rfl⟩
      · rw [if_neg hl2]
        exact ⟨⟨fun _ h => absurd h (by rw [List.length_append]; omega), fun _ _ => ⟨rfl, by rw [List.take_append, List.take_of_length_le (Nat.le_of_lt hl)], rfl⟩, fun h => by omega, fun h => by omega, fun h => by omega, fun h => by omega, fun h => absurd h2 h⟩, rfl, rfl⟩
    · obtain ⟨e1, e2, e3⟩ := hb.full h2 hl
      dsimp only at e1 e2 e3
      subst e1 e2 e3
      rw [drain_nothing]
      exact ⟨⟨fun _ h => absurd h (by rw [List.length_append]; omega), fun _ _ => ⟨rfl, by rw [List.take_append_of_le_length (by omega)], rfl⟩, fun h => by omega, fun h => by omega, fun h => by omega, fun h => by omega, fun h => absurd h2 h⟩, rfl, rfl⟩
  by_cases h3 : f.1 = 3
  · obtain ⟨r1, r2⟩ := run_next B x
    rcases stop_cases (run (begin_ MT) B).1 with ⟨e', hp⟩ | hp | hp
    · obtain ⟨e1, e2⟩ := hb.bad h3 e' hp
      dsimp only at e1 e2
      subst e1 e2
      have he := told_run B e hp
      have hs : (run (run (begin_ MT) B).1 x).1 = (run (begin_ MT) B).1 := by rw [run_stop (by unfold stop; rw [hp])]
      rw [drain_bad meth _ false kd kp 3 c b e (by omega)]
      exact ⟨⟨fun h => absurd h h2, fun h => absurd h h2, fun _ e' he' => (by rw [r1, hs, hp] at he'; injection he' with he'; subst he'; exact ⟨rfl, rfl⟩), fun _ h => (by rw [r1, hs, hp] at h; cases h), fun _ h => (by rw [r1, hs] at h; unfold stop at h; rw [hp] at h; cases h), fun h => by omega, fun _ h => absurd h3 h⟩, rfl, rfl⟩
    · obtain ⟨e1, e2, e3⟩ := hb.whole h3 hp
      dsimp only at e1 e2 e3
      subst e1 e2 e3
      have hs : run (run (begin_ MT) B).1 x = ((run (begin_ MT) B).1, [], 0) := run_stop (by unfold stop; rw [hp]) x
      rw [drain_nothing]
      exact ⟨⟨fun h => absurd h h2, fun h => absurd h h2, fun _ e' he' => (by rw [r1, hs, hp] at he'; cases he'), fun _ _ => ⟨rfl, by rw [r2, hs, List.append_nil], rfl⟩, fun _ h => (by rw [r1, hs] at h; unfold stop at h; rw [hp] at h; cases h), fun h => by omega, fun _ h => absurd h3 h⟩, rfl, rfl⟩
    · obtain ⟨e1, e2, e3, e4⟩ := hb.more h3 hp
      dsimp only at e1 e2 e3 e4
      subst e1 e2 e3 e4
      rw [List.nil_append]
      obtain ⟨b', y, d1, d2, d3⟩ := drain_chunks meth x kd kp 1 c (run (begin_ MT) B).2.1 (run (begin_ MT) B).1 (told_run B)
      rcases stop_cases (run (run (begin_ MT) B).1 x).1 with ⟨e, hq⟩ | hq | hq
      · rw [d1 e hq]
        exact ⟨⟨fun h => absurd h h2, fun h => absurd h h2, fun _ e' he' => (by rw [r1, hq] at he'; injection he' with he'; subst he'; exact ⟨rfl, rfl⟩), fun _ h => (by rw [r1, hq] at h; cases h), fun _ h => (by rw [r1] at h; unfold stop at h; rw [hq] at h; cases h), fun h => by omega, fun _ h => absurd h3 h⟩, rfl, rfl⟩
      · rw [d2 hq]
        exact ⟨⟨fun h => absurd h h2, fun h => absurd h h2, fun _ e' he' => (by rw [r1, hq] at he'; cases he'), fun _ _ => ⟨rfl, r2.symm, rfl⟩, fun _ h => (by rw [r1] at h; unfold stop at h; rw [hq] at h; cases h), fun h => by omega, fun _ h => absurd h3 h⟩, rfl, rfl⟩
      · rw [d3 hq]
        exact ⟨⟨fun h => absurd h h2, fun h => absurd h h2, fun _ e' he' => (by rw [r1] at he'; unfold stop at hq; rw [he'] at hq; cases hq), fun _ h => (by rw [r1] at h; unfold stop at hq; rw [h] at hq; cases hq), fun _ _ => ⟨by rw [r1], rfl, r2.symm, rfl⟩, fun h => by omega, fun _ h => absurd h3 h⟩, rfl, rfl⟩
  by_cases h4 : f.1 = 4
  · obtain ⟨e1, e2, e3, e4⟩ := hb.all h4
    dsimp only at e1 e2 e3 e4
    subst e1 e2 e3 e4
    rw [List.nil_append, drain_all meth x kd kp 2 c b]
    exact ⟨⟨fun h => absurd h h2, fun h => absurd h h2, fun h => absurd h h3, fun h => absurd h h3, fun h => absurd h h3, fun _ => ⟨rfl, rfl, rfl, rfl⟩, fun _ _ h => absurd h4 h⟩, rfl, rfl⟩
  · obtain ⟨e1, e2, e3⟩ := hb.none h2 h3 h4
    dsimp only at e1 e2 e3
    subst e1 e2 e3
    rw [drain_nothing]
    exact ⟨⟨fun h => absurd h h2, fun h => absurd h h2, fun h => absurd h h3, fun h => absurd h h3, fun h => absurd h h3, fun h => absurd h h4, fun _ _ _ => ⟨rfl, rfl, rfl⟩⟩, rfl, rfl⟩
/-! ### of all bytes -/
structure Spc (meth D : List UInt8) (q : Sum) : Prop where
  gone : q.1.gone = false
  wait : ∀ r, headsOf D = (.wait, r) → q.1.md = .head ∧ q.1.data = r ∧ q.2.1 = 0 ∧ q.2.2.1 = [] ∧ q.2.2.2 = 0
  bad : ∀ e r, headsOf D = (.bad e, r) → q.1.md = .bad e ∧ q.2.1 = 0 ∧ q.2.2.1 = [] ∧ q.2.2.2 = e
  no : ∀ h n r, headsOf D = (.done h n, r) → (response9 meth h.status h.minor h.fields).2.2 ≠ 0 → q.1.md = .bad (response9 meth h.status h.minor h.fields).2.2 ∧ q.2.1 = 0 ∧ q.2.2.1 = [] ∧ q.2.2.2 = (response9 meth h.status h.minor h.fields).2.2
  yes : ∀ h n r, headsOf D = (.done h n, r) → (response9 meth h.status h.minor h.fields).2.2 = 0 → q.2.1 = h.status ∧ BodyS (response9 meth h.status h.minor h.fields) (r.drop n) q
theorem next_head (meth D : List UInt8) (kd : Int) (kp : Bool) : nextO meth ⟨.head, D, false, kd, kp⟩ = match headsOf D with
    | (.wait, r) => (.none, 0, ⟨.head, r, false, kd, kp⟩)
    | (.bad e, r) => (.none, e, ⟨(if e = 0 then .head else .bad e), r, false, kd, kp⟩)
    | (.done h n, r) => if (response9 meth h.status h.minor h.fields).2.2 = 0 then (.head h, 0, ⟨openM (response9 meth h.status h.minor h.fields), r.drop n, false, (response9 meth h.status h.minor h.fields).1, keep9 h.minor h.fields⟩)
      else (.none, (response9 meth h.status h.minor h.fields).2.2, ⟨.bad (response9 meth h.status h.minor h.fields).2.2, r, false, kd, kp⟩) := by
  unfold nextO errO stepO
  dsimp only
  cases hh : headsOf D with
  | mk R r =>
    cases R with
    | wait => simp [isN, doneM]
    | bad e =>
      by_cases he : e = 0
      · simp [isN, doneM, he]
      · simp [isN, doneM, he]
    | done h n =>
      dsimp only
      by_cases he : (response9 meth h.status h.minor h.fields).2.2 = 0
      · simp [isN, doneM, he]
      · simp [isN, doneM, he]
theorem head_spc (meth D : List UInt8) (kd : Int) (kp : Bool) : Spc meth D (drainO meth 4 ⟨.head, D, false, kd, kp⟩ 0 []) := by
  have hx := (heads_is D.length D (Nat.le_refl _)).1
  have hn := next_head meth D kd kp
  rw [drain_succ]
  cases hh : headsOf D with
  | mk R r =>
    rw [hh] at hn hx
    cases R with
    | wait =>
      dsimp only at hn
      rw [hn]
      exact ⟨rfl, fun r' h => (by rw [hh] at h; injection h with _ h; exact ⟨rfl, h, rfl, rfl, rfl⟩), fun e r' h => (by rw [hh] at h; injection h with h _; cases h), fun h n r' h' => (by rw [hh] at h'; injection h' with h' _; cases h'), fun h n r' h' => (by rw [hh] at h'; injection h' with h' _; cases h')⟩
    | bad e =>
      have he := read_err true r e hx
      dsimp only at hn
      rw [if_neg he] at hn
      rw [hn]
      exact ⟨rfl, fun r' h => (by rw [hh] at h; injection h with h _; cases h), fun e' r' h => (by rw [hh] at h; injection h with h _; injection h with h; subst h; exact ⟨rfl, rfl, rfl, rfl⟩), fun h n r' h' => (by rw [hh] at h'; injection h' with h' _; cases h'), fun h n r' h' => (by rw [hh] at h'; injection h' with h' _; cases h')⟩
    | done h n =>
      dsimp only at hn
      by_cases he : (response9 meth h.status h.minor h.fields).2.2 = 0
      · rw [if_pos he] at hn
        rw [hn]
        obtain ⟨b1, b2, b3⟩ := body_open meth (response9 meth h.status h.minor h.fields) (r.drop n) (response9 meth h.status h.minor h.fields).1 (keep9 h.minor h.fields) h.status 0
        refine ⟨b3, fun r' h => (by rw [hh] at h; injection h with h _; cases h), fun e r' h => (by rw [hh] at h; injection h with h _; cases h), fun h' n' r' h'' hne => ?_, fun h' n' r' h'' _ => ?_⟩
        · rw [hh] at h''
          injection h'' with h1 _
          injection h1 with h1 _
          subst h1
          exact absurd he hne
        · rw [hh] at h''
          injection h'' with h1 h2
          injection h1 with h1 h3
          subst h1 h2 h3
          exact ⟨b2, b1⟩
      · rw [if_neg he] at hn
        rw [hn]
        refine ⟨rfl, fun r' h => (by rw [hh] at h; injection h with h _; cases h), fun e r' h => (by rw [hh] at h; injection h with h _; cases h), fun h' n' r' h'' _ => ?_, fun h' n' r' h'' hz => ?_⟩
        · rw [hh] at h''
          injection h'' with h1 _
          injection h1 with h1 _
          subst h1
          exact ⟨rfl, rfl, rfl, rfl⟩
        · rw [hh] at h''
          injection h'' with h1 _
          injection h1 with h1 _
          subst h1
          exact absurd hz he
/-- it is said of the heads alone -/
theorem Spc.of_heads {meth D D' : List UInt8} {q : Sum} (h : Spc meth D q) (he : headsOf D' = headsOf D) : Spc meth D' q :=
  ⟨h.gone, fun r x => h.wait r (by rw [← he]; exact x), fun e r x => h.bad e r (by rw [← he]; exact x), fun a b c x => h.no a b c (by rw [← he]; exact x), fun a b c x => h.yes a b c (by rw [← he]; exact x)⟩
theorem turn_spc (meth D x : List UInt8) (q : Sum) (h : Spc meth D q) : Spc meth (D ++ x) (turn meth q x) := by
  obtain ⟨a1, a2⟩ := heads_append x D.length D (Nat.le_refl _)
  have hx := (heads_is D.length D (Nat.le_refl _)).1
  cases hh : headsOf D with
  | mk R r =>
    rw [hh] at a1 a2 hx
    cases R with
    | wait =>
      obtain ⟨e1, e2, e3, e4, e5⟩ := h.wait r hh
      have hg := h.gone
      obtain ⟨⟨md, data, gone, kd, kp⟩, c, b, e⟩ := q
      dsimp only at e1 e2 e3 e4 e5 hg
      subst e1 e2 e3 e4 e5 hg
      exact (head_spc meth (data ++ x) kd kp).of_heads (a2 rfl)
    | bad e =>
      obtain ⟨e1, e2, e3, e4⟩ := h.bad e r hh
      have he := read_err true r e hx
      have hg := h.gone
      obtain ⟨⟨md, data, gone, kd, kp⟩, c, b, e'⟩ := q
      dsimp only at e1 e2 e3 e4 hg
      subst e1 e2 e3 e4 hg
      have ht : turn meth (⟨.bad e', data, false, kd, kp⟩, 0, [], e') x = drainO meth 4 ⟨.bad e', data ++ x, false, kd, kp⟩ 0 [] := rfl
      rw [ht, drain_bad meth _ false kd kp 3 0 [] e' he]
      have a3 := a1 (fun y => by cases y)
      exact ⟨rfl, fun r' y => (by rw [a3] at y; injection y with y _; cases y), fun e2 r' y => (by rw [a3] at y; injection y with y _; injection y with y; subst y; exact ⟨rfl, rfl, rfl, rfl⟩), fun _ _ r' y => (by rw [a3] at y; injection y with y _; cases y), fun _ _ r' y => (by rw [a3] at y; injection y with y _; cases y)⟩
    | done hd n =>
      have a3 := a1 (fun y => by cases y)
      have hn := (read_front true r hd n hx).1
      by_cases he : (response9 meth hd.status hd.minor hd.fields).2.2 = 0
      · obtain ⟨e1, e2⟩ := h.yes hd n r hh he
        obtain ⟨b1, b2, b3⟩ := body_more meth _ (r.drop n) x q e2 h.gone
        refine ⟨b3, fun r' y => (by rw [a3] at y; injection y with y _; cases y), fun e2 r' y => (by rw [a3] at y; injection y with y _; cases y), fun h' n' r' y hne => ?_, fun h' n' r' y _ => ?_⟩
        · rw [a3] at y
          injection y with y1 _
          injection y1 with y1 _
          subst y1
          exact absurd he hne
        · rw [a3] at y
          injection y with y1 y2
          injection y1 with y1 y3
          subst y1 y2 y3
          rw [List.drop_append_of_le_length hn]
          exact ⟨b2.trans e1, b1⟩
      · obtain ⟨e1, e2, e3, e4⟩ := h.no hd n r hh he
        have hg := h.gone
        obtain ⟨⟨md, data, gone, kd, kp⟩, c, b, e'⟩ := q
        dsimp only at e1 e2 e3 e4 hg
        subst e1 e2 e3 hg
        have ht : turn meth (⟨.bad (response9 meth hd.status hd.minor hd.fields).2.2, data, false, kd, kp⟩, 0, [], e') x = drainO meth 4 ⟨.bad (response9 meth hd.status hd.minor hd.fields).2.2, data ++ x, false, kd, kp⟩ 0 [] := rfl
        rw [ht, drain_bad meth _ false kd kp 3 0 [] _ he]
        refine ⟨rfl, fun r' y => (by rw [a3] at y; injection y with y _; cases y), fun e2 r' y => (by rw [a3] at y; injection y with y _; cases y), fun h' n' r' y _ => ?_, fun h' n' r' y hz => ?_⟩
        · rw [a3] at y
          injection y with y1 _
          injection y1 with y1 _
          subst y1
          exact ⟨rfl, rfl, rfl, rfl⟩
        · rw [a3] at y
          injection y with y1 _
          injection y1 with y1 _
          subst y1
          exact absurd hz he
theorem fold_spc (meth : List UInt8) : ∀ (P : List (List UInt8)) (D : List UInt8) (q : Sum), Spc meth D q → Spc meth (D ++ P.flatten) (P.foldl (turn meth) q)
  | [], D, q, h => by rw [List.flatten_nil, List.append_nil]; exact h
  | x :: P, D, q, h => by
    rw [List.flatten_cons, ← List.append_assoc, List.foldl_cons]
    exact fold_spc meth P (D ++ x) _ (turn_spc meth D x q h)
theorem fed_spc (meth : List UInt8) (P : List (List UInt8)) : Spc meth P.flatten (fed meth P) := by
  have h0 : Spc meth [] sum0 := by
    have hh : headsOf [] = (.wait, []) := heads_wait read_nil
    exact ⟨rfl, fun r y => (by rw [hh] at y; injection y with _ y; exact ⟨rfl, y, rfl, rfl, rfl⟩), fun e r y => (by rw [hh] at y; injection y with y _; cases y), fun _ _ r y => (by rw [hh] at y; injection y with y _; cases y), fun _ _ r y => (by rw [hh] at y; injection y with y _; cases y)⟩
  have := fold_spc meth P [] sum0 h0
  rw [List.nil_append] at this
  exact this
end Go.Proofs.YtggmafmebocoaaaGreatDoor.OutSpc

/- Layer 12: what is told at the end. No program is named. -/
namespace Go.Proofs.YtggmafmebocoaaaGreatDoor.OutEnd
open Bytes LexPure LexNum FieldsPure HeadPure FramePure ChunkPure OutPure OutSay OutSpc
set_option maxRecDepth 20000
set_option linter.unusedVariables false
set_option linter.unusedSimpArgs false
/-- where a drained reader stands -/
inductive Shape (q : Sum) : Prop where
  | head (h : q.1.md = .head) (hw : (headsOf q.1.data).1 = .wait) (he : q.2.2.2 = 0)
  | bad (e : Int) (h0 : e ≠ 0) (h : q.1.md = .bad e) (he : q.2.2.2 = e)
  | len (l : Nat) (h0 : l ≠ 0) (h : q.1.md = .len l) (hd : q.1.data = []) (he : q.2.2.2 = 0)
  | chunks (m : M) (h0 : stop m = false) (h : q.1.md = .chunks m) (hd : q.1.data = []) (he : q.2.2.2 = 0)
  | all (h : q.1.md = .all) (hd : q.1.data = []) (he : q.2.2.2 = 0)
  | nothing (h : q.1.md = .nothing) (he : q.2.2.2 = 0)
theorem body_shape {f : Int × Int × Int} {B : List UInt8} {q : Sum} (hb : BodyS f B q) : Shape q := by
  by_cases h2 : f.1 = 2
  · by_cases hl : B.length < f.2.1.toNat
    · obtain ⟨e1, e2, e3, e4⟩ := hb.less h2 hl
      exact .len _ (by omega) e1 e2 e4
    · obtain ⟨e1, e2, e3⟩ := hb.full h2 hl
      exact .nothing e1 e3
  by_cases h3 : f.1 = 3
  · rcases stop_cases (run (begin_ MT) B).1 with ⟨e', hp⟩ | hp | hp
    · obtain ⟨e1, e2⟩ := hb.bad h3 e' hp
      exact .bad e' (by have := told_run B e' hp; omega) e1 e2
    · obtain ⟨e1, e2, e3⟩ := hb.whole h3 hp
      exact .nothing e1 e3
    · obtain ⟨e1, e2, e3, e4⟩ := hb.more h3 hp
      exact .chunks _ hp e1 e2 e4
  by_cases h4 : f.1 = 4
  · obtain ⟨e1, e2, e3, e4⟩ := hb.all h4
    exact .all e1 e2 e4
  · obtain ⟨e1, e2, e3⟩ := hb.none h2 h3 h4
    exact .nothing e1 e3
theorem spc_shape {meth D : List UInt8} {q : Sum} (h : Spc meth D q) : Shape q := by
  have hx := heads_is D.length D (Nat.le_refl _)
  cases hh : headsOf D with
  | mk R r =>
    rw [hh] at hx
    cases R with
    | wait =>
      obtain ⟨e1, e2, e3, e4, e5⟩ := h.wait r hh
      exact .head e1 (by rw [e2, hx.2.2.1]) e5
    | bad e =>
      obtain ⟨e1, e2, e3, e4⟩ := h.bad e r hh
      exact .bad e (read_err true r e hx.1) e1 e4
    | done hd n =>
      by_cases he : (response9 meth hd.status hd.minor hd.fields).2.2 = 0
      · exact body_shape (h.yes hd n r hh he).2
      · obtain ⟨e1, e2, e3, e4⟩ := h.no hd n r hh he
        exact .bad _ he e1 e4
def lastR : Md → Bool × Int
  | .nothing => (true, 0)
  | .all => (true, 0)
  | .bad e => (false, e)
  | _ => (false, 121)
theorem next_gone (meth D : List UInt8) (kd : Int) (kp : Bool) (h : (headsOf D).1 = .wait) : nextO meth ⟨.head, D, true, kd, kp⟩ = (.none, 121, ⟨.bad 121, (headsOf D).2, true, kd, kp⟩) := by
  cases hh : headsOf D with
  | mk R r =>
    rw [hh] at h
    dsimp only at h
    subst h
    unfold nextO errO stepO
    simp [hh, isN, doneM]
theorem last_true (meth : List UInt8) (q : Sum) (h : Shape q) : (OutPure.drain meth (endO q.1) q.2.1 q.2.2.1).2.1 = q.2.1 ∧ (OutPure.drain meth (endO q.1) q.2.1 q.2.2.1).2.2.1 = q.2.2.1 ∧ doneM (OutPure.drain meth (endO q.1) q.2.1 q.2.2.1).1.md = (lastR q.1.md).1 ∧ (OutPure.drain meth (endO q.1) q.2.1 q.2.2.1).2.2.2 = (lastR q.1.md).2 := by
  obtain ⟨⟨md, data, gone, kd, kp⟩, c, b, e⟩ := q
  unfold OutPure.drain endO
  dsimp only
  cases h with
  | head h hw he =>
    dsimp only at h hw
    subst h
    rw [drain_succ, next_gone meth data kd kp hw]
    exact ⟨rfl, rfl, rfl, rfl⟩
  | bad e' h0 h he =>
    dsimp only at h
    subst h
    rw [drain_bad meth data true kd kp 3 c b e' h0]
    exact ⟨rfl, rfl, rfl, rfl⟩
  | len l h0 h hd he =>
    dsimp only at h hd
    subst h hd
    rw [drain_succ, next_lenE meth kd kp l h0]
    exact ⟨rfl, rfl, rfl, rfl⟩
  | chunks m h0 h hd he =>
    dsimp only at h hd
    subst h hd
    rw [drain_succ, next_chE meth kd kp m h0]
    exact ⟨rfl, rfl, rfl, rfl⟩
  | all h hd he =>
    dsimp only at h hd
    subst h hd
    rw [drain_succ, next_allE]
    show (drainO meth 3 ⟨.nothing, [], true, kd, kp⟩ c b).2.1 = _ ∧ (drainO meth 3 ⟨.nothing, [], true, kd, kp⟩ c b).2.2.1 = _ ∧ doneM (drainO meth 3 ⟨.nothing, [], true, kd, kp⟩ c b).1.md = _ ∧ (drainO meth 3 ⟨.nothing, [], true, kd, kp⟩ c b).2.2.2 = _
    rw [drain_nothing]
    exact ⟨rfl, rfl, rfl, rfl⟩
  | nothing h he =>
    dsimp only at h
    subst h
    rw [drain_nothing]
    exact ⟨rfl, rfl, rfl, rfl⟩
theorem last_false (meth D : List UInt8) (q : Sum) (h : Spc meth D q) : Spc meth D (OutPure.drain meth q.1 q.2.1 q.2.2.1) := by
  have ht : turn meth q [] = OutPure.drain meth q.1 q.2.1 q.2.2.1 := by
    unfold turn feedO
    rw [if_neg (by rw [h.gone]; decide), List.append_nil]
  have := turn_spc meth D [] q h
  rw [List.append_nil, ht] at this
  exact this
theorem body_same {f : Int × Int × Int} {B : List UInt8} {q q' : Sum} (h : BodyS f B q) (h' : BodyS f B q') : q.1.md = q'.1.md ∧ q.2.2.2 = q'.2.2.2 ∧ (q.2.2.1 = q'.2.2.1 ∨ ∃ e, e ≠ 0 ∧ q.1.md = .bad e) := by
  by_cases h2 : f.1 = 2
  · by_cases hl : B.length < f.2.1.toNat
    · obtain ⟨e1, e2, e3, e4⟩ := h.less h2 hl
      obtain ⟨d1, d2, d3, d4⟩ := h'.less h2 hl
      exact ⟨e1.trans d1.symm, e4.trans d4.symm, .inl (e3.trans d3.symm)⟩
    · obtain ⟨e1, e2, e3⟩ := h.full h2 hl
      obtain ⟨d1, d2, d3⟩ := h'.full h2 hl
      exact ⟨e1.trans d1.symm, e3.trans d3.symm, .inl (e2.trans d2.symm)⟩
  by_cases h3 : f.1 = 3
  · rcases stop_cases (run (begin_ MT) B).1 with ⟨e', hp⟩ | hp | hp
    · obtain ⟨e1, e2⟩ := h.bad h3 e' hp
      obtain ⟨d1, d2⟩ := h'.bad h3 e' hp
      exact ⟨e1.trans d1.symm, e2.trans d2.symm, .inr ⟨e', by have := told_run B e' hp; omega, e1⟩⟩
    · obtain ⟨e1, e2, e3⟩ := h.whole h3 hp
      obtain ⟨d1, d2, d3⟩ := h'.whole h3 hp
      exact ⟨e1.trans d1.symm, e3.trans d3.symm, .inl (e2.trans d2.symm)⟩
    · obtain ⟨e1, e2, e3, e4⟩ := h.more h3 hp
      obtain ⟨d1, d2, d3, d4⟩ := h'.more h3 hp
      exact ⟨e1.trans d1.symm, e4.trans d4.symm, .inl (e3.trans d3.symm)⟩
  by_cases h4 : f.1 = 4
  · obtain ⟨e1, e2, e3, e4⟩ := h.all h4
    obtain ⟨d1, d2, d3, d4⟩ := h'.all h4
    exact ⟨e1.trans d1.symm, e4.trans d4.symm, .inl (e3.trans d3.symm)⟩
  · obtain ⟨e1, e2, e3⟩ := h.none h2 h3 h4
    obtain ⟨d1, d2, d3⟩ := h'.none h2 h3 h4
    exact ⟨e1.trans d1.symm, e3.trans d3.symm, .inl (e2.trans d2.symm)⟩
theorem spc_same {meth D : List UInt8} {q q' : Sum} (h : Spc meth D q) (h' : Spc meth D q') : q.1.md = q'.1.md ∧ q.2.1 = q'.2.1 ∧ q.2.2.2 = q'.2.2.2 ∧ (q.2.2.1 = q'.2.2.1 ∨ ∃ e, e ≠ 0 ∧ q.1.md = .bad e) := by
  have hx := heads_is D.length D (Nat.le_refl _)
  cases hh : headsOf D with
  | mk R r =>
    cases R with
    | wait =>
      obtain ⟨e1, e2, e3, e4, e5⟩ := h.wait r hh
      obtain ⟨d1, d2, d3, d4, d5⟩ := h'.wait r hh
      exact ⟨e1.trans d1.symm, e3.trans d3.symm, e5.trans d5.symm, .inl (e4.trans d4.symm)⟩
    | bad e =>
      obtain ⟨e1, e2, e3, e4⟩ := h.bad e r hh
      obtain ⟨d1, d2, d3, d4⟩ := h'.bad e r hh
      exact ⟨e1.trans d1.symm, e2.trans d2.symm, e4.trans d4.symm, .inl (e3.trans d3.symm)⟩
    | done hd n =>
      by_cases he : (response9 meth hd.status hd.minor hd.fields).2.2 = 0
      · obtain ⟨e1, e2⟩ := h.yes hd n r hh he
        obtain ⟨d1, d2⟩ := h'.yes hd n r hh he
        obtain ⟨b1, b2, b3⟩ := body_same e2 d2
        exact ⟨b1, e1.trans d1.symm, b2, b3⟩
      · obtain ⟨e1, e2, e3, e4⟩ := h.no hd n r hh he
        obtain ⟨d1, d2, d3, d4⟩ := h'.no hd n r hh he
        exact ⟨e1.trans d1.symm, e2.trans d2.symm, e4.trans d4.symm, .inl (e3.trans d3.symm)⟩
/-- an error stands where it has been told -/
theorem shape_bad {q : Sum} (h : Shape q) {e : Int} (hm : q.1.md = .bad e) : q.2.2.2 = e := by
  cases h with
  | head h hw he => rw [h] at hm; cases hm
  | bad e' h0 h he => rw [h] at hm; injection hm with hm; rw [← hm]; exact he
  | len l h0 h hd he => rw [h] at hm; cases hm
  | chunks m h0 h hd he => rw [h] at hm; cases hm
  | all h hd he => rw [h] at hm; cases hm
  | nothing h he => rw [h] at hm; cases hm
theorem told_true {meth : List UInt8} {P : List (List UInt8)} : (told meth P true).2.1 = (fed meth P).2.1 ∧ (told meth P true).2.2.1 = (fed meth P).2.2.1 ∧ doneM (told meth P true).1.md = (lastR (fed meth P).1.md).1 ∧ (told meth P true).2.2.2 = (lastR (fed meth P).1.md).2 :=
  last_true meth (fed meth P) (spc_shape (fed_spc meth P))
theorem told_false {meth : List UInt8} {P : List (List UInt8)} : Spc meth P.flatten (told meth P false) := last_false meth P.flatten (fed meth P) (fed_spc meth P)
/-- in whatever pieces -/
theorem told_same (meth : List UInt8) (P P' : List (List UInt8)) (h : P.flatten = P'.flatten) (fin : Bool) :
    (told meth P fin).2.1 = (told meth P' fin).2.1 ∧ doneM (told meth P fin).1.md = doneM (told meth P' fin).1.md ∧ (told meth P fin).2.2.2 = (told meth P' fin).2.2.2 ∧ ((told meth P fin).2.2.1 = (told meth P' fin).2.2.1 ∨ (told meth P fin).2.2.2 ≠ 0) := by
  cases fin with
  | false =>
    have h1 := told_false (meth := meth) (P := P)
    have h2 := told_false (meth := meth) (P := P')
    rw [← h] at h2
    obtain ⟨b1, b2, b3, b4⟩ := spc_same h1 h2
    refine ⟨b2, by rw [b1], b3, ?_⟩
    rcases b4 with b4 | ⟨e, e1, e2⟩
    · exact .inl b4
    · exact .inr (by rw [shape_bad (spc_shape h1) e2]; exact e1)
  | true =>
    have h1 := fed_spc meth P
    have h2 := fed_spc meth P'
    rw [← h] at h2
    obtain ⟨b1, b2, b3, b4⟩ := spc_same h1 h2
    obtain ⟨c1, c2, c3, c4⟩ := told_true (meth := meth) (P := P)
    obtain ⟨d1, d2, d3, d4⟩ := told_true (meth := meth) (P := P')
    refine ⟨by rw [c1, d1, b2], by rw [c3, d3, b1], by rw [c4, d4, b1], ?_⟩
    rcases b4 with b4 | ⟨e, e1, e2⟩
    · exact .inl (by rw [c2, d2, b4])
    · refine .inr ?_
      rw [c4, e2]
      exact e1
/-- the heads alone count -/
theorem told_heads (meth D D' : List UInt8) (fin : Bool) (h : headsOf D = headsOf D') : told meth [D] fin = told meth [D'] fin := by
  have hf : fed meth [D] = fed meth [D'] := by
    show drainO meth 4 ⟨.head, D, false, 0, false⟩ 0 [] = drainO meth 4 ⟨.head, D', false, 0, false⟩ 0 []
    rw [drain_succ, drain_succ, next_head, next_head, h]
  unfold told
  rw [hf]
end Go.Proofs.YtggmafmebocoaaaGreatDoor.OutEnd

/- The bulk and the weights of a list of readings. -/
namespace Go.Proofs.YtggmafmebocoaaaGreatDoor.BulkOf
open Go.ChangeShapes Go.WideShapes Go.RowKit Go.Deep
theorem plain_cell {w : World} {a : Addr} {v : Value} (h : w.cell? a = some v) : a = ⟨a.block, a.off, none⟩ := by
  obtain ⟨b, o, e⟩ := a
  cases e with
  | none => rfl
  | some e =>
    have := World.cell?_spot h
    cases this
theorem add_plain (b o i : Nat) : (⟨b, o, none⟩ : Addr).add i = ⟨b, o + i, none⟩ := by unfold Addr.add; split <;> simp_all
theorem bulk_pos {H : Type} (d : DataW H) : 1 ≤ Rows.uptoBulk d := by
  cases d with
  | lit l => cases l <;> simp [Rows.uptoBulk]
  | _ => simp [Rows.uptoBulk]
theorem bulkAll_len {H : Type} : ∀ l : List (DataW H), l.length ≤ Rows.uptoBulkAll l
  | [] => by simp [Rows.uptoBulkAll]
  | d :: r => by
    have h1 := bulk_pos d
    have h2 := bulkAll_len r
    rw [Rows.uptoBulkAll, List.length_cons]
    omega
theorem bulkAll_mem {H : Type} : ∀ (l : List (DataW H)) (d : DataW H), d ∈ l → Rows.uptoBulk d ≤ Rows.uptoBulkAll l
  | [], _, h => by cases h
  | x :: r, d, h => by
    rw [Rows.uptoBulkAll]
    rcases List.mem_cons.1 h with rfl | h
    · omega
    · have := bulkAll_mem r d h
      omega
theorem weightsAll_mem {H : Type} {P : Program} {e : TypeId} (q : Nat → Bool) : ∀ l : List (DataW H), (DataW.weightsAll P e l).all q = true → ∀ d ∈ l, (d.weights P e).all q = true
  | [], _, d, hd => by cases hd
  | x :: l, h, d, hd => by
    simp only [DataW.weightsAll, List.all_append, Bool.and_eq_true] at h
    rcases List.mem_cons.1 hd with rfl | hd
    · exact h.1
    · exact weightsAll_mem q l h.2 d hd
end Go.Proofs.YtggmafmebocoaaaGreatDoor.BulkOf

/- An argument that is a list of texts. -/
namespace Go.Proofs.YtggmafmebocoaaaGreatDoor.SArg
open Go.ChangeShapes Go.WideShapes Go.ChangeAt Go.RowKit Go.Deep LexPure Bytes Ret Rows1 Texts BulkOf
set_option maxRecDepth 20000
/-- what both forms have in common: the texts, each with its reading -/
theorem texts_core {H : Type} {enc : TypeId × Value → H} {W : World} {v : Value} {d : DataW H} {p : List MemPlace} {fuel : Nat}
    (hf : DataW.trod enc Tryz.prog W 0 (fun _ => true) true fuel 22 [v] = some (d, p)) :
    ∃ G, Texts W v G ∧ (d = .nil ∧ G = [] ∨ ∃ sp, d = .slice (G.map fun t => .lit (.string t)) sp) := by
  rcases open_slice1 Tryz.underlying22 (by kernel_rfl) hf with ⟨hc, hx⟩ | ⟨a, len, cap, m, n, V, D, Pl, hc, _, hlc, hcm, hm, hx, hi⟩
  · obtain rfl : v = .slice none 0 0 := by simpa using hc
    injection hx with hd _
    exact ⟨[], ⟨none, 0, rfl, Nat.zero_le _, fun h => absurd h (by simp)⟩, .inl ⟨hd, rfl⟩⟩
  · obtain rfl : v = .slice (some a) len cap := by simpa using hc
    injection hx with hd hp
    have hlm : len ≤ m := by rw [hm, if_pos rfl]; exact hlc
    unfold maxLen at hcm
    have hS : ∀ i, i < len → ∃ s : List UInt8, V i = .string (ofL s) ∧ D i = .lit (.string s) := fun i hil => by
      obtain ⟨_, t0⟩ := hi i (by omega)
      obtain ⟨s, hs, hs2, _⟩ := DataW.trod_string Tryz.underlying9 t0
      exact ⟨toL s, by rw [ofL_toL]; simpa using hs, by simpa using congrArg Prod.fst hs2⟩
    let f : Nat → List UInt8 := fun i => if h : i < len then (hS i h).choose else []
    have hfs : ∀ i (h : i < len), V i = .string (ofL (f i)) ∧ D i = .lit (.string (f i)) := fun i h => by
      have := (hS i h).choose_spec
      simp only [f, dif_pos h]
      exact this
    refine ⟨(List.range len).map f, ⟨some a, cap, by simp, by simp; omega, fun h0 => ?_⟩, .inr ⟨(List.range (m - len)).map fun j => D (len + j), ?_⟩⟩
    · rw [List.length_map, List.length_range] at h0
      obtain ⟨c0, _⟩ := hi 0 (by omega)
      have ha := plain_cell c0
      have hae : a = ⟨a.block, a.off, none⟩ := by
        obtain ⟨b, o, e⟩ := a
        cases e with
        | none => rfl
        | some e => simp [Addr.add] at ha
      have hblk := World.block_lt_of_cell? _ _ c0
      obtain ⟨b, o, e⟩ := a
      injection hae with _ _ e3
      subst e3
      refine ⟨b, o, rfl, by simpa [Addr.add] using hblk, fun j hj => ?_⟩
      rw [List.length_map, List.length_range] at hj
      obtain ⟨c1, _⟩ := hi j (by omega)
      rw [(hfs j hj).1] at c1
      simp only [List.getElem_map, List.getElem_range]
      rw [BulkOf.add_plain] at c1
      exact c1
    · rw [hd]
      congr 1
      rw [List.map_map]
      exact List.map_congr_left (fun i hi => (hfs i (List.mem_range.1 hi)).2)
theorem texts_upto {H : Type} {enc : TypeId × Value → H} {W : World} {base : Nat} {v : Value} {d : DataW H} {p : List MemPlace} (hv : Value.okWide Tryz.prog W .any base 22 v)
    (h : DataW.Trod enc Tryz.prog W 0 (fun _ => true) true 22 v d p) (hb : Rows.uptoBulk d ≤ 1048576) :
    ∃ G, Texts W v G ∧ (∀ t ∈ G, t.length ≤ 1048576) ∧ G.length ≤ 1048576 := by
  obtain ⟨a0, len, cap, rfl⟩ := okWide_slice Tryz.underlying22 hv
  obtain ⟨fuel, hf⟩ := h
  obtain ⟨G, hT, hd⟩ := texts_core (v := .slice a0 len cap) (by simpa [Value.cells] using hf)
  refine ⟨G, hT, ?_⟩
  rcases hd with ⟨_, rfl⟩ | ⟨sp, rfl⟩
  · exact ⟨fun t ht => (by cases ht), Nat.zero_le _⟩
  · rw [Rows.uptoBulk] at hb
    have hl := bulkAll_len (G.map fun t => (DataW.lit (.string t) : DataW H))
    rw [List.length_map] at hl
    refine ⟨fun t ht => ?_, by omega⟩
    have := bulkAll_mem (G.map fun t => (DataW.lit (.string t) : DataW H)) (.lit (.string t)) (List.mem_map.2 ⟨t, ht, rfl⟩)
    simp only [Rows.uptoBulk] at this
    omega
theorem texts_reach {H : Type} {enc : TypeId × Value → H} {W : World} {base : Nat} {v : Value} {d : DataW H} {p : List MemPlace} (hv : Value.okWide Tryz.prog W .any base 22 v)
    (h : DataW.Trod enc Tryz.prog W 0 (fun _ => true) true 22 v d p) (hb : (d.weights Tryz.prog 22).all (· ≤ reachBytes) = true) :
    ∃ G, Texts W v G ∧ (∀ t ∈ G, t.length ≤ 140737488351232) ∧ G.length ≤ 8796093022208 := by
  obtain ⟨a0, len, cap, rfl⟩ := okWide_slice Tryz.underlying22 hv
  obtain ⟨fuel, hf⟩ := h
  obtain ⟨G, hT, hd⟩ := texts_core (v := .slice a0 len cap) (by simpa [Value.cells] using hf)
  refine ⟨G, hT, ?_⟩
  rcases hd with ⟨_, rfl⟩ | ⟨sp, rfl⟩
  · exact ⟨fun t ht => (by cases ht), Nat.zero_le _⟩
  · simp only [DataW.weights, Tryz.underlying22, List.all_cons, Bool.and_eq_true, List.all_append] at hb
    refine ⟨fun t ht => ?_, ?_⟩
    · have := weightsAll_mem _ _ hb.2.1 (.lit (.string t)) (List.mem_map.2 ⟨t, ht, rfl⟩)
      simp only [DataW.weights, List.all_cons, List.all_nil, Bool.and_true] at this
      have h1 := of_decide_eq_true this
      unfold reachBytes at h1
      exact h1
    · have h1 := of_decide_eq_true hb.1
      rw [show Tryz.prog.bytesOf 9 = 16 by kernel_rfl, List.length_map] at h1
      unfold reachBytes at h1
      omega
end Go.Proofs.YtggmafmebocoaaaGreatDoor.SArg

/- However the bytes of a response come in pieces, what is told is the same as at once: OutflowPieces returns true. -/
namespace Go.Proofs.YtggmafmebocoaaaGreatDoor.OutflowPiecesW
open Go.ChangeShapes Go.WideShapes Go.ChangeAt Go.RowKit Bytes LexPure Ret Rows1 FieldsPure HeadPure OutPure OutEnd OutBox OutObj POutUse L12Read L12Anchor L12Told PLib Texts SArg Mem Step
set_option maxRecDepth 100000
set_option linter.unusedVariables false
set_option linter.unusedSimpArgs false
theorem texts_one (W : World) (x : List UInt8) : Texts (W.alloc (.cells #[.string (ofL x)] 9)) (.slice (some ⟨W.heap.size, 0, none⟩) 1 1) [x] :=
  ⟨some ⟨W.heap.size, 0, none⟩, 1, rfl, by simp, fun _ => ⟨W.heap.size, 0, rfl, by simp, fun j hj => by
    have hj0 : j = 0 := by rw [List.length_singleton] at hj; omega
    subst hj0
    exact ((Has.new W 9 #[.string (ofL x)]).cell 0).trans rfl⟩⟩
theorem flat_len : ∀ (P : List (List UInt8)), (∀ t ∈ P, t.length ≤ 1048576) → P.flatten.length ≤ 1048576 * P.length
  | [], _ => by simp
  | x :: P, h => by
    have h1 := h x List.mem_cons_self
    have h2 := flat_len P (fun t ht => h t (List.mem_cons_of_mem _ ht))
    rw [List.flatten_cons, List.length_append, List.length_cons]
    omega
set_option maxHeartbeats 6400000 in
theorem walkIn (meth : ByteArray) (v : Value) (P : List (List UInt8)) (fin : Bool) (hP : P.length ≤ 1048576) (hT : ∀ t ∈ P, t.length ≤ 1048576) (w : World) (hV : Texts w v P) (hm : MaxInt w) :
    Calls Tryz.prog 3 #[.string meth, v, .bool fin] w fun e w' => e = .returned (.bool true) ∧ Below w.heap.size w w' := by
  have HA := Lib.hid (anchor_any w hm)
  have hfl := flat_len P hT
  have hlt : ∀ k, (P.take k).flatten.length ≤ P.flatten.length := fun k => by
    conv => rhs; rw [← List.take_append_drop k P, List.flatten_append, List.length_append]
    omega
  have HV := Lib.hid hV
  obtain ⟨p, cap, rfl, _, hcell⟩ := hV
  replace hcell := Lib.hid hcell
  replace hm := Lib.hid hm
  replace hlt := Lib.hid hlt
  replace hfl := Lib.hid hfl
  clear hT
  go_enter Tryz.func3, Tryz.ntmps3
  go_wp2_with fail
  refine HA.out.mono ?_
  rintro e w1 ⟨rfl, hb1⟩
  have HB := Lib.hid hb1
  clear HA hb1
  go_wp2_with fail
  go_loop [7, 24] (fun a i => ∃ (k : Nat), k ≤ P.length ∧ i = .int .i64 k ∧ a = .string (ofL (P.take k).flatten)) (fun _ i => P.length - (intOf i).toNat)
  case atStart => exact ⟨0, Nat.zero_le _, rfl, rfl⟩
  case round =>
    obtain ⟨k, hk, rfl, rfl⟩ := hrel
    by_cases hlk : k < P.length
    · obtain ⟨gp, o, rfl, hgl, hcl⟩ := hcell.out (by omega)
      have hki : (k : Int) < (P.length : Int) := by omega
      have d1 := (HB.out.cell (p := ⟨gp, o + k, none⟩) hgl).trans (hcl k hlk)
      have htk : (P.take (k + 1)).flatten = (P.take k).flatten ++ P[k] := by
        rw [List.take_add_one, List.getElem?_eq_getElem hlk, List.flatten_append]
        simp
      have hsz : (ofL (P.take k).flatten).size + (ofL P[k]).size ≤ 9223372036854775807 := by
        rw [ofL_size, ofL_size]
        have h1 := hlt.out (k + 1)
        have h2 := hfl.out
        rw [htk, List.length_append] at h1
        omega
      have hap : Hid (ofL (P.take k).flatten ++ ofL P[k] = ofL (P.take (k + 1)).flatten) := Lib.hid (by rw [htk]; exact POutText.str_app _ _)
      clear htk hcl hgl
      go_wp2_with fail
      exact ⟨⟨k + 1, by omega, by simp, by rw [hap.out]⟩, by simp [intOf]; omega⟩
    · obtain rfl : k = P.length := by omega
      have hki : ¬ (P.length : Int) < (P.length : Int) := by omega
      have htl : P.take P.length = P := List.take_length
      rw [htl]
      clear hlk htl
      by_cases hd : P.flatten.length ≤ 20000
      · have hdi : ¬ (20000 : Int) < ((ofL P.flatten).size : Int) := by rw [ofL_size]; omega
        have HT1 := Lib.hid (told_any meth (.slice p P.length cap) P fin w1 (hm.out.below HB.out) (HV.out.below HB.out) (by omega) (by omega))
        go_wp2_with fail
        refine HT1.out.mono ?_
        rintro e w2 ⟨c1, b1, dn1, er1, rfl, hq1, hb2⟩
        have HB2 := Lib.hid (HB.out.trans (hb2.mono HB.out.size))
        have HT2 := Lib.hid (told_any meth _ [P.flatten] fin (w2.alloc (.cells #[.string (ofL P.flatten)] 9)) (hm.out.below (HB2.out.alloc HB2.out.size _)) (texts_one w2 P.flatten) (by simp) (by rw [show [P.flatten].flatten = P.flatten by simp]; omega))
        have HB3 := Lib.hid (HB2.out.alloc HB2.out.size (.cells #[.string (ofL P.flatten)] 9))
        clear HT1 hb2
        go_wp2_with fail
        refine HT2.out.mono ?_
        rintro e w3 ⟨c2, b2, dn2, er2, rfl, hq2, hb3⟩
        have HB4 := Lib.hid (HB3.out.trans (hb3.mono HB3.out.size))
        have hsame : c1 = c2 ∧ dn1 = dn2 ∧ er1 = er2 ∧ (b1 = b2 ∨ er1 ≠ 0) := by
          obtain ⟨s1, q1, q2, _⟩ := hq1.out
          obtain ⟨s2, p1, p2, _⟩ := hq2.out
          have := told_same (toL meth) P [P.flatten] (by simp) fin
          rw [q1, p1] at this
          dsimp only at this
          rw [q2, p2]
          exact this
        obtain ⟨rfl, rfl, rfl, hbe⟩ := hsame
        have hcc : (c1 != c1) = false := by simp
        have hdd : (dn1 != dn1) = false := by simp
        have hee : (er1 != er1) = false := by simp
        clear HT2 hb3 HB3 HB2 hq1 hq2
        by_cases hb : b1 = b2
        · subst hb
          have htt : ((ofL b1).toList == (ofL b1).toList) = true := by simp
          clear hbe
          go_wp2_with fail
          go_ret
          exact ⟨rfl, HB4.out⟩
        · have her : (er1 != 0) = true := by
            rcases hbe with h | h
            · exact absurd h hb
            · exact bne_iff_ne.2 h
          have htt : ((ofL b1).toList == (ofL b2).toList) = false := by
            rw [beq_eq_false_iff_ne, ByteArray.toList_eq, ByteArray.toList_eq]
            show ¬ toL (ofL b1) = toL (ofL b2)
            rw [toL_ofL, toL_ofL]
            exact hb
          have htt2 : ¬ (ofL b1).toList = (ofL b2).toList := beq_eq_false_iff_ne.1 htt
          clear hbe
          go_wp2_with fail
          go_ret
          exact ⟨rfl, HB4.out⟩
      · have hdi : (20000 : Int) < ((ofL P.flatten).size : Int) := by rw [ofL_size]; omega
        go_wp2_with fail
        go_ret
        exact ⟨rfl, HB.out⟩
theorem walk {H : Type} {enc : TypeId × Value → H} {W : World} {base : Nat} (meth : ByteArray) (_w0 : meth.size ≤ maxLen) (_z0 : meth.size ≤ 1048576) (v : Value) (d : DataW H) (p : List MemPlace) (hv : Value.okWide Tryz.prog W .any base 22 v)
    (hd : DataW.Trod enc Tryz.prog W 0 (fun _ => true) true 22 v d p) (_hl : ∀ x ∈ p, x.block < W.heap.size) (hb : Rows.uptoBulk d ≤ 1048576) (fin : Bool) (hsh : W.ShapedOpen Tryz.prog) :
    Calls Tryz.prog 3 #[.string meth, v, .bool fin] W fun e W' => e = .returned (.bool true) ∧ Below W.heap.size W W' := by
  obtain ⟨P, hV, hT, hP⟩ := texts_upto hv hd hb
  exact walkIn meth v P fin hP hT W hV (MaxInt.of_shape hsh)
end Go.Proofs.YtggmafmebocoaaaGreatDoor.OutflowPiecesW
