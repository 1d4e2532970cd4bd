/- Texts of this seat, one behind another: FilterMore, FiltRate, FilterRateW. -/
import Derived.IntWalk
import Derived.Handy
import Derived.Test.YtfdpoibmlggfbaaA1
import Derived.Test.YtfdpoibmlggfbaaB
/- Layer 16: names put together with commas; the way back, name by name; a limit's rounds. No program is named. -/
namespace Go.Proofs.Ytfdpoibmlggfbaa.FilterMore
open Bytes LexPure LexList PathPure ConfPure ConfBack FieldsPure BucketPure FilterPure
set_option maxRecDepth 20000
set_option linter.unusedVariables false
/-! ### names with commas ahead -/
def joinedL (s : List L) : L := s.flatMap fun x => 44 :: x
theorem joined_snoc (s : List L) (x : L) : joinedL (s ++ [x]) = joinedL s ++ 44 :: x := by unfold joinedL; rw [List.flatMap_append]; simp
/-- a name: no comma in it, no blanks about it, and not empty -/
structure Nm (x : L) : Prop where
  nc : noComma x = true
  tr : trim x = x
  ne : x ≠ []
theorem mark_nice : ∀ c : UInt8, markB c = true → blankB c = false ∧ c ≠ 44 := by
  intro c
  have : ∀ n, n < 256 → markB (UInt8.ofNat n) = true → blankB (UInt8.ofNat n) = false ∧ UInt8.ofNat n ≠ 44 := by decide +kernel
  have h := this c.toNat (UInt8.toNat_lt c)
  rwa [UInt8.ofNat_toNat] at h
theorem drop_none {s : L} (h : ∀ c ∈ s, blankB c = false) : s.dropWhile blankB = s := by
  cases s with
  | nil => rfl
  | cons c s => rw [List.dropWhile_cons_of_neg]; rw [h c List.mem_cons_self]; simp
theorem Nm.of_token {x : L} (h : token x = true) : Nm x := by
  unfold token at h
  rw [Bool.and_eq_true, List.all_eq_true] at h
  obtain ⟨h1, h2⟩ := h
  refine ⟨?_, ?_, fun e => by rw [e] at h2; cases h2⟩
  · unfold noComma
    rw [List.all_eq_true]
    intro c hc
    simpa [bne] using (mark_nice c (h1 c hc)).2
  · unfold trim
    rw [drop_none (fun c hc => (mark_nice c (h1 c hc)).1), drop_none (fun c hc => (mark_nice c (h1 c (List.mem_reverse.1 hc))).1), List.reverse_reverse]
theorem Nm.one {x : L} (h : Nm x) : LexList.one x = [x] := by
  unfold LexList.one
  rw [h.tr, if_neg]
  cases x with
  | nil => exact absurd rfl h.ne
  | cons => simp
theorem elements_joined : ∀ (s : List L), (∀ x ∈ s, Nm x) → elements (joinedL s) = s
  | [], _ => by decide
  | x :: s, h => by
    have hx := h x List.mem_cons_self
    have ih := elements_joined s (fun y hy => h y (List.mem_cons_of_mem _ hy))
    have e : joinedL (x :: s) = [] ++ 44 :: (x ++ joinedL s) := by unfold joinedL; simp
    rw [e, elements_cut (by rfl), show LexList.one ([] : L) = [] from by decide, List.nil_append]
    cases s with
    | nil => rw [show joinedL [] = [] from rfl, List.append_nil, elements_plain hx.nc, hx.one]
    | cons y s =>
      have e2 : joinedL (y :: s) = 44 :: (y ++ joinedL s) := by unfold joinedL; simp
      have e3 : joinedL (y :: s) = [] ++ 44 :: (y ++ joinedL s) := by rw [e2]; rfl
      rw [e3, elements_cut (by rfl), show LexList.one ([] : L) = [] from by decide, List.nil_append] at ih
      rw [e2, elements_cut hx.nc, hx.one, ih]
      rfl
theorem has_joined (s : List L) (h : ∀ x ∈ s, Nm x) (n : L) : hasE [([108], joinedL s)] [108] n = s.any (fun x => alike x n) := by
  unfold hasE elems
  have : [(([108] : L), joinedL s)].filter (hit [108]) = [([108], joinedL s)] := by
    rw [List.filter_cons_of_pos]
    · rfl
    · exact alike_self _
  rw [this, List.flatMap_singleton]
  show (elements (joinedL s)).any _ = _
  rw [elements_joined s h]
/-! ### the way back, name by name -/
theorem acao_nm : Nm ACAO := Nm.of_token (by decide)
theorem alike_trans {a b c : L} (h1 : alike a b = true) (h2 : alike a c = false) : alike b c = false := by
  rw [← Bool.not_eq_true] at h2 ⊢
  intro h
  apply h2
  rw [alike_iff] at *
  exact h1.trans h
theorem name_nm {f : Filt} (hf : filtB f = true) {n : L} (h : name16 f = some n) : Nm n := by
  unfold name16 at h
  by_cases h8 : f.kind = 8
  · rw [if_pos h8] at h
    injection h with h
    subst h
    unfold filtB at hf
    rw [if_pos (.inr h8)] at hf
    simp only [Bool.and_eq_true] at hf
    have := hf.1.2
    unfold nameB tokenB at this
    simp only [Bool.and_eq_true] at this
    exact Nm.of_token this.2.1
  · rw [if_neg h8] at h
    by_cases h5 : f.kind = 5
    · rw [if_pos h5] at h; injection h with h; rw [← h]; exact acao_nm
    · rw [if_neg h5] at h; cases h
/-- the names that the first i filters set, each once -/
structure SetOk (fs : List Filt) (i : Nat) (s : List L) : Prop where
  nm : ∀ x ∈ s, Nm x
  all : ∀ g ∈ fs.take i, ∀ m, name16 g = some m → ∃ x ∈ s, alike x m = true
  bare : s = [] → ∀ g ∈ fs.take i, name16 g = none
theorem SetOk.zero (fs : List Filt) : SetOk fs 0 [] where
  nm := fun x h => absurd h List.not_mem_nil
  all := fun g h => by rw [List.take_zero] at h; cases h
  bare := fun _ g h => by rw [List.take_zero] at h; cases h
theorem SetOk.skip {fs : List Filt} {i : Nat} {s : List L} (h : SetOk fs i s) (hi : i < fs.length) (hn : name16 fs[i] = none) : SetOk fs (i + 1) s := by
  refine ⟨h.nm, fun g hg m hm => ?_, fun hs g hg => ?_⟩
  · rw [List.take_succ_eq_append_getElem hi] at hg
    rcases List.mem_append.1 hg with q | q
    · exact h.all g q m hm
    · obtain rfl := List.mem_singleton.1 q; rw [hn] at hm; cases hm
  · rw [List.take_succ_eq_append_getElem hi] at hg
    rcases List.mem_append.1 hg with q | q
    · exact h.bare hs g q
    · obtain rfl := List.mem_singleton.1 q; exact hn
theorem SetOk.had {fs : List Filt} {i : Nat} {s : List L} (h : SetOk fs i s) (hi : i < fs.length) {n : L} (hn : name16 fs[i] = some n) (ha : s.any (fun x => alike x n) = true) : SetOk fs (i + 1) s := by
  rw [List.any_eq_true] at ha
  obtain ⟨y, hy, hyn⟩ := ha
  refine ⟨h.nm, fun g hg m hm => ?_, fun hs => by rw [hs] at hy; cases hy⟩
  rw [List.take_succ_eq_append_getElem hi] at hg
  rcases List.mem_append.1 hg with q | q
  · exact h.all g q m hm
  · obtain rfl := List.mem_singleton.1 q
    rw [hn] at hm
    injection hm with hm
    exact ⟨y, hy, hm ▸ hyn⟩
theorem SetOk.more {fs : List Filt} {i : Nat} {s : List L} (h : SetOk fs i s) (hi : i < fs.length) (hf : filtB fs[i] = true) {n : L} (hn : name16 fs[i] = some n) : SetOk fs (i + 1) (s ++ [n]) := by
  refine ⟨fun x hx => ?_, fun g hg m hm => ?_, fun hs => by simp at hs⟩
  · rcases List.mem_append.1 hx with q | q
    · exact h.nm x q
    · obtain rfl := List.mem_singleton.1 q; exact name_nm hf hn
  · rw [List.take_succ_eq_append_getElem hi] at hg
    rcases List.mem_append.1 hg with q | q
    · obtain ⟨x, hx, hxm⟩ := h.all g q m hm
      exact ⟨x, List.mem_append_left _ hx, hxm⟩
    · obtain rfl := List.mem_singleton.1 q
      rw [hn] at hm
      injection hm with hm
      subst hm
      exact ⟨n, List.mem_append_right _ (List.mem_singleton.2 rfl), alike_self n⟩
/-- a name that none ahead sets has its filter's value -/
theorem SetOk.word {fs : List Filt} {i : Nat} {s : List L} (h : SetOk fs i s) (hi : i < fs.length) {n : L} (hn : name16 fs[i] = some n) (ha : s.any (fun x => alike x n) = false) (G : List HField) : getN (resp16 fs G) n = 1 ∧ getV (resp16 fs G) n = fs[i].value := by
  have e : fs = fs.take i ++ fs[i] :: fs.drop (i + 1) := by rw [List.getElem_cons_drop, List.take_append_drop]
  obtain ⟨f, hf⟩ : ∃ f, f = fs[i] := ⟨_, rfl⟩
  rw [← hf] at e hn ⊢
  rw [e]
  exact resp_first (fs.take i) (fs.drop (i + 1)) f G n hn (fun g hg m hm => by
    obtain ⟨x, hx, hxm⟩ := h.all g hg m hm
    have hxn : alike x n = false := by
      rw [List.any_eq_false] at ha
      simpa using ha x hx
    exact alike_trans hxm hxn)
theorem SetOk.done {fs : List Filt} (h : SetOk fs fs.length []) (G : List HField) : resp16 fs G = G :=
  resp_none fs G (fun g hg => h.bare rfl g (by rwa [List.take_length]))
/-! ### a limit's rounds -/
def lim (n m k r t told : Int) : B := ⟨n, m, k, t, r * k, told⟩
theorem pass_at (n m k r t told now : Int) (hk : 1 ≤ k) (h0 : r * k ≤ now) (h1 : now < r * k + k) (ht : t ≤ n) : BucketPure.pass (lim n m k r t told) now = lim n m k r t now := by
  have hf : fillings (lim n m k r t told) now = 0 := (quo_iff _ _ _ hk).2 (by simp only [lim]; omega)
  unfold BucketPure.pass after
  rw [hf]
  simp only [lim]
  congr 1 <;> omega
theorem pass_next (n m k r told : Int) (hk : 1 ≤ k) (hn : 0 ≤ n) : BucketPure.pass (lim n m k r 0 told) ((r + 1) * k) = lim n m k (r + 1) (min n m) ((r + 1) * k) := by
  have e : (r + 1) * k = r * k + k := by rw [Int.add_mul]; omega
  have hf : fillings (lim n m k r 0 told) ((r + 1) * k) = 1 := (quo_iff _ _ _ hk).2 (by simp only [lim]; omega)
  unfold BucketPure.pass after
  rw [hf]
  simp only [lim]
  congr 1 <;> omega
theorem less_one (n m k r t told : Int) (h : 1 ≤ t) : can (lim n m k r t told) 1 = true ∧ less (lim n m k r t told) 1 = lim n m k r (t - 1) told := by
  have hc : can (lim n m k r t told) 1 = true := decide_eq_true ⟨Int.le_refl _, h⟩
  exact ⟨hc, by unfold less; rw [if_pos hc]; rfl⟩
theorem less_none (n m k r told : Int) : can (lim n m k r 0 told) 1 = false ∧ less (lim n m k r 0 told) 1 = lim n m k r 0 told := by
  have hc : can (lim n m k r 0 told) 1 = false := decide_eq_false (fun h => by have := h.2; simp only [lim] at this; omega)
  exact ⟨hc, by unfold less; rw [if_neg (by rw [hc]; simp)]⟩
theorem lim_ok {n m k r t told : Int} (hn : 1 ≤ n ∧ n ≤ 1000) (hm : 1 ≤ m ∧ m ≤ 1000) (hk : 1 ≤ k ∧ k ≤ 1000) (hr : 0 ≤ r) (ht : 0 ≤ t ∧ t ≤ n) (h1 : r * k ≤ told) (h2 : told ≤ 1000000) : Ok (lim n m k r t told) :=
  ⟨hn.1, by simp only [lim]; omega, hm.1, by simp only [lim]; omega, hk.1, by simp only [lim]; omega, ht.1, ht.2, Int.mul_nonneg hr (by omega), h1, by simp only [lim]; omega⟩
end Go.Proofs.Ytfdpoibmlggfbaa.FilterMore

/- Layer 16: a limit's rounds, request by request. No program is named. -/
namespace Go.Proofs.Ytfdpoibmlggfbaa.FiltRate
open Bytes LexPure PathPure ConfPure ConfBack FieldsPure BucketPure FilterPure FilterMore FiltState
set_option maxRecDepth 20000
set_option linter.unusedVariables false
def f3 (n m k : Int) : Filt := ⟨3, [], [], n, m, k⟩
theorem f3_right {n m k : Int} (hn : 1 ≤ n ∧ n ≤ 1000) (hm : 1 ≤ m ∧ m ≤ 1000) (hk : 1 ≤ k ∧ k ≤ 1000) : filtB (f3 n m k) = true := by
  unfold filtB f3 inB TOK
  simp
  omega
/-- the chain with one limit -/
def LC (n m k r t told d : Int) : Cn := ⟨[f3 n m k], [lim n m k r t told], d, told⟩
theorem lc_start (n m k d : Int) : start16 [f3 n m k] d = LC n m k 0 n 0 d := by
  unfold start16 LC
  rw [List.map_singleton]
  unfold bk16 f3
  rw [if_pos rfl]
  simp only [full, lim, Int.zero_mul]
theorem lc_req {dv dn : Int → Int} (n m k r t told d now : Int) (method : L) (size : Int) (G : List HField) (b : B) (hp : BucketPure.pass (lim n m k r t told) now = b) (h1 : told ≤ now) (h2 : now ≤ 1099511627776) :
    req16 dv dn (LC n m k r t told d) now method size G = (if can b 1 then ⟨false, 0, [], [], G⟩ else say16 429 [] SLOW, 0) ∧ nxt16 dv dn (LC n m k r t told d) now method size G = ⟨[f3 n m k], [less b 1], d, now⟩ := by
  have hr : ¬ refused (LC n m k r t told d) now := by unfold refused LC; simp only; omega
  have ho : one16 dv (f3 n m k) (lim n m k r t told) d now method G size = if can b 1 then none16 else say16 429 [] SLOW := by
    unfold one16
    rw [if_pos (by rfl), hp]
  unfold req16 nxt16
  rw [if_neg hr, if_neg hr]
  have hb : bkt16 (f3 n m k) (lim n m k r t told) now = less b 1 := by unfold bkt16; rw [if_pos (by rfl), hp]
  have hd : dce16 dn (f3 n m k) d = d := by unfold dce16; rw [if_neg (show ¬ (f3 n m k).kind = 7 from by show ¬ (3 : Int) = 7; decide)]
  have hf : fld16 (f3 n m k) G = G := by unfold fld16; rw [if_neg (show ¬ (f3 n m k).kind = 1 from by show ¬ (3 : Int) = 1; decide), if_neg (show ¬ ((f3 n m k).kind = 2 ∨ (f3 n m k).kind = 4) from by show ¬ ((3 : Int) = 2 ∨ (3 : Int) = 4); decide)]
  unfold LC
  dsimp only
  cases hc : can b 1 with
  | true =>
    rw [hc, if_pos rfl] at ho
    rw [run_go (by rw [ho]; rfl), hb, hd, hf]
    exact ⟨rfl, rfl⟩
  | false =>
    rw [hc, if_neg (by decide)] at ho
    rw [run_stop (by rw [ho]; rfl), hb, hd, ho]
    exact ⟨rfl, rfl⟩
/-- tokens are there -/
theorem lc_take {dv dn : Int → Int} {n m k r t told d now : Int} (method : L) (size : Int) (G : List HField) (hk : 1 ≤ k) (h0 : r * k ≤ now) (h1 : now < r * k + k) (ht : t ≤ n) (h1t : 1 ≤ t) (hn : told ≤ now) (h2 : now ≤ 1099511627776) :
    req16 dv dn (LC n m k r t told d) now method size G = (⟨false, 0, [], [], G⟩, 0) ∧ nxt16 dv dn (LC n m k r t told d) now method size G = LC n m k r (t - 1) now d := by
  obtain ⟨a1, a2⟩ := lc_req (dv := dv) (dn := dn) n m k r t told d now method size G _ (pass_at n m k r t told now hk h0 h1 ht) hn h2
  obtain ⟨b1, b2⟩ := less_one n m k r t now h1t
  rw [a1, a2, b1, b2]
  exact ⟨rfl, rfl⟩
/-- none is there -/
theorem lc_stop {dv dn : Int → Int} {n m k r told d now : Int} (method : L) (size : Int) (G : List HField) (hk : 1 ≤ k) (h0 : r * k ≤ now) (h1 : now < r * k + k) (ht : 0 ≤ n) (hn : told ≤ now) (h2 : now ≤ 1099511627776) :
    req16 dv dn (LC n m k r 0 told d) now method size G = (say16 429 [] SLOW, 0) ∧ nxt16 dv dn (LC n m k r 0 told d) now method size G = LC n m k r 0 now d := by
  obtain ⟨a1, a2⟩ := lc_req (dv := dv) (dn := dn) n m k r 0 told d now method size G _ (pass_at n m k r 0 told now hk h0 h1 ht) hn h2
  obtain ⟨b1, b2⟩ := less_none n m k r now
  rw [a1, a2, b1, b2]
  exact ⟨rfl, rfl⟩
/-- the first of a next round -/
theorem lc_fill {dv dn : Int → Int} {n m k r told d : Int} (method : L) (size : Int) (G : List HField) (hk : 1 ≤ k) (hn : 1 ≤ n) (hm : 1 ≤ m) (hn1 : told ≤ (r + 1) * k) (h2 : (r + 1) * k ≤ 1099511627776) :
    req16 dv dn (LC n m k r 0 told d) ((r + 1) * k) method size G = (⟨false, 0, [], [], G⟩, 0) ∧ nxt16 dv dn (LC n m k r 0 told d) ((r + 1) * k) method size G = LC n m k (r + 1) (min n m - 1) ((r + 1) * k) d := by
  obtain ⟨a1, a2⟩ := lc_req (dv := dv) (dn := dn) n m k r 0 told d ((r + 1) * k) method size G _ (pass_next n m k r told hk (by omega)) hn1 h2
  obtain ⟨b1, b2⟩ := less_one n m k (r + 1) (min n m) ((r + 1) * k) (by omega)
  rw [a1, a2, b1, b2]
  exact ⟨rfl, rfl⟩
/-- how many go on at once in round r -/
def most (n m r : Int) : Int := if r = 0 then n else min n m
/-- the chain behind i requests of round r -/
structure At (n m k d r i : Int) (s : Cn) : Prop where
  zero : i = 0 → (r = 0 ∧ s = LC n m k 0 n 0 d) ∨ (1 ≤ r ∧ ∃ told, told ≤ r * k ∧ s = LC n m k (r - 1) 0 told d)
  pos : 1 ≤ i → s = LC n m k r (max 0 (most n m r - i)) (r * k) d
theorem At.start (n m k d : Int) : At n m k d 0 0 (LC n m k 0 n 0 d) := ⟨fun _ => .inl ⟨rfl, rfl⟩, fun h => by omega⟩
theorem At.step {dv dn : Int → Int} {n m k d r i : Int} {s : Cn} (h : At n m k d r i s) (hn : 1 ≤ n ∧ n ≤ 1000) (hm : 1 ≤ m ∧ m ≤ 1000) (hk : 1 ≤ k ∧ k ≤ 1000) (hr : 0 ≤ r ∧ r ≤ 1000) (hi : 0 ≤ i ∧ i ≤ most n m r) (method : L) (size : Int) (G : List HField) :
    req16 dv dn s (r * k) method size G = (if i = most n m r then say16 429 [] SLOW else ⟨false, 0, [], [], G⟩, 0) ∧ At n m k d r (i + 1) (nxt16 dv dn s (r * k) method size G) := by
  have hrk : 0 ≤ r * k := Int.mul_nonneg hr.1 (by omega)
  have hrk2 : r * k ≤ 1000000 := by have := Int.mul_le_mul hr.2 hk.2 (by omega) (by omega); omega
  have hmp : 1 ≤ most n m r := by unfold most; split <;> omega
  by_cases h0 : i = 0
  · subst h0
    rw [if_neg (by omega)]
    rcases h.zero rfl with ⟨rfl, rfl⟩ | ⟨h1, told, h2, rfl⟩
    · obtain ⟨a1, a2⟩ := lc_take (dv := dv) (dn := dn) (n := n) (m := m) (k := k) (r := 0) (t := n) (told := 0) (d := d) (now := 0 * k) method size G hk.1 (Int.le_refl _) (by omega) (Int.le_refl _) hn.1 (by omega) (by omega)
      rw [a1, a2]
      refine ⟨rfl, fun h => by omega, fun _ => ?_⟩
      rw [show max 0 (most n m 0 - (0 + 1)) = n - 1 from by unfold most; rw [if_pos rfl]; omega]
    · have e : r = r - 1 + 1 := by omega
      obtain ⟨a1, a2⟩ := lc_fill (dv := dv) (dn := dn) (n := n) (m := m) (k := k) (r := r - 1) (told := told) (d := d) method size G hk.1 hn.1 hm.1 (by rw [← e]; exact h2) (by rw [← e]; omega)
      rw [← e] at a1 a2
      rw [a1, a2]
      refine ⟨rfl, fun h => by omega, fun _ => ?_⟩
      rw [show max 0 (most n m r - (0 + 1)) = min n m - 1 from by unfold most; rw [if_neg (by omega)]; omega]
  · have hs := h.pos (by omega)
    subst hs
    have hmn : most n m r ≤ n := by unfold most; split <;> omega
    by_cases he : i = most n m r
    · rw [if_pos he, show max 0 (most n m r - i) = 0 from by omega]
      obtain ⟨a1, a2⟩ := lc_stop (dv := dv) (dn := dn) (n := n) (m := m) (k := k) (r := r) (told := r * k) (d := d) (now := r * k) method size G hk.1 (Int.le_refl _) (by omega) (by omega) (Int.le_refl _) (by omega)
      rw [a1, a2]
      exact ⟨rfl, fun h => by omega, fun _ => by rw [show max 0 (most n m r - (i + 1)) = 0 from by omega]⟩
    · rw [if_neg he]
      obtain ⟨a1, a2⟩ := lc_take (dv := dv) (dn := dn) (n := n) (m := m) (k := k) (r := r) (t := max 0 (most n m r - i)) (told := r * k) (d := d) (now := r * k) method size G hk.1 (Int.le_refl _) (by omega) (by omega) (by omega) (Int.le_refl _) (by omega)
      rw [a1, a2]
      exact ⟨rfl, fun h => by omega, fun _ => by rw [show max 0 (most n m r - (i + 1)) = max 0 (most n m r - i) - 1 from by omega]⟩
/-- the last request of a round -/
theorem At.last {dv dn : Int → Int} {n m k d r : Int} {s : Cn} (h : At n m k d r (most n m r + 1) s) (hn : 1 ≤ n ∧ n ≤ 1000) (hm : 1 ≤ m ∧ m ≤ 1000) (hk : 1 ≤ k ∧ k ≤ 1000) (hr : 0 ≤ r ∧ r ≤ 1000) (method : L) (size : Int) (G : List HField) :
    req16 dv dn s (r * k + k - 1) method size G = (say16 429 [] SLOW, 0) ∧ At n m k d (r + 1) 0 (nxt16 dv dn s (r * k + k - 1) method size G) := by
  have hrk : 0 ≤ r * k := Int.mul_nonneg hr.1 (by omega)
  have hrk2 : r * k ≤ 1000000 := by have := Int.mul_le_mul hr.2 hk.2 (by omega) (by omega); omega
  have hmp : 1 ≤ most n m r := by unfold most; split <;> omega
  have hs := h.pos (by omega)
  subst hs
  rw [show max 0 (most n m r - (most n m r + 1)) = 0 from by omega]
  obtain ⟨a1, a2⟩ := lc_stop (dv := dv) (dn := dn) (n := n) (m := m) (k := k) (r := r) (told := r * k) (d := d) (now := r * k + k - 1) method size G hk.1 (by omega) (by omega) (by omega) (by omega) (by omega)
  rw [a1, a2]
  refine ⟨rfl, fun _ => .inr ⟨by omega, r * k + k - 1, ?_, by rw [show r + 1 - 1 = r from by omega]⟩, fun h => by omega⟩
  rw [Int.add_mul]
  omega
end Go.Proofs.Ytfdpoibmlggfbaa.FiltRate

/- A limit lets through at once just as many as it holds, then none, and behind each filling just as many more: FilterRate returns true, whatever the four numbers. -/
namespace Go.Proofs.Ytfdpoibmlggfbaa.FilterRateW
open Go.ChangeShapes Go.WideShapes Go.ChangeAt Go.RowKit Bytes LexPure ConfPure ConfMem FieldsPure Flds FilterPure FiltState FiltKeep FiltRate FiltObj L16Anchor Ret Mem Step
set_option maxRecDepth 100000
set_option linter.unusedVariables false
set_option linter.unusedSimpArgs false
theorem filts_one (n m k : Int) (w : World) : Filts (w.alloc (.cells #[.int .i64 3, .string ⟨#[]⟩, .string ⟨#[]⟩, .int .i64 n, .int .i64 m, .int .i64 k] 29)) (.slice (some ⟨w.heap.size, 0, none⟩) 1 1) [f3 n m k] := by
  refine ⟨_, _, rfl, Nat.le_of_ble_eq_true rfl, fun _ => ⟨w.heap.size, 0, rfl, by simp, fun i hi j hj => ?_⟩⟩
  rw [(Has.new w _ _).cell]
  obtain rfl : i = 0 := by have : i < 1 := hi; omega
  have hj2 : j = 0 ∨ j = 1 ∨ j = 2 ∨ j = 3 ∨ j = 4 ∨ j = 5 := by omega
  rcases hj2 with rfl | rfl | rfl | rfl | rfl | rfl <;> rfl
/-- the chain behind i requests of round r -/
def Rt (w : World) (g : Nat) (n m k r i : Int) (W : World) : Prop := ∃ F s, Lc w F g s W ∧ At n m k (seed16 0) r i s ∧ s.fs.length = 1
theorem Rt.call {w W W' : World} {g : Nat} {n m k r i : Int} (x : Rt w g n m k r i W) (hb : Below W.heap.size W W') : Rt w g n m k r i W' := by
  obtain ⟨F, s, h1, h2, h3⟩ := x
  exact ⟨F, s, h1.call hb, h2, h3⟩
theorem nxt_len {dv dn : Int → Int} {s : Cn} {now : Int} {method : L} {size : Int} {G : List HField} : (nxt16 dv dn s now method size G).fs = s.fs := by unfold nxt16; split <;> rfl
/-- what a request of a round is told -/
def Told (w W : World) (g : Nat) (n m k r i : Int) (stop : Bool) (e : Ending) (W' : World) : Prop :=
  ∃ pf nf cf pp np cp bd, e = .returned (.tuple #[.agg #[.bool stop, .int .i64 (if stop then 429 else 0), .slice pf nf cf, .string bd, .slice pp np cp], .int .i64 0]) ∧ Rt w g n m k r i W'
theorem told_of {w W : World} {g : Nat} {n m k r r' i i' now : Int} {stop : Bool} (hst : ∀ s, At n m k (seed16 0) r i s → (req16 dv16 dn16 s now GET 0 [] = (if stop then say16 429 [] SLOW else ⟨false, 0, [], [], []⟩, 0)) ∧ At n m k (seed16 0) r' i' (nxt16 dv16 dn16 s now GET 0 [])) (hn : inI now) (x : Rt w g n m k r i W) :
    Calls Try.prog 16 #[.pointer (some ⟨g, 0, none⟩), .int .i64 now, .string ⟨#[71, 69, 84]⟩, .slice none 0 0, .int .i64 0] W (Told w W g n m k r' i' stop) := by
  obtain ⟨F, s, h1, h2, h3⟩ := x
  obtain ⟨a1, a2⟩ := hst s h2
  refine (preq16 F g s now hn ⟨#[71, 69, 84]⟩ (by decide) 0 ⟨by decide, by decide⟩ (.slice none 0 0) [] few_nil (by rw [h3]; decide) W h1.ch (fl_nil W)).mono ?_
  rintro e W' ⟨fl, pl, F', rfl, hfl, hpl, -, -, hch, hs⟩
  rw [show toL ⟨#[71, 69, 84]⟩ = GET from rfl] at hch hfl hpl ⊢
  obtain ⟨pf, cf, rfl, -⟩ := RowKeep.row_form hfl
  obtain ⟨pp, cp, rfl, -⟩ := RowKeep.row_form hpl
  rw [a1] at hfl hpl ⊢
  have hlen : (nxt16 dv16 dn16 s now GET 0 []).fs.length = 1 := by rw [nxt_len]; exact h3
  cases stop
  · exact ⟨pf, 0, cf, pp, 0, cp, ofL [], rfl, F', _, h1.turn hch hs, a2, hlen⟩
  · exact ⟨pf, 0, cf, pp, 0, cp, ofL SLOW, rfl, F', _, h1.turn hch hs, a2, hlen⟩
set_option maxHeartbeats 6400000 in
theorem walkIn (n m k rounds : Int) (hn : 1 ≤ n ∧ n ≤ 50) (hm : 1 ≤ m ∧ m ≤ 50) (hk : 1 ≤ k ∧ k ≤ 1000) (hr : 0 ≤ rounds ∧ rounds ≤ 20) (w : World) :
    Calls Try.prog 7 #[.int .i64 n, .int .i64 m, .int .i64 k, .int .i64 rounds] w fun e w' => e = .returned (.bool true) ∧ Below w.heap.size w w' := by
  have HAn := Lib.hid (fun w => anchor_any w)
  have HNew := Lib.hid (fun w => pnew16 [f3 n m k] (fun f hf => by obtain rfl := List.mem_singleton.1 hf; exact f3_right ⟨hn.1, by omega⟩ ⟨hm.1, by omega⟩ hk) (by show 1 ≤ 4194304; exact Nat.le_of_ble_eq_true rfl) 0 ⟨by decide, by decide⟩ _ _ (filts_one n m k w))
  obtain ⟨n1, n2⟩ := hn
  obtain ⟨m1, m2⟩ := hm
  obtain ⟨k1, k2⟩ := hk
  obtain ⟨r1, r2⟩ := hr
  have q1 : ¬ n < 1 := by omega
  have q2 : ¬ 50 < n := by omega
  have q3 : ¬ m < 1 := by omega
  have q4 : ¬ 50 < m := by omega
  have q5 : ¬ k < 1 := by omega
  have q6 : ¬ 1000 < k := by omega
  have q7 : ¬ rounds < 0 := by omega
  have q8 : ¬ 20 < rounds := by omega
  go_enter Try.func7, Try.ntmps7
  go_wp2_with fail
  refine (HAn.out _).mono ?_
  rintro e w1 ⟨rfl, hb1⟩
  have HB1 := Lib.hid hb1
  clear hb1 HAn
  go_wp2_with fail
  refine (HNew.out w1).mono ?_
  rintro e w2 ⟨⟨g, F, rfl, hch, hlo⟩, hb2⟩
  have hb3 := below_chain ((Below.refl w1.heap.size w1).alloc (Nat.le_refl _) (.cells #[.int .i64 3, .string ⟨#[]⟩, .string ⟨#[]⟩, .int .i64 n, .int .i64 m, .int .i64 k] 29)) hb2
  have HK0 : Hid (Rt w g n m k 0 0 w2) := Lib.hid ⟨F, _, ⟨hch, fun j hj => by have := hlo j hj; have h2 := HB1.out.size; simp at this; omega, below_chain HB1.out hb3⟩, by rw [lc_start]; exact At.start n m k _, rfl⟩
  clear hch hlo hb2 hb3 HNew HB1 q1 q2 q3 q4 q5 q6 q7 q8
  go_wp2_with fail
  go_loopw [10] (fun i wr => ∃ r : Int, 0 ≤ r ∧ r ≤ rounds + 1 ∧ i = .int .i64 r ∧ Hid (Rt w g n m k r 0 wr)) (fun i _ => (rounds + 1 - intOf i).toNat)
  case atStart => exact ⟨0, by omega, by omega, rfl, HK0⟩
  case round =>
    obtain ⟨r, p0, p1, rfl, HK⟩ := hrel
    clear HK0
    by_cases hlt : r ≤ rounds
    · have b1 : 0 ≤ r * k := Int.mul_nonneg p0 (by omega)
      have b2 : r * k ≤ 20 * 1000 := Int.mul_le_mul (by omega) k2 (by omega) (by omega)
      have hz : (¬ 0 < r ∧ Hid (most n m r = n)) ∨ (0 < r ∧ m < n ∧ Hid (most n m r = m)) ∨ (0 < r ∧ ¬ m < n ∧ Hid (most n m r = n)) := by
        by_cases h : 0 < r
        · by_cases h2 : m < n
          · exact .inr (.inl ⟨h, h2, Lib.hid (by unfold most; rw [if_neg (by omega)]; omega)⟩)
          · exact .inr (.inr ⟨h, h2, Lib.hid (by unfold most; rw [if_neg (by omega)]; omega)⟩)
        · exact .inl ⟨h, Lib.hid (by unfold most; rw [if_pos (by omega)])⟩
      rcases hz with ⟨z1, HM⟩ | ⟨z1, z2, HM⟩ | ⟨z1, z2, HM⟩
      all_goals
        go_wp2_with fail
        go_loopw [12] (fun i wr => ∃ j : Int, 0 ≤ j ∧ Hid (j ≤ most n m r + 1) ∧ i = .int .i64 j ∧ Hid (Rt w g n m k r j wr)) (fun i _ => (most n m r + 1 - intOf i).toNat)
        case atStart => exact ⟨0, Int.le_refl _, Lib.hid (by have := HM.out; omega), rfl, HK⟩
        case round =>
          obtain ⟨j, p2, HJ3, rfl, HJ⟩ := hrel
          clear HK
          by_cases hj : j ≤ most n m r
          · have hj2 := hj
            rw [HM.out] at hj2
            by_cases hq : j = most n m r
            · have HT := Lib.hid (fun W h => told_of (w := w) (W := W) (g := g) (n := n) (m := m) (k := k) (r := r) (r' := r) (i := j) (i' := j + 1) (now := r * k) (stop := true) (fun s hs => by have := At.step (dv := dv16) (dn := dn16) hs ⟨n1, by omega⟩ ⟨m1, by omega⟩ ⟨k1, k2⟩ ⟨p0, by omega⟩ ⟨p2, hj⟩ GET 0 []; rw [if_pos hq] at this; exact this) ⟨by omega, by omega⟩ h)
              rw [HM.out] at hq
              have HQ := Lib.hid hq
              subst hq
              go_wp2_with fail
              refine (HT.out _ HJ.out).mono ?_
              rintro e W' ⟨pf, nf, cf, pp, np, cp, bd, rfl, HR⟩
              go_wp2_with fail
              go_roundw
              case rel => exact ⟨j + 1, by omega, Lib.hid (by omega), by go_num, Lib.hid (HR.call ((Below.refl _ _).alloc (Nat.le_refl _) _))⟩
              case measure => simp [intOf]; omega
            · have HT := Lib.hid (fun W h => told_of (w := w) (W := W) (g := g) (n := n) (m := m) (k := k) (r := r) (r' := r) (i := j) (i' := j + 1) (now := r * k) (stop := false) (fun s hs => by have := At.step (dv := dv16) (dn := dn16) hs ⟨n1, by omega⟩ ⟨m1, by omega⟩ ⟨k1, k2⟩ ⟨p0, by omega⟩ ⟨p2, hj⟩ GET 0 []; rw [if_neg hq] at this; exact this) ⟨by omega, by omega⟩ h)
              rw [HM.out] at hq
              go_wp2_with fail
              refine (HT.out _ HJ.out).mono ?_
              rintro e W' ⟨pf, nf, cf, pp, np, cp, bd, rfl, HR⟩
              go_wp2_with fail
              go_roundw
              case rel => exact ⟨j + 1, by omega, Lib.hid (by omega), by go_num, Lib.hid (HR.call ((Below.refl _ _).alloc (Nat.le_refl _) _))⟩
              case measure => simp [intOf]; omega
          · have hj2 := hj
            rw [HM.out] at hj2
            have hj3 : j = most n m r + 1 := by have := HJ3.out; omega
            subst hj3
            have HT := Lib.hid (fun W h => told_of (w := w) (W := W) (g := g) (n := n) (m := m) (k := k) (r := r) (r' := r + 1) (i := most n m r + 1) (i' := 0) (now := r * k + k - 1) (stop := true) (fun s hs => At.last (dv := dv16) (dn := dn16) hs ⟨n1, by omega⟩ ⟨m1, by omega⟩ ⟨k1, k2⟩ ⟨p0, by omega⟩ GET 0 []) ⟨by omega, by omega⟩ h)
            go_wp2_with fail
            refine (HT.out _ HJ.out).mono ?_
            rintro e W' ⟨pf, nf, cf, pp, np, cp, bd, rfl, HR⟩
            go_wp2_with fail
            go_roundw
            case rel => exact ⟨r + 1, by omega, by omega, by go_num, Lib.hid (HR.call ((Below.refl _ _).alloc (Nat.le_refl _) _))⟩
            case measure => simp [intOf]; omega
    · go_wp2_with fail
      go_ret
      exact ⟨rfl, by obtain ⟨F', s', h, -, -⟩ := HK.out; exact h.below⟩
set_option maxHeartbeats 1600000 in
theorem walkOut (n m k rounds : Int) (hin : ¬ ((1 ≤ n ∧ n ≤ 50) ∧ (1 ≤ m ∧ m ≤ 50) ∧ (1 ≤ k ∧ k ≤ 1000) ∧ (0 ≤ rounds ∧ rounds ≤ 20))) (w : World) :
    Calls Try.prog 7 #[.int .i64 n, .int .i64 m, .int .i64 k, .int .i64 rounds] w fun e w' => e = .returned (.bool true) ∧ Below w.heap.size w w' := by
  have hx : n < 1 ∨ (1 ≤ n ∧ 50 < n) ∨ (1 ≤ n ∧ n ≤ 50 ∧ m < 1) ∨ (1 ≤ n ∧ n ≤ 50 ∧ 1 ≤ m ∧ 50 < m) ∨ (1 ≤ n ∧ n ≤ 50 ∧ 1 ≤ m ∧ m ≤ 50 ∧ k < 1) ∨ (1 ≤ n ∧ n ≤ 50 ∧ 1 ≤ m ∧ m ≤ 50 ∧ 1 ≤ k ∧ 1000 < k) ∨
      (1 ≤ n ∧ n ≤ 50 ∧ 1 ≤ m ∧ m ≤ 50 ∧ 1 ≤ k ∧ k ≤ 1000 ∧ rounds < 0) ∨ (1 ≤ n ∧ n ≤ 50 ∧ 1 ≤ m ∧ m ≤ 50 ∧ 1 ≤ k ∧ k ≤ 1000 ∧ 0 ≤ rounds ∧ 20 < rounds) := by
    have : ¬ (1 ≤ n ∧ n ≤ 50 ∧ 1 ≤ m ∧ m ≤ 50 ∧ 1 ≤ k ∧ k ≤ 1000 ∧ 0 ≤ rounds ∧ rounds ≤ 20) := fun ⟨a1, a2, a3, a4, a5, a6, a7, a8⟩ => hin ⟨⟨a1, a2⟩, ⟨a3, a4⟩, ⟨a5, a6⟩, a7, a8⟩
    omega
  clear hin
  rcases hx with h1 | ⟨h0, h1⟩ | ⟨h0, h0', h1⟩ | ⟨h0, h0', h2, h1⟩ | ⟨h0, h0', h2, h2', h1⟩ | ⟨h0, h0', h2, h2', h3, h1⟩ | ⟨h0, h0', h2, h2', h3, h3', h1⟩ | ⟨h0, h0', h2, h2', h3, h3', h4, h1⟩
  all_goals
    go_enter Try.func7, Try.ntmps7
    go_wp2_with fail
    refine (anchor_any _).mono ?_
    rintro x wa ⟨rfl, hb⟩
    go_wp2_with fail
    go_ret
    exact ⟨rfl, hb⟩
theorem walk (n : Int) (_ : (Lit.int .i64 n).wf = true) (m : Int) (_ : (Lit.int .i64 m).wf = true) (k : Int) (_ : (Lit.int .i64 k).wf = true) (rounds : Int) (_ : (Lit.int .i64 rounds).wf = true) (w : World) :
    Calls Try.prog 7 #[.int .i64 n, .int .i64 m, .int .i64 k, .int .i64 rounds] w fun e w' => e = .returned (.bool true) ∧ Below w.heap.size w w' := by
  by_cases hin : (1 ≤ n ∧ n ≤ 50) ∧ (1 ≤ m ∧ m ≤ 50) ∧ (1 ≤ k ∧ k ≤ 1000) ∧ (0 ≤ rounds ∧ rounds ≤ 20)
  · exact walkIn n m k rounds hin.1 hin.2.1 hin.2.2.1 hin.2.2.2 w
  · exact walkOut n m k rounds hin w
end Go.Proofs.Ytfdpoibmlggfbaa.FilterRateW
