/- Texts of this seat, one behind another: RouteLong, RouteLongestW. -/
import Derived.BigQuiet
import Derived.Deep.RegionHeld3
import Derived.Deep.DeepCutAuto
import Derived.Deep.AppendLies
import Derived.IntWalk
import Derived.Deep.RegionLaw
import Derived.Test.YtcjobblhendkbaaA2
import Derived.Test.YtcjobblhendkbaaA3
import Derived.Test.YtcjobblhendkbaaC
/- Layer 15: a host's own domain counts ahead of any wildcard, the longer wildcard ahead of the shorter, any of them ahead of the star. No program is named. -/
namespace Go.Proofs.Ytcjobblhendkbaa.RouteLong
open Bytes LexPure PathPure ConfPure ConfBack FieldsPure RoutePure RouteFind
set_option maxRecDepth 20000
set_option linter.unusedVariables false
set_option linter.unusedSimpArgs false
/-- small letters alone, and one at least -/
structure Let (s : L) : Prop where
  ne : s ≠ []
  all : ∀ x ∈ s, 97 ≤ x.toNat ∧ x.toNat ≤ 122
theorem Let.len {s : L} (h : Let s) : 0 < s.length := List.length_pos_iff.2 h.ne
theorem Let.no {s : L} (h : Let s) {x : UInt8} (hx : x.toNat < 97) : x ∉ s := fun hm => by have := (h.all x hm).1; omega
def D0 : L := [42]
def D1 (c : L) : L := [42, 46] ++ c
def D2 (b c : L) : L := [42, 46] ++ b ++ [46] ++ c
def D3 (a b c : L) : L := a ++ [46] ++ b ++ [46] ++ c
theorem star_no {s : L} (h : Let s) (t : L) : starW (s ++ t) = false := by
  cases s with
  | nil => exact absurd rfl h.ne
  | cons x s =>
    have hx : x ≠ 42 := fun e => h.no (x := 42) (by decide) (by rw [e]; exact List.mem_cons_self)
    unfold starW
    rw [beq_eq_false_iff_ne]
    intro e
    have := congrArg (List.head? ·) e
    simp at this
    exact hx this
theorem wild_no {s : L} (h : starW s = false) (host : L) : wildF s host = false := by unfold wildF; rw [h]; rfl
theorem wild_big {d host : L} (h : host.length < d.length) : wildF d host = false := by
  unfold wildF
  rw [decide_eq_false (by omega), Bool.false_and, Bool.and_false]
theorem wild_yes (t pre : L) (h : pre ≠ []) : wildF ([42, 46] ++ t) (pre ++ 46 :: t) = true := by
  have hl : 0 < pre.length := List.length_pos_iff.2 h
  unfold wildF starW
  rw [Bool.and_eq_true, Bool.and_eq_true]
  refine ⟨rfl, decide_eq_true (by simp; omega), ?_⟩
  rw [beq_iff_eq]
  have e : (pre ++ 46 :: t).length - (([42, 46] ++ t).length - 1) = pre.length := by simp
  rw [e, List.drop_left]
  rfl
theorem rank_zero {d host : L} (h1 : d ≠ host) (h2 : wildF d host = false) (h3 : d ≠ [42]) : rank15 d host = 0 := by
  unfold rank15
  rw [if_neg (by simpa using h1), if_neg (by rw [h2]; simp), if_neg (by simpa using h3)]
theorem rank_star {host : L} (h : host ≠ [42]) : rank15 D0 host = 1 := by
  unfold rank15 D0
  rw [if_neg (by simpa using fun e => h e.symm), if_neg (by rw [wild_no (by rfl)]; simp), if_pos (by rfl)]
theorem rank_wild {d host : L} (h1 : d ≠ host) (h2 : wildF d host = true) : rank15 d host = 1 + d.length := by
  unfold rank15
  rw [if_neg (by simpa using h1), if_pos h2]
theorem head_ne {s t u : L} (h : Let s) : (42 :: t) ≠ s ++ u := fun e => by
  cases s with
  | nil => exact h.ne rfl
  | cons x s =>
    injection e with e _
    exact h.no (x := 42) (by decide) (by rw [e]; exact List.mem_cons_self)
/-- a text without a dot, and a dot: they say where it is cut -/
theorem cut_dot : ∀ {s t u v : L}, (46 : UInt8) ∉ s → (46 : UInt8) ∉ t → s ++ 46 :: u = t ++ 46 :: v → s = t ∧ u = v
  | [], [], u, v, _, _, h => by injection h with _ h; exact ⟨rfl, h⟩
  | [], y :: t, u, v, _, h2, h => by injection h with h _; exact absurd (by rw [h]; exact List.mem_cons_self) h2
  | x :: s, [], u, v, h1, _, h => by injection h with h _; exact absurd (by rw [h]; exact List.mem_cons_self) h1
  | x :: s, y :: t, u, v, h1, h2, h => by
    injection h with e h
    obtain ⟨a, b⟩ := cut_dot (fun q => h1 (List.mem_cons_of_mem _ q)) (fun q => h2 (List.mem_cons_of_mem _ q)) h
    exact ⟨by rw [e, a], b⟩
theorem dot_no {s : L} (h : Let s) : (46 : UInt8) ∉ s := h.no (by decide)
/-- the four domains, in some order -/
structure Four (a b c : L) (ds : List L) : Prop where
  mem : ∀ d ∈ ds, d = D0 ∨ d = D1 c ∨ d = D2 b c ∨ d = D3 a b c
  m0 : D0 ∈ ds
  m1 : D1 c ∈ ds
  m2 : D2 b c ∈ ds
  m3 : D3 a b c ∈ ds
section
variable {a b c : L} {ds : List L}
theorem d3_form (a b c : L) : D3 a b c = a ++ 46 :: (b ++ 46 :: c) := by unfold D3; simp
theorem d2_form (b c : L) : D2 b c = [42, 46] ++ (b ++ 46 :: c) := by unfold D2; simp
theorem d3_star (ha : Let a) : starW (D3 a b c) = false := by rw [d3_form]; exact star_no ha _
theorem d3_ne (ha : Let a) : D3 a b c ≠ [42] := by rw [d3_form]; exact fun e => head_ne (t := []) ha e.symm
theorem d1_ne (hc : Let c) : D1 c ≠ [42] := fun e => by have := congrArg List.length e; have := hc.len; simp [D1] at *
theorem d2_ne : D2 b c ≠ [42] := fun e => by have := congrArg List.length e; simp [D2] at this
def Takes (ds : List L) (host x : L) : Prop := ∃ i, dom15 ds host = some i ∧ ∃ hi : i < ds.length, ds[i] = x
/-- no host: the star -/
theorem none_host (F : Four a b c ds) (ha : Let a) (hc : Let c) : Takes ds [] D0 := by
  have e0 : rank15 D0 [] = 1 := rank_star (by simp)
  refine dom_best F.m0 (by omega) (fun d hd hne => ?_)
  rw [e0]
  rcases F.mem d hd with rfl | rfl | rfl | rfl
  · exact absurd rfl hne
  · rw [rank_zero (by simp [D1]) (wild_big (by simp [D1])) (d1_ne hc)]; omega
  · rw [rank_zero (by simp [D2]) (wild_big (by simp [D2])) d2_ne]; omega
  · rw [rank_zero (by simp [D3]) (wild_no (d3_star ha) _) (d3_ne ha)]; omega
theorem short_host (F : Four a b c ds) (ha : Let a) (hb : Let b) (hc : Let c) : Takes ds ([113, 46] ++ c) (D1 c) := by
  have hf : [113, 46] ++ c = [113] ++ 46 :: c := rfl
  have e1 : rank15 (D1 c) ([113, 46] ++ c) = 1 + (D1 c).length := rank_wild (by simp [D1]) (by rw [hf]; exact wild_yes c [113] (by simp))
  have hl : (D1 c).length = 2 + c.length := by simp [D1]; omega
  refine dom_best F.m1 (by omega) (fun d hd hne => ?_)
  rw [e1]
  rcases F.mem d hd with rfl | rfl | rfl | rfl
  · rw [rank_star (by simp)]; omega
  · exact absurd rfl hne
  · rw [rank_zero (by simp [D2]) (wild_big (by have := hb.len; simp [D2]; omega)) d2_ne]; omega
  · rw [rank_zero (fun e => ?_) (wild_no (d3_star ha) _) (d3_ne ha)]
    · omega
    · rw [d3_form, hf] at e
      have := (cut_dot (dot_no ha) (by decide) e).2
      have := congrArg List.length this
      simp at this
      omega
theorem long_host (F : Four a b c ds) (ha : Let a) (hb : Let b) (hc : Let c) (hq : a ≠ [113]) : Takes ds ([113, 46] ++ b ++ [46] ++ c) (D2 b c) := by
  have hf : [113, 46] ++ b ++ [46] ++ c = [113] ++ 46 :: (b ++ 46 :: c) := by simp
  have hg : [113, 46] ++ b ++ [46] ++ c = ([113, 46] ++ b) ++ 46 :: c := by simp
  have e1 : rank15 (D2 b c) ([113, 46] ++ b ++ [46] ++ c) = 1 + (D2 b c).length := rank_wild (by simp [D2]) (by rw [hf, d2_form]; exact wild_yes _ [113] (by simp))
  have e2 : rank15 (D1 c) ([113, 46] ++ b ++ [46] ++ c) = 1 + (D1 c).length := rank_wild (by simp [D1]) (by rw [hg]; exact wild_yes c _ (by simp))
  have hl : (D1 c).length = 2 + c.length := by simp [D1]; omega
  have hl2 : (D2 b c).length = 3 + b.length + c.length := by simp [D2]; omega
  refine dom_best F.m2 (by omega) (fun d hd hne => ?_)
  rw [e1]
  rcases F.mem d hd with rfl | rfl | rfl | rfl
  · rw [rank_star (by simp)]; omega
  · rw [e2]; have := hb.len; omega
  · exact absurd rfl hne
  · rw [rank_zero (fun e => ?_) (wild_no (d3_star ha) _) (d3_ne ha)]
    · omega
    · rw [d3_form, hf] at e
      exact hq (cut_dot (dot_no ha) (by decide) e).1
theorem own_host (F : Four a b c ds) (ha : Let a) : Takes ds (D3 a b c) (D3 a b c) := by
  have e := rank_self (D3 a b c)
  refine dom_best F.m3 (by omega) (fun d hd hne => ?_)
  have h1 := rank_top d (D3 a b c)
  rw [e]
  rcases Nat.lt_or_ge (rank15 d (D3 a b c)) (2 + (D3 a b c).length) with q | q
  · exact q
  · exact absurd (rank_own (by omega)) hne
theorem own_of (F : Four a b c ds) (ha : Let a) (hq : a = [113]) : Takes ds ([113, 46] ++ b ++ [46] ++ c) (D3 a b c) := by
  have := own_host F ha
  rw [hq] at this ⊢
  exact this
theorem bare_host (F : Four a b c ds) (ha : Let a) (hb : Let b) (hc : Let c) : Takes ds c D0 := by
  have hc42 : c ≠ [42] := fun e => hc.no (x := 42) (by decide) (by rw [e]; exact List.mem_cons_self)
  have e0 : rank15 D0 c = 1 := rank_star hc42
  have hdot := dot_no hc
  refine dom_best F.m0 (by omega) (fun d hd hne => ?_)
  rw [e0]
  rcases F.mem d hd with rfl | rfl | rfl | rfl
  · exact absurd rfl hne
  · rw [rank_zero (fun e => hdot (by rw [← e]; simp [D1])) (wild_big (by simp [D1]; omega)) (d1_ne hc)]; omega
  · rw [rank_zero (fun e => hdot (by rw [← e]; simp [D2])) (wild_big (by simp [D2]; omega)) d2_ne]; omega
  · rw [rank_zero (fun e => hdot (by rw [← e]; simp [D3])) (wild_no (d3_star ha) _) (d3_ne ha)]; omega
/-- the four, turned round -/
theorem turned (t : Nat) : Four a b c ((List.range 4).map fun i => ([D0, D1 c, D2 b c, D3 a b c] : List L).getD ((i + t % 4) % 4) []) := by
  have h : t % 4 = 0 ∨ t % 4 = 1 ∨ t % 4 = 2 ∨ t % 4 = 3 := by omega
  rcases h with h | h | h | h <;> rw [h] <;> refine ⟨fun d hd => ?_, ?_, ?_, ?_, ?_⟩ <;> simp [List.range, List.range.loop] at *
  all_goals (rcases hd with q | q | q | q <;> simp [q])
end
end Go.Proofs.Ytcjobblhendkbaa.RouteLong

/- Whatever the order of the vhosts, a host takes its own domain ahead of any wildcard, the longer wildcard ahead of the shorter, any of them ahead of the star: RouteLongest returns true, whatever the three texts and the turn. -/
namespace Go.Proofs.Ytcjobblhendkbaa.RouteLongestW
open Go.ChangeShapes Go.WideShapes Go.ChangeAt Go.RowKit Bytes LexPure ConfPure ConfMem ConfOwn ConfCF RouteFind RouteLong PRouBest PRouDom RouRow RouState RowsArg RowKeep Ret Mem
set_option maxRecDepth 100000
set_option linter.unusedVariables false
set_option linter.unusedSimpArgs false
theorem infoV : (Try.prog.info? 36).map (fun i => (i.zero, i.size, i.bytes)) = some (some (.agg #[.string .empty, .slice none 0 0]), 2, 40) := by kernel_rfl
def X3 (a b c : ByteArray) (k : Nat) : ByteArray := if k = 0 then a else if k = 1 then b else c
theorem idx3 (a b c : ByteArray) (k : Nat) (hk : k < 3) (W : World) : (Instr.index 43 (.agg #[.string a, .string b, .string c]) (.int .i64 (k : Nat))).run Try.prog W = .ok (.string (X3 a b c k)) W := by
  have h : k = 0 ∨ k = 1 ∨ k = 2 := by omega
  rcases h with rfl | rfl | rfl <;> simp [X3, Instr.index, run_underlying (P := Try.prog) Try.underlying43, asIntOf, go_sem, Try.sizeOf9]
/-- the first n bytes are small letters -/
def Lets (s : ByteArray) (n : Nat) : Prop := ∀ x ∈ (toL s).take n, 97 ≤ x.toNat ∧ x.toNat ≤ 122
theorem Lets.step {s : ByteArray} {n : Nat} (h : Lets s n) (hn : n < s.size) (h1 : 97 ≤ s[n].toNat) (h2 : s[n].toNat ≤ 122) : Lets s (n + 1) := by
  intro x hx
  rw [toL_take_succ s n hn] at hx
  rcases List.mem_append.1 hx with q | q
  · exact h x q
  · obtain rfl := List.mem_singleton.1 q
    exact ⟨h1, h2⟩
theorem Lets.done {s : ByteArray} (h : Lets s s.size) (h0 : ¬ s.toList = []) : Let (toL s) := by
  have e : (toL s).take s.size = toL s := toL_take_all s (Nat.le_refl _)
  unfold Lets at h
  rw [e] at h
  refine ⟨fun q => h0 ?_, h⟩
  rw [ByteArray.toList_eq]
  exact q
def AllLet (a b c : ByteArray) (k : Nat) : Prop := ∀ j, j < k → Let (toL (X3 a b c j))
def T4 (a0 a1 a2 a3 : ByteArray) (j : Nat) : ByteArray := if j = 0 then a0 else if j = 1 then a1 else if j = 2 then a2 else a3
def VT4 (X : Nat → ByteArray) (t n : Nat) : List (Vhos × Value) := (List.range n).map fun k => ((⟨toL (X ((k + t) % 4)), []⟩ : Vhos), Value.slice none 0 0)
theorem VT4_len (X : Nat → ByteArray) (t n : Nat) : (VT4 X t n).length = n := by simp [VT4]
theorem VT4_succ (X : Nat → ByteArray) (t n : Nat) : (VT4 X t (n + 1)).flatMap vl = (VT4 X t n).flatMap vl ++ [.string (X ((n + t) % 4)), .slice none 0 0] := by
  unfold VT4
  rw [List.range_succ, List.map_append, List.flatMap_append]
  simp [vl, vhosV, ofL_toL]
def ZC : Conf := ⟨0, 0, 0, 0, 0, 0, [], [], []⟩
/-- behind n rounds -/
structure Lw (w : World) (gd : Nat) (a0 a1 a2 a3 : ByteArray) (t n : Nat) (vv : Value) (W : World) : Prop where
  box : Has W (gd + 1) 26 #[.int .i64 0, .int .i64 0, .int .i64 0, .int .i64 0, .int .i64 0, .int .i64 0, .slice none 0 0, .slice none 0 0, vv]
  dom : Has W gd 9 #[.string a0, .string a1, .string a2, .string a3]
  row : W.ownsRow (gd + 2) 36 2 vv n ((VT4 (T4 a0 a1 a2 a3) t n).flatMap vl)
  below : Below w.heap.size w W
  lo : w.heap.size ≤ gd
section
variable {w W W' : World} {gd : Nat} {a0 a1 a2 a3 : ByteArray} {t n : Nat} {vv : Value}
theorem Lw.call (x : Lw w gd a0 a1 a2 a3 t n vv W) (hb : Below W.heap.size W W') : Lw w gd a0 a1 a2 a3 t n vv W' := ⟨x.box.below hb x.box.lt, x.dom.below hb x.dom.lt, row_below x.row hb, below_chain x.below hb, x.lo⟩
theorem Lw.cell (x : Lw w gd a0 a1 a2 a3 t n vv W) (j : Nat) (hj : j < 4) : W.cell? ⟨gd, j, none⟩ = some (.string (T4 a0 a1 a2 a3 j)) := by
  have h : j = 0 ∨ j = 1 ∨ j = 2 ∨ j = 3 := by omega
  rcases h with rfl | rfl | rfl | rfl
  · exact x.dom.cell 0
  · exact x.dom.cell 1
  · exact x.dom.cell 2
  · exact x.dom.cell 3
/-- a vhost more -/
theorem Lw.more {v4 : Value} (x : Lw w gd a0 a1 a2 a3 t n vv W) (hown : W'.ownsRow (gd + 2) 36 2 v4 (n + 1) ((VT4 (T4 a0 a1 a2 a3) t n).flatMap vl ++ [.string (T4 a0 a1 a2 a3 ((n + t) % 4)), .slice none 0 0])) (hg : W.grownBy W' vv.ownBlock) :
    Lw w gd a0 a1 a2 a3 t (n + 1) v4 (W'.setCell ⟨gd + 1, 8, none⟩ v4) := by
  have h1 : ∀ k, vv.ownBlock = some k → gd + 2 ≤ k := fun k e => (x.row.lt k e).1
  have hb : Has W' (gd + 1) 26 #[.int .i64 0, .int .i64 0, .int .i64 0, .int .i64 0, .int .i64 0, .int .i64 0, .slice none 0 0, .slice none 0 0, vv] := x.box.grown hg (fun e => by have := h1 _ e.symm; omega)
  have hs := set_g W' (gd + 1) 8 v4
  refine ⟨hb.set_ 8 v4, (x.dom.grown hg (fun e => by have := h1 _ e.symm; omega)).grown hs (fun e => by injection e with e; omega), ?_, (x.below.grown hg x.below.size (fun k e => by have := h1 k e; have := x.lo; omega)).grown hs ?_ (fun k e => by injection e with e; have := x.lo; omega), x.lo⟩
  · rw [VT4_succ]
    exact row_set hown hb (by decide) 8 v4
  · exact Nat.le_trans x.below.size hg.size
end
def DS (X : Nat → ByteArray) (t : Nat) : List L := (List.range 4).map fun k => toL (X ((k + t) % 4))
theorem ds_of (X : Nat → ByteArray) (t : Nat) : ((VT4 X t 4).map (·.1)).map (·.domain) = DS X t := by simp [VT4, DS]
theorem four_of {a b c a1 a2 a3 : ByteArray} (h1 : toL a1 = D1 (toL c)) (h2 : toL a2 = D2 (toL b) (toL c)) (h3 : toL a3 = D3 (toL a) (toL b) (toL c)) (T t : Nat) (ht : t = T % 4) : Four (toL a) (toL b) (toL c) (DS (T4 ⟨#[42]⟩ a1 a2 a3) t) := by
  have h := turned (a := toL a) (b := toL b) (c := toL c) T
  have e : DS (T4 ⟨#[42]⟩ a1 a2 a3) t = (List.range 4).map fun i => ([D0, D1 (toL c), D2 (toL b) (toL c), D3 (toL a) (toL b) (toL c)] : List L).getD ((i + T % 4) % 4) [] := by
    unfold DS
    rw [ht]
    apply List.map_congr_left
    intro k _
    have hj : (k + T % 4) % 4 < 4 := Nat.mod_lt _ (by decide)
    generalize (k + T % 4) % 4 = j at hj
    have hj2 : j = 0 ∨ j = 1 ∨ j = 2 ∨ j = 3 := by omega
    rcases hj2 with rfl | rfl | rfl | rfl
    · rfl
    · exact h1
    · exact h2
    · exact h3
  rw [e]
  exact h
theorem below_dn {B : Nat} {w W : World} (h : Below B w W) (m : Nat) : Below B w (W.drewN m) := ⟨h.os, h.tape, h.output, h.size, h.block⟩
/-- the domain that counts, and where it lies -/
theorem take_at {w : World} {gd : Nat} {a1 a2 a3 : ByteArray} {t : Nat} {h D : L} (hT : Takes (DS (T4 ⟨#[42]⟩ a1 a2 a3) t) h D) {X : ByteArray} (hX : toL X = D) : ∃ i : Nat, domI (dom15 (DS (T4 ⟨#[42]⟩ a1 a2 a3) t) h) = (i : Int) ∧ i < 4 ∧
    ∀ W gv ck, Lw w gd ⟨#[42]⟩ a1 a2 a3 t 4 (.slice (some ⟨gv, 0, none⟩) 4 ck) W → W.cell? ⟨gv, i * 2, none⟩ = some (.string X) := by
  obtain ⟨i, h1, hi, h2⟩ := hT
  have hi4 : i < 4 := by simpa [DS] using hi
  refine ⟨i, by rw [h1]; rfl, hi4, fun W gv ck K => ?_⟩
  obtain ⟨g', c', hv', _, _, _, hc⟩ := RowKeep.row_at K.row (by decide)
  injection hv' with e1 _ _
  injection e1 with e1
  injection e1 with e1
  subst e1
  have hl : i < (VT4 (T4 ⟨#[42]⟩ a1 a2 a3) t 4).length := by rw [VT4_len]; exact hi4
  have := flat_at vl 2 (fun _ => rfl) (VT4 (T4 ⟨#[42]⟩ a1 a2 a3) t 4) i 0 hl (by decide)
  rw [Nat.add_zero] at this
  rw [hc _ (by omega), this]
  have e2 : (VT4 (T4 ⟨#[42]⟩ a1 a2 a3) t 4)[i] = ((⟨toL (T4 ⟨#[42]⟩ a1 a2 a3 ((i + t) % 4)), []⟩ : Vhos), Value.slice none 0 0) := by simp [VT4]
  rw [e2]
  have e3 : (DS (T4 ⟨#[42]⟩ a1 a2 a3) t)[i] = toL (T4 ⟨#[42]⟩ a1 a2 a3 ((i + t) % 4)) := by simp [DS]
  have e4 : T4 ⟨#[42]⟩ a1 a2 a3 ((i + t) % 4) = X := toL_inj ((e3.symm.trans h2).trans hX.symm)
  rw [e4]
  show some (Value.string (ofL (toL X))) = _
  rw [ofL_toL]
/-- the law's own Domain calls -/
theorem dom_call {w : World} {gd : Nat} {a1 a2 a3 : ByteArray} {t gv ck : Nat} (h : ByteArray) (hh : h.size ≤ 9223372036854775807) {W : World} (K : Lw w gd ⟨#[42]⟩ a1 a2 a3 t 4 (.slice (some ⟨gv, 0, none⟩) 4 ck) W) :
    Calls Try.prog 11 #[.agg #[.int .i64 0, .int .i64 0, .int .i64 0, .int .i64 0, .int .i64 0, .int .i64 0, .slice none 0 0, .slice none 0 0, .slice (some ⟨gv, 0, none⟩) 4 ck], .string h] W fun e w' => e = .returned (.int .i64 (domI (dom15 (DS (T4 ⟨#[42]⟩ a1 a2 a3) t) (toL h)))) ∧ Below W.heap.size W w' := by
  have hv : Vhoss W (.slice (some ⟨gv, 0, none⟩) 4 ck) ((VT4 (T4 ⟨#[42]⟩ a1 a2 a3) t 4).map (·.1)) := by
    have hr := K.row
    have hl := VT4_len (T4 ⟨#[42]⟩ a1 a2 a3) t 4
    refine vhoss_of (base := gd + 2) (by rw [hl]; exact hr) (fun p hp => ?_)
    obtain ⟨j, _, rfl⟩ := List.mem_map.1 hp
    exact routs_nil W
  have := pdomain_any { ZC with vhosts := (VT4 (T4 ⟨#[42]⟩ a1 a2 a3) t 4).map (·.1) } (.slice none 0 0) (.slice none 0 0) (.slice (some ⟨gv, 0, none⟩) 4 ck) h hh W ⟨⟨_, _, _, rfl⟩, ⟨_, _, _, rfl⟩, hv⟩
  rw [ds_of] at this
  exact this
theorem Lw.cells {w W : World} {gd : Nat} {a1 a2 a3 : ByteArray} {t gv ck : Nat} (K : Lw w gd ⟨#[42]⟩ a1 a2 a3 t 4 (.slice (some ⟨gv, 0, none⟩) 4 ck) W) : W.cell? ⟨gd + 1, 0, none⟩ = some (.int .i64 0) ∧ W.cell? ⟨gd + 1, 1, none⟩ = some (.int .i64 0) ∧ W.cell? ⟨gd + 1, 2, none⟩ = some (.int .i64 0) ∧ W.cell? ⟨gd + 1, 3, none⟩ = some (.int .i64 0) ∧ W.cell? ⟨gd + 1, 4, none⟩ = some (.int .i64 0) ∧ W.cell? ⟨gd + 1, 5, none⟩ = some (.int .i64 0) ∧ W.cell? ⟨gd + 1, 6, none⟩ = some (.slice none 0 0) ∧ W.cell? ⟨gd + 1, 7, none⟩ = some (.slice none 0 0) ∧ W.cell? ⟨gd + 1, 8, none⟩ = some (.slice (some ⟨gv, 0, none⟩) 4 ck) := by
  have B2 := K.box
  exact ⟨B2.cell 0, B2.cell 1, B2.cell 2, B2.cell 3, B2.cell 4, B2.cell 5, B2.cell 6, B2.cell 7, B2.cell 8⟩
set_option maxHeartbeats 6400000 in
theorem walkIn (a b c : ByteArray) (turn : Int) (ht : -9223372036854775808 ≤ turn ∧ turn ≤ 9223372036854775807) (ha : a.size ≤ 140737488351232) (hb : b.size ≤ 140737488351232) (hc : c.size ≤ 140737488351232) (w : World) :
    Calls Try.prog 5 #[.string a, .string b, .string c, .int .i64 turn] w fun e w' => e = .returned (.bool true) ∧ Below w.heap.size w w' := by
  have HAn := Lib.hid (fun w => L15Anchor.anchor_any w)
  have HIx := Lib.hid (fun k hk W => idx3 a b c k hk W)
  have H0 : Hid (AllLet a b c 0) := Lib.hid (fun j hj => by omega)
  have HSz : Hid (∀ k, (X3 a b c k).size ≤ 140737488351232) := Lib.hid (fun k => by unfold X3; split; exact ha; split; exact hb; exact hc)
  have HA := Lib.hid ha
  have HB := Lib.hid hb
  have HC := Lib.hid hc
  have HT := Lib.hid ht
  clear ha hb hc ht
  go_enter Try.func5, Try.ntmps5
  go_wp2_with fail
  refine (HAn.out _).mono ?_
  rintro e w1 ⟨rfl, hb1⟩
  have HB1 := Lib.hid hb1
  clear hb1 HAn
  go_wp2_with fail
  go_loop [25] (fun i => ∃ k : Nat, k ≤ 3 ∧ i = .int .i64 k ∧ Hid (AllLet a b c k)) (fun i => 3 - (intOf i).toNat)
  case atStart => exact ⟨0, by omega, rfl, H0⟩
  case round =>
    obtain ⟨k, hk, rfl, HL⟩ := hrel
    clear H0
    by_cases hlt : k < 3
    · have hki : (k : Int) < 3 := by omega
      have hx := HIx.out k hlt
      have hsz := HSz.out k
      have HX : Hid (∀ s, s = X3 a b c k → Let (toL s) → AllLet a b c (k + 1)) := Lib.hid (fun s e h j hj => by
        rcases Nat.lt_or_ge j k with q | q
        · exact HL.out j q
        · obtain rfl : j = k := by omega
          rw [← e]; exact h)
      obtain ⟨s, hs⟩ : ∃ s, s = X3 a b c k := ⟨_, rfl⟩
      rw [← hs] at hx hsz
      have HX2 := Lib.hid (HX.out s hs)
      clear HX hs HL
      go_wp2_with fail
      have HI0 : Hid (Lets s 0) := Lib.hid (fun x hx => by simp at hx)
      go_loop [30] (fun i => ∃ n : Nat, n ≤ s.size ∧ i = .int .i64 n ∧ Hid (Lets s n)) (fun i => s.size - (intOf i).toNat)
      case atStart => exact ⟨0, by omega, rfl, HI0⟩
      case round =>
        obtain ⟨n, hn, rfl, HI⟩ := hrel
        clear HI0
        by_cases hln : n < s.size
        · have hni : (n : Int) < (s.size : Int) := by omega
          have hn0 : (0 : Int) ≤ (n : Int) := by omega
          by_cases h1 : s[n].toNat < 97
          · have h1i : (s[n].toNat : Int) < 97 := by omega
            clear HI
            go_wp2_with fail
            go_ret
            exact ⟨rfl, HB1.out⟩
          have h1i : ¬ (s[n].toNat : Int) < 97 := by omega
          by_cases h2 : 122 < s[n].toNat
          · have h2i : (122 : Int) < (s[n].toNat : Int) := by omega
            clear HI
            go_wp2_with fail
            go_ret
            exact ⟨rfl, HB1.out⟩
          · have h2i : ¬ (122 : Int) < (s[n].toNat : Int) := by omega
            have HN := Lib.hid (HI.out.step hln (by omega) (by omega))
            clear HI
            go_wp2_with fail
            exact ⟨⟨n + 1, by omega, by go_num, HN⟩, by simp [intOf]; omega⟩
        · have hni : ¬ (n : Int) < (s.size : Int) := by omega
          obtain rfl : n = s.size := by omega
          by_cases h0 : s.toList = []
          · clear HI
            go_wp2_with fail
            go_ret
            exact ⟨rfl, HB1.out⟩
          · have h02 : s.toList.isEmpty = false := by cases h : s.toList <;> simp_all
            have HN := Lib.hid (HX2.out (HI.out.done h0))
            clear HI
            go_wp2_with fail
            exact ⟨⟨k + 1, by omega, by go_num, HN⟩, by simp [intOf]; omega⟩
    · have hki : ¬ (k : Int) < 3 := by omega
      obtain rfl : k = 3 := by omega
      have La := Lib.hid (show Let (toL a) from HL.out 0 (by decide))
      have Lb := Lib.hid (show Let (toL b) from HL.out 1 (by decide))
      have Lc := Lib.hid (show Let (toL c) from HL.out 2 (by decide))
      clear HL HIx HSz
      by_cases h0 : turn < 0
      · go_wp2_with fail
        go_ret
        exact ⟨rfl, HB1.out⟩
      obtain ⟨T, rfl⟩ : ∃ T : Nat, turn = (T : Int) := ⟨turn.toNat, by omega⟩
      have p1 : 2 + c.size ≤ 9223372036854775807 := by have := HC.out; omega
      have p2 : 2 + b.size ≤ 9223372036854775807 := by have := HB.out; omega
      have p3 : 2 + b.size + 1 ≤ 9223372036854775807 := by have := HB.out; omega
      have p4 : 2 + b.size + 1 + c.size ≤ 9223372036854775807 := by have := HB.out; have := HC.out; omega
      have p5 : a.size + 1 ≤ 9223372036854775807 := by have := HA.out; omega
      have p6 : a.size + 1 + b.size ≤ 9223372036854775807 := by have := HA.out; have := HB.out; omega
      have p7 : a.size + 1 + b.size + 1 ≤ 9223372036854775807 := by have := HA.out; have := HB.out; omega
      have p8 : a.size + 1 + b.size + 1 + c.size ≤ 9223372036854775807 := by have := HA.out; have := HB.out; have := HC.out; omega
      go_wp2_with fail
      obtain ⟨gd, hgd⟩ : ∃ gd, gd = w1.heap.size := ⟨_, rfl⟩
      have HL0 : Hid (Lw w gd ⟨#[42]⟩ (⟨#[42, 46]⟩ ++ c) (⟨#[42, 46]⟩ ++ b ++ ⟨#[46]⟩ ++ c) (a ++ ⟨#[46]⟩ ++ b ++ ⟨#[46]⟩ ++ c) (T % 4) 0 (.slice none 0 0) ((w1.alloc (.cells #[.string ⟨#[42]⟩, .string (⟨#[42, 46]⟩ ++ c), .string (⟨#[42, 46]⟩ ++ b ++ ⟨#[46]⟩ ++ c), .string (a ++ ⟨#[46]⟩ ++ b ++ ⟨#[46]⟩ ++ c)] 9)).alloc (.cells #[.int .i64 0, .int .i64 0, .int .i64 0, .int .i64 0, .int .i64 0, .int .i64 0, .slice none 0 0, .slice none 0 0, .slice none 0 0] 26))) := Lib.hid (by
        have b1 := (Below.refl w1.heap.size w1).alloc (Nat.le_refl _) (.cells #[.string ⟨#[42]⟩, .string (⟨#[42, 46]⟩ ++ c), .string (⟨#[42, 46]⟩ ++ b ++ ⟨#[46]⟩ ++ c), .string (a ++ ⟨#[46]⟩ ++ b ++ ⟨#[46]⟩ ++ c)] 9)
        have b2 := b1.alloc (by simp) (.cells #[.int .i64 0, .int .i64 0, .int .i64 0, .int .i64 0, .int .i64 0, .int .i64 0, .slice none 0 0, .slice none 0 0, .slice none 0 0] 26)
        have h2 := Has.new (w1.alloc (.cells #[.string ⟨#[42]⟩, .string (⟨#[42, 46]⟩ ++ c), .string (⟨#[42, 46]⟩ ++ b ++ ⟨#[46]⟩ ++ c), .string (a ++ ⟨#[46]⟩ ++ b ++ ⟨#[46]⟩ ++ c)] 9)) 26 #[.int .i64 0, .int .i64 0, .int .i64 0, .int .i64 0, .int .i64 0, .int .i64 0, .slice none 0 0, .slice none 0 0, .slice none 0 0]
        rw [show (w1.alloc (.cells #[.string ⟨#[42]⟩, .string (⟨#[42, 46]⟩ ++ c), .string (⟨#[42, 46]⟩ ++ b ++ ⟨#[46]⟩ ++ c), .string (a ++ ⟨#[46]⟩ ++ b ++ ⟨#[46]⟩ ++ c)] 9)).heap.size = w1.heap.size + 1 by simp] at h2
        subst hgd
        exact ⟨h2, (Has.new _ _ _).alloc _, World.ownsRow_nil _ _ _ _, below_chain HB1.out b2, HB1.out.size⟩)
      have HT1 : Hid (toL (⟨#[42, 46]⟩ ++ c) = D1 (toL c)) := Lib.hid (by rw [toL_append]; rfl)
      have HT2 : Hid (toL (⟨#[42, 46]⟩ ++ b ++ ⟨#[46]⟩ ++ c) = D2 (toL b) (toL c)) := Lib.hid (by rw [toL_append, toL_append, toL_append]; rfl)
      have HT3 : Hid (toL (a ++ ⟨#[46]⟩ ++ b ++ ⟨#[46]⟩ ++ c) = D3 (toL a) (toL b) (toL c)) := Lib.hid (by rw [toL_append, toL_append, toL_append, toL_append]; rfl)
      rw [← hgd]
      have HS1 : Hid (w1.heap.size = gd) := Lib.hid hgd.symm
      generalize ((w1.alloc (.cells #[.string ⟨#[42]⟩, .string (⟨#[42, 46]⟩ ++ c), .string (⟨#[42, 46]⟩ ++ b ++ ⟨#[46]⟩ ++ c), .string (a ++ ⟨#[46]⟩ ++ b ++ ⟨#[46]⟩ ++ c)] 9)).alloc (.cells #[.int .i64 0, .int .i64 0, .int .i64 0, .int .i64 0, .int .i64 0, .int .i64 0, .slice none 0 0, .slice none 0 0, .slice none 0 0] 26)) = w2 at HL0 ⊢
      generalize (⟨#[42, 46]⟩ ++ b ++ ⟨#[46]⟩ ++ c : ByteArray) = A2 at HL0 HT2 ⊢
      generalize (⟨#[42, 46]⟩ ++ c : ByteArray) = A1 at HL0 HT1 ⊢
      generalize (a ++ ⟨#[46]⟩ ++ b ++ ⟨#[46]⟩ ++ c : ByteArray) = A3 at HL0 HT3 ⊢
      clear hgd HB1
      obtain ⟨i0, hiv, hv0, hv1, hv2⟩ := info_parts infoV
      have r1 : (T : Int).tmod 4 = ((T % 4 : Nat) : Int) := by rw [Int.tmod_eq_emod_of_nonneg (by omega)]; rfl
      obtain ⟨t, htt⟩ : ∃ t, t = T % 4 := ⟨_, rfl⟩
      rw [← htt] at HL0 r1
      have ht4 : t < 4 := by rw [htt]; exact Nat.mod_lt _ (by decide)
      have HTT := Lib.hid htt
      clear htt
      have HV1 := Lib.hid hv1
      go_loopw [15] (fun i wr => ∃ k : Nat, k ≤ 4 ∧ i = .int .i64 k ∧ Hid (∃ vv, Lw w gd ⟨#[42]⟩ A1 A2 A3 t k vv wr)) (fun i _ => 4 - (intOf i).toNat)
      case atStart => exact ⟨0, by omega, rfl, Lib.hid ⟨_, HL0.out⟩⟩
      case round =>
        obtain ⟨k, hk, rfl, HJ⟩ := hrel
        clear HL0
        obtain ⟨vv, HK⟩ := HJ.out
        clear HJ
        by_cases hlt : k < 4
        · have hki : (k : Int) < 4 := by omega
          obtain ⟨pk, ck, rfl, hkc⟩ := RowKeep.row_form HK.row
          have K1 := HK.call (show Below wr.heap.size wr wr.drew from ⟨rfl, rfl, rfl, Nat.le_refl _, fun _ _ => rfl⟩)
          obtain ⟨j, hj⟩ : ∃ j, j = (k + t) % 4 := ⟨_, rfl⟩
          have hj4 : j < 4 := by rw [hj]; exact Nat.mod_lt _ (by decide)
          have ba := (Below.refl wr.heap.size wr).alloc (Nat.le_refl _) (.cells #[.string (T4 ⟨#[42]⟩ A1 A2 A3 j), .slice none 0 0] 36)
          have K2 := HK.call (show Below wr.heap.size wr (wr.alloc (.cells #[.string (T4 ⟨#[42]⟩ A1 A2 A3 j), .slice none 0 0] 36)).drew from ⟨ba.os, ba.tape, ba.output, ba.size, ba.block⟩)
          have c8 : wr.drew.cell? ⟨gd + 1, 8, none⟩ = some (.slice pk k ck) := K1.box.cell 8
          have c8a : (wr.alloc (.cells #[.string (T4 ⟨#[42]⟩ A1 A2 A3 j), .slice none 0 0] 36)).cell? ⟨gd + 1, 8, none⟩ = some (.slice pk k ck) := K2.box.cell 8
          have cj : wr.drew.cell? ⟨gd, j, none⟩ = some (.string (T4 ⟨#[42]⟩ A1 A2 A3 j)) := K1.cell j hj4
          have w1i : IntKind.i64.wrap ((k : Int) + (t : Int)) = (k : Int) + (t : Int) := IntWalk.i64_in _ (by omega)
          have w2i : ((k : Int) + (t : Int)).tmod 4 = (j : Int) := by rw [Int.tmod_eq_emod_of_nonneg (by omega), hj]; omega
          have j0 : (0 : Int) ≤ (j : Int) := by omega
          have j1 : (j : Int) < 4 := by omega
          have HNw := World.news_of_block (heap_alloc_new wr (.cells #[.string (T4 ⟨#[42]⟩ A1 A2 A3 j), .slice none 0 0] 36))
          have hrow := K2.row
          have hlo : gd + 2 ≤ (wr.alloc (.cells #[.string (T4 ⟨#[42]⟩ A1 A2 A3 j), .slice none 0 0] 36)).drew.heap.size := K2.box.lt
          have HJ4 := Lib.hid hj
          have h1 : k + 1 ≤ maxLen := by unfold maxLen; omega
          have h2 : (k + 1) * 40 ≤ 140737488355328 := by omega
          clear hj hj4 ba hkc
          go_wp2_with fail
          go_region_law (first
            | (refine step_append_lies _ (by rfl) (.tmp 72) (.tmp 84) 24 (by rfl) (gd + 2) 36 i0 (.agg #[.string .empty, .slice none 0 0]) 2 40 Try.underlying24 hiv hv0 hv1 hv2 (by rfl) (by decide) (.slice pk k ck) k ((VT4 (T4 ⟨#[42]⟩ A1 A2 A3) t k).flatMap vl) (by rfl) hrow ⟨wr.heap.size, 0, none⟩ 1 1 [.string (T4 ⟨#[42]⟩ A1 A2 A3 j), .slice none 0 0] (by rfl) (by rfl) HNw (by simp [Value.oneCell']) (by omega) h1 h2 hlo (wr.heap.size + 1) (by simp) ?_; intro g4 cap4 w4 hown4 hg4 hat4 hlt4
               have hb4 : Has w4 (gd + 1) 26 #[.int .i64 0, .int .i64 0, .int .i64 0, .int .i64 0, .int .i64 0, .int .i64 0, .slice none 0 0, .slice none 0 0, .slice pk k ck] := K2.box.grown hg4 (fun e => by have := (K2.row.lt _ e.symm).1; omega)
               have c4 : w4.cell? ⟨gd + 1, 8, none⟩ = some (.slice pk k ck) := hb4.cell 8
               have z4 := hb4.free 8))
          all_goals
            have HN := Lib.hid (K2.more (by rw [← HJ4.out]; exact hown4) hg4)
            clear K1 K2 c8 c8a cj w1i w2i j0 j1 HNw hrow hlo h1 h2 hown4 hg4 hat4 hlt4 hb4 c4 z4 HK
            go_wp2_with fail
            go_roundw
            case rel => exact ⟨k + 1, by omega, by go_num, Lib.hid ⟨_, HN.out⟩⟩
            case measure => simp [intOf]; omega
        · have hki : ¬ (k : Int) < 4 := by omega
          obtain rfl : k = 4 := by omega
          go_wp2_with fail
          obtain ⟨gh, hgh⟩ : ∃ gh, gh = wr.heap.size := ⟨_, rfl⟩
          obtain ⟨gv, ck, rfl, _, hgv, _, _⟩ := RowKeep.row_at HK.row (by decide)
          have hbh := (Below.refl wr.heap.size wr).alloc (Nat.le_refl _) (.cells #[.string ⟨#[]⟩, .string (⟨#[113, 46]⟩ ++ c), .string (⟨#[113, 46]⟩ ++ b ++ ⟨#[46]⟩ ++ c), .string (a ++ ⟨#[46]⟩ ++ b ++ ⟨#[46]⟩ ++ c)] 9)
          have HJ0 : Hid (Lw w gd ⟨#[42]⟩ A1 A2 A3 t 4 (.slice (some ⟨gv, 0, none⟩) 4 ck) (wr.alloc (.cells #[.string ⟨#[]⟩, .string (⟨#[113, 46]⟩ ++ c), .string (⟨#[113, 46]⟩ ++ b ++ ⟨#[46]⟩ ++ c), .string (a ++ ⟨#[46]⟩ ++ b ++ ⟨#[46]⟩ ++ c)] 9)) ∧ Has (wr.alloc (.cells #[.string ⟨#[]⟩, .string (⟨#[113, 46]⟩ ++ c), .string (⟨#[113, 46]⟩ ++ b ++ ⟨#[46]⟩ ++ c), .string (a ++ ⟨#[46]⟩ ++ b ++ ⟨#[46]⟩ ++ c)] 9)) gh 9 #[.string ⟨#[]⟩, .string (⟨#[113, 46]⟩ ++ c), .string (⟨#[113, 46]⟩ ++ b ++ ⟨#[46]⟩ ++ c), .string (a ++ ⟨#[46]⟩ ++ b ++ ⟨#[46]⟩ ++ c)]) := Lib.hid ⟨HK.call hbh, hgh ▸ Has.new _ _ _⟩
          have G1 : Hid (toL (⟨#[113, 46]⟩ ++ c) = [113, 46] ++ toL c) := Lib.hid (by rw [toL_append])
          have G2 : Hid (toL (⟨#[113, 46]⟩ ++ b ++ ⟨#[46]⟩ ++ c) = [113, 46] ++ toL b ++ [46] ++ toL c) := Lib.hid (by rw [toL_append, toL_append, toL_append])
          have G3 : Hid (toL (a ++ ⟨#[46]⟩ ++ b ++ ⟨#[46]⟩ ++ c) = D3 (toL a) (toL b) (toL c)) := Lib.hid (by rw [toL_append, toL_append, toL_append, toL_append]; rfl)
          have z1 : Hid ((⟨#[113, 46]⟩ ++ c : ByteArray).size ≤ 9223372036854775807) := Lib.hid (by rw [ByteArray.size_append]; exact p1)
          have z2 : Hid ((⟨#[113, 46]⟩ ++ b ++ ⟨#[46]⟩ ++ c : ByteArray).size ≤ 9223372036854775807) := Lib.hid (by rw [ByteArray.size_append, ByteArray.size_append, ByteArray.size_append]; exact p4)
          have z3 : Hid ((a ++ ⟨#[46]⟩ ++ b ++ ⟨#[46]⟩ ++ c : ByteArray).size ≤ 9223372036854775807) := Lib.hid (by rw [ByteArray.size_append, ByteArray.size_append, ByteArray.size_append, ByteArray.size_append]; exact p8)
          rw [← hgh]
          generalize wr.alloc (.cells #[.string ⟨#[]⟩, .string (⟨#[113, 46]⟩ ++ c), .string (⟨#[113, 46]⟩ ++ b ++ ⟨#[46]⟩ ++ c), .string (a ++ ⟨#[46]⟩ ++ b ++ ⟨#[46]⟩ ++ c)] 9) = w5 at HJ0 ⊢
          generalize (⟨#[113, 46]⟩ ++ b ++ ⟨#[46]⟩ ++ c : ByteArray) = Q2 at HJ0 G2 z2 ⊢
          generalize (⟨#[113, 46]⟩ ++ c : ByteArray) = Q1 at HJ0 G1 z1 ⊢
          generalize (a ++ ⟨#[46]⟩ ++ b ++ ⟨#[46]⟩ ++ c : ByteArray) = Q3 at HJ0 G3 z3 ⊢
          have HF4 := Lib.hid (four_of HT1.out HT2.out HT3.out T t HTT.out)
          have x0 := Lib.hid (take_at (w := w) (gd := gd) (none_host HF4.out La.out Lc.out) (X := ⟨#[42]⟩) rfl)
          have x1 := Lib.hid (take_at (w := w) (gd := gd) (short_host HF4.out La.out Lb.out Lc.out) HT1.out)
          have x3 := Lib.hid (take_at (w := w) (gd := gd) (own_host HF4.out La.out) HT3.out)
          have x4 := Lib.hid (take_at (w := w) (gd := gd) (bare_host HF4.out La.out Lb.out Lc.out) (X := ⟨#[42]⟩) rfl)
          rw [← G1.out] at x1
          rw [← G3.out] at x3
          have HD := Lib.hid (fun h hh W K => dom_call (w := w) (gd := gd) (a1 := A1) (a2 := A2) (a3 := A3) (t := t) (gv := gv) (ck := ck) h hh (W := W) K)
          clear HK hgh hgv hbh r1 ht4 hv0 hiv hv1 hv2 HV1 p1 p2 p3 p4 p5 p6 p7 p8
          go_loopw [103] (fun i wr => ∃ n : Int, (n = 0 ∨ n = 1 ∨ n = 2 ∨ n = 3 ∨ n = 4) ∧ i = .int .i64 n ∧ Hid (Lw w gd ⟨#[42]⟩ A1 A2 A3 t 4 (.slice (some ⟨gv, 0, none⟩) 4 ck) wr ∧ Has wr gh 9 #[.string ⟨#[]⟩, .string Q1, .string Q2, .string Q3])) (fun i _ => 4 - (intOf i).toNat)
          case atStart => exact ⟨0, by omega, rfl, HJ0⟩
          case round =>
            obtain ⟨k, hk5, rfl, HJ5⟩ := hrel
            clear HJ0
            rcases hk5 with rfl | rfl | rfl | rfl | rfl
            · skip
              obtain ⟨i', hd, hi4, hcl⟩ := x0.out
              have HDk := Lib.hid (fun W K => HD.out ⟨#[]⟩ (by decide) W K)
              rw [hd] at HDk
              have HCl := Lib.hid (fun W K => hcl W gv ck K)
              have q1 : decide ((i' : Int) < 0) = false := decide_eq_false (by omega)
              have q2 : decide ((4 : Int) ≤ (i' : Int)) = false := decide_eq_false (by omega)
              have q3 : decide (4 ≤ i') = false := decide_eq_false (by omega)
              have q4 : (i' : Int) < 4 := by omega
              have q5 : (0 : Int) ≤ (i' : Int) := by omega
              have hk0 : wr.cell? ⟨gh, 0, none⟩ = some (.string ⟨#[]⟩) := HJ5.out.2.cell 0
              obtain ⟨c0, c1, c2, c3, c4, c5, c6, c7, c8⟩ := HJ5.out.1.cells
              clear hd hi4 hcl
              go_wp2_with fail
              refine (HDk.out _ HJ5.out.1).mono ?_
              rintro e w6 ⟨rfl, hb6⟩
              have HJ6 := Lib.hid (And.intro (HJ5.out.1.call hb6) (HJ5.out.2.below hb6 HJ5.out.2.lt))
              clear HJ5 hb6 hk0 HDk c0 c1 c2 c3 c4 c5 c6 c7 c8
              have c8 : w6.cell? ⟨gd + 1, 8, none⟩ = some (.slice (some ⟨gv, 0, none⟩) 4 ck) := HJ6.out.1.box.cell 8
              have cv : w6.cell? ⟨gv, i' * 2, none⟩ = some (.string ⟨#[42]⟩) := HCl.out _ HJ6.out.1
              have cd : w6.cell? ⟨gd, 0, none⟩ = some (.string ⟨#[42]⟩) := HJ6.out.1.dom.cell 0
              have s1 : ((⟨#[42]⟩ : ByteArray).toList != (⟨#[42]⟩ : ByteArray).toList) = false := by show (!((⟨#[42]⟩ : ByteArray).toList == (⟨#[42]⟩ : ByteArray).toList)) = false; rw [beq_self_eq_true]; rfl
              have s2 : ((⟨#[42]⟩ : ByteArray).toList == (⟨#[42]⟩ : ByteArray).toList) = true := beq_self_eq_true _
              go_wp2_with fail
              go_quiet (fail)
              clear c8 cv cd
              go_wp2_with fail
              have HJ7 := Lib.hid (fun m => And.intro (HJ6.out.1.call (below_dn (Below.refl _ _) m)) (HJ6.out.2.drewN m))
              go_roundw
              case rel => exact ⟨1, .inr (.inl rfl), rfl, Lib.hid (HJ7.out _)⟩
              case measure => simp [intOf]
            · skip
              obtain ⟨i', hd, hi4, hcl⟩ := x1.out
              have HDk := Lib.hid (fun W K => HD.out Q1 z1.out W K)
              rw [hd] at HDk
              have HCl := Lib.hid (fun W K => hcl W gv ck K)
              have q1 : decide ((i' : Int) < 0) = false := decide_eq_false (by omega)
              have q2 : decide ((4 : Int) ≤ (i' : Int)) = false := decide_eq_false (by omega)
              have q3 : decide (4 ≤ i') = false := decide_eq_false (by omega)
              have q4 : (i' : Int) < 4 := by omega
              have q5 : (0 : Int) ≤ (i' : Int) := by omega
              have hk0 : wr.cell? ⟨gh, 1, none⟩ = some (.string Q1) := HJ5.out.2.cell 1
              obtain ⟨c0, c1, c2, c3, c4, c5, c6, c7, c8⟩ := HJ5.out.1.cells
              clear hd hi4 hcl
              go_wp2_with fail
              refine (HDk.out _ HJ5.out.1).mono ?_
              rintro e w6 ⟨rfl, hb6⟩
              have HJ6 := Lib.hid (And.intro (HJ5.out.1.call hb6) (HJ5.out.2.below hb6 HJ5.out.2.lt))
              clear HJ5 hb6 hk0 HDk c0 c1 c2 c3 c4 c5 c6 c7 c8
              have c8 : w6.cell? ⟨gd + 1, 8, none⟩ = some (.slice (some ⟨gv, 0, none⟩) 4 ck) := HJ6.out.1.box.cell 8
              have cv : w6.cell? ⟨gv, i' * 2, none⟩ = some (.string A1) := HCl.out _ HJ6.out.1
              have cd : w6.cell? ⟨gd, 1, none⟩ = some (.string A1) := HJ6.out.1.dom.cell 1
              have s1 : (A1.toList != A1.toList) = false := by show (!(A1.toList == A1.toList)) = false; rw [beq_self_eq_true]; rfl
              have s2 : (A1.toList == A1.toList) = true := beq_self_eq_true _
              go_wp2_with fail
              go_quiet (fail)
              clear c8 cv cd
              go_wp2_with fail
              have HJ7 := Lib.hid (fun m => And.intro (HJ6.out.1.call (below_dn (Below.refl _ _) m)) (HJ6.out.2.drewN m))
              go_roundw
              case rel => exact ⟨2, .inr (.inr (.inl rfl)), rfl, Lib.hid (HJ7.out _)⟩
              case measure => simp [intOf]
            · by_cases hq : toL a = [113]
              · have x5 := Lib.hid (take_at (w := w) (gd := gd) (own_of (b := toL b) (c := toL c) HF4.out La.out hq) HT3.out)
                rw [← G2.out] at x5
                have HAq : Hid ((a.toList == [113]) = true) := Lib.hid (by rw [ByteArray.toList_eq]; show (toL a == [113]) = true; rw [hq]; rfl)
                have HNE : Hid ((A3.toList != A2.toList) = true ∧ (A3.toList == A2.toList) = false) := Lib.hid (by
                  have h : (A3.toList == A2.toList) = false := by
                    rw [same_text, HT3.out, HT2.out, beq_eq_false_iff_ne, d3_form, d2_form]
                    exact fun e => head_ne La.out e.symm
                  exact ⟨by show (!(A3.toList == A2.toList)) = true; rw [h]; rfl, h⟩)
                clear hq
                obtain ⟨i', hd, hi4, hcl⟩ := x5.out
                have HDk := Lib.hid (fun W K => HD.out Q2 z2.out W K)
                rw [hd] at HDk
                have HCl := Lib.hid (fun W K => hcl W gv ck K)
                have q1 : decide ((i' : Int) < 0) = false := decide_eq_false (by omega)
                have q2 : decide ((4 : Int) ≤ (i' : Int)) = false := decide_eq_false (by omega)
                have q3 : decide (4 ≤ i') = false := decide_eq_false (by omega)
                have q4 : (i' : Int) < 4 := by omega
                have q5 : (0 : Int) ≤ (i' : Int) := by omega
                have hk0 : wr.cell? ⟨gh, 2, none⟩ = some (.string Q2) := HJ5.out.2.cell 2
                obtain ⟨c0, c1, c2, c3, c4, c5, c6, c7, c8⟩ := HJ5.out.1.cells
                clear hd hi4 hcl
                go_wp2_with fail
                refine (HDk.out _ HJ5.out.1).mono ?_
                rintro e w6 ⟨rfl, hb6⟩
                have HJ6 := Lib.hid (And.intro (HJ5.out.1.call hb6) (HJ5.out.2.below hb6 HJ5.out.2.lt))
                clear HJ5 hb6 hk0 HDk c0 c1 c2 c3 c4 c5 c6 c7 c8
                have c8 : w6.cell? ⟨gd + 1, 8, none⟩ = some (.slice (some ⟨gv, 0, none⟩) 4 ck) := HJ6.out.1.box.cell 8
                have cv : w6.cell? ⟨gv, i' * 2, none⟩ = some (.string A3) := HCl.out _ HJ6.out.1
                have cd : w6.cell? ⟨gd, 2, none⟩ = some (.string A2) := HJ6.out.1.dom.cell 2
                have s1 : (A3.toList != A2.toList) = true := HNE.out.1
                have s2 : (A3.toList == A2.toList) = false := HNE.out.2
                go_wp2_with fail
                go_quiet (fail)
                clear c8 cv cd
                have s3 : (a.toList == [113]) = true := HAq.out
                have s4 : a.toList = [113] := by simpa using s3
                go_wp2_with fail
                go_ret
                exact ⟨rfl, below_dn HJ6.out.1.below _⟩
              · have x2 := Lib.hid (take_at (w := w) (gd := gd) (long_host HF4.out La.out Lb.out Lc.out hq) HT2.out)
                rw [← G2.out] at x2
                clear hq
                obtain ⟨i', hd, hi4, hcl⟩ := x2.out
                have HDk := Lib.hid (fun W K => HD.out Q2 z2.out W K)
                rw [hd] at HDk
                have HCl := Lib.hid (fun W K => hcl W gv ck K)
                have q1 : decide ((i' : Int) < 0) = false := decide_eq_false (by omega)
                have q2 : decide ((4 : Int) ≤ (i' : Int)) = false := decide_eq_false (by omega)
                have q3 : decide (4 ≤ i') = false := decide_eq_false (by omega)
                have q4 : (i' : Int) < 4 := by omega
                have q5 : (0 : Int) ≤ (i' : Int) := by omega
                have hk0 : wr.cell? ⟨gh, 2, none⟩ = some (.string Q2) := HJ5.out.2.cell 2
                obtain ⟨c0, c1, c2, c3, c4, c5, c6, c7, c8⟩ := HJ5.out.1.cells
                clear hd hi4 hcl
                go_wp2_with fail
                refine (HDk.out _ HJ5.out.1).mono ?_
                rintro e w6 ⟨rfl, hb6⟩
                have HJ6 := Lib.hid (And.intro (HJ5.out.1.call hb6) (HJ5.out.2.below hb6 HJ5.out.2.lt))
                clear HJ5 hb6 hk0 HDk c0 c1 c2 c3 c4 c5 c6 c7 c8
                have c8 : w6.cell? ⟨gd + 1, 8, none⟩ = some (.slice (some ⟨gv, 0, none⟩) 4 ck) := HJ6.out.1.box.cell 8
                have cv : w6.cell? ⟨gv, i' * 2, none⟩ = some (.string A2) := HCl.out _ HJ6.out.1
                have cd : w6.cell? ⟨gd, 2, none⟩ = some (.string A2) := HJ6.out.1.dom.cell 2
                have s1 : (A2.toList != A2.toList) = false := by show (!(A2.toList == A2.toList)) = false; rw [beq_self_eq_true]; rfl
                have s2 : (A2.toList == A2.toList) = true := beq_self_eq_true _
                go_wp2_with fail
                go_quiet (fail)
                clear c8 cv cd
                go_wp2_with fail
                have HJ7 := Lib.hid (fun m => And.intro (HJ6.out.1.call (below_dn (Below.refl _ _) m)) (HJ6.out.2.drewN m))
                go_roundw
                case rel => exact ⟨3, .inr (.inr (.inr (.inl rfl))), rfl, Lib.hid (HJ7.out _)⟩
                case measure => simp [intOf]
            · skip
              obtain ⟨i', hd, hi4, hcl⟩ := x3.out
              have HDk := Lib.hid (fun W K => HD.out Q3 z3.out W K)
              rw [hd] at HDk
              have HCl := Lib.hid (fun W K => hcl W gv ck K)
              have q1 : decide ((i' : Int) < 0) = false := decide_eq_false (by omega)
              have q2 : decide ((4 : Int) ≤ (i' : Int)) = false := decide_eq_false (by omega)
              have q3 : decide (4 ≤ i') = false := decide_eq_false (by omega)
              have q4 : (i' : Int) < 4 := by omega
              have q5 : (0 : Int) ≤ (i' : Int) := by omega
              have hk0 : wr.cell? ⟨gh, 3, none⟩ = some (.string Q3) := HJ5.out.2.cell 3
              obtain ⟨c0, c1, c2, c3, c4, c5, c6, c7, c8⟩ := HJ5.out.1.cells
              clear hd hi4 hcl
              go_wp2_with fail
              refine (HDk.out _ HJ5.out.1).mono ?_
              rintro e w6 ⟨rfl, hb6⟩
              have HJ6 := Lib.hid (And.intro (HJ5.out.1.call hb6) (HJ5.out.2.below hb6 HJ5.out.2.lt))
              clear HJ5 hb6 hk0 HDk c0 c1 c2 c3 c4 c5 c6 c7 c8
              have c8 : w6.cell? ⟨gd + 1, 8, none⟩ = some (.slice (some ⟨gv, 0, none⟩) 4 ck) := HJ6.out.1.box.cell 8
              have cv : w6.cell? ⟨gv, i' * 2, none⟩ = some (.string A3) := HCl.out _ HJ6.out.1
              have cd : w6.cell? ⟨gd, 3, none⟩ = some (.string A3) := HJ6.out.1.dom.cell 3
              have s1 : (A3.toList != A3.toList) = false := by show (!(A3.toList == A3.toList)) = false; rw [beq_self_eq_true]; rfl
              have s2 : (A3.toList == A3.toList) = true := beq_self_eq_true _
              go_wp2_with fail
              go_quiet (fail)
              clear c8 cv cd
              go_wp2_with fail
              have HJ7 := Lib.hid (fun m => And.intro (HJ6.out.1.call (below_dn (Below.refl _ _) m)) (HJ6.out.2.drewN m))
              go_roundw
              case rel => exact ⟨4, .inr (.inr (.inr (.inr rfl))), rfl, Lib.hid (HJ7.out _)⟩
              case measure => simp [intOf]
            · obtain ⟨i', hd, hi4, hcl⟩ := x4.out
              have HDk := Lib.hid (fun W K => HD.out c (by have := HC.out; omega) W K)
              rw [hd] at HDk
              have HS : Hid (∀ W, Lw w gd ⟨#[42]⟩ A1 A2 A3 t 4 (.slice (some ⟨gv, 0, none⟩) 4 ck) W → W.cell? ⟨gd + 1, 0, none⟩ = some (.int .i64 0) ∧ W.cell? ⟨gd + 1, 1, none⟩ = some (.int .i64 0) ∧ W.cell? ⟨gd + 1, 2, none⟩ = some (.int .i64 0) ∧ W.cell? ⟨gd + 1, 3, none⟩ = some (.int .i64 0) ∧ W.cell? ⟨gd + 1, 4, none⟩ = some (.int .i64 0) ∧ W.cell? ⟨gd + 1, 5, none⟩ = some (.int .i64 0) ∧ W.cell? ⟨gd + 1, 6, none⟩ = some (.slice none 0 0) ∧ W.cell? ⟨gd + 1, 7, none⟩ = some (.slice none 0 0) ∧ W.cell? ⟨gd + 1, 8, none⟩ = some (.slice (some ⟨gv, 0, none⟩) 4 ck) ∧ W.cell? ⟨gv, i' * 2, none⟩ = some (.string ⟨#[42]⟩)) := Lib.hid (fun W K => by
                obtain ⟨c0, c1, c2, c3, c4, c5, c6, c7, c8⟩ := K.cells
                exact ⟨c0, c1, c2, c3, c4, c5, c6, c7, c8, hcl W gv ck K⟩)
              have q1 : decide ((0 : Int) ≤ (i' : Int)) = true := decide_eq_true (by omega)
              have q4 : (i' : Int) < 4 := by omega
              have q5 : (0 : Int) ≤ (i' : Int) := by omega
              have s1 : ((⟨#[42]⟩ : ByteArray).toList == [42]) = true := by rw [ByteArray.toList_eq]; rfl
              have s2 : (⟨#[42]⟩ : ByteArray).toList = [42] := by rw [ByteArray.toList_eq]
              clear hd hi4 hcl
              go_wp2_with fail
              have K0 := HJ5.out.1.call (below_dn (Below.refl wr.heap.size wr) 1)
              have t0 := HS.out _ K0
              go_region_held3 (fun w' => w'.cell? ⟨gd + 1, 0, none⟩ = some (.int .i64 0) ∧ w'.cell? ⟨gd + 1, 1, none⟩ = some (.int .i64 0) ∧ w'.cell? ⟨gd + 1, 2, none⟩ = some (.int .i64 0) ∧ w'.cell? ⟨gd + 1, 3, none⟩ = some (.int .i64 0) ∧ w'.cell? ⟨gd + 1, 4, none⟩ = some (.int .i64 0) ∧ w'.cell? ⟨gd + 1, 5, none⟩ = some (.int .i64 0) ∧ w'.cell? ⟨gd + 1, 6, none⟩ = some (.slice none 0 0) ∧ w'.cell? ⟨gd + 1, 7, none⟩ = some (.slice none 0 0) ∧ w'.cell? ⟨gd + 1, 8, none⟩ = some (.slice (some ⟨gv, 0, none⟩) 4 ck) ∧ w'.cell? ⟨gv, i' * 2, none⟩ = some (.string ⟨#[42]⟩)) (first | exact t2 | exact t1 | exact t0)
                (first
                  | (go_at_call 11; refine (HDk.out _ K0).mono ?_; rintro e w6 ⟨rfl, hb6⟩
                     have K1 := K0.call hb6
                     have t1 := HS.out _ K1
                     clear K0)
                  | (go_at_call 11; refine (HDk.out _ K1).mono ?_; rintro e w7 ⟨rfl, hb7⟩
                     have K2 := K1.call hb7
                     have t2 := HS.out _ K2
                     clear K1))
              have HE := Lib.hid K2.below
              clear K2 t0 t1 t2 HJ5
              go_wp2_with fail
              go_ret
              exact ⟨rfl, HE.out⟩
theorem walk (a : ByteArray) (_ : a.size ≤ maxLen) (ha : a.size ≤ 140737488351232) (b : ByteArray) (_ : b.size ≤ maxLen) (hb : b.size ≤ 140737488351232) (c : ByteArray) (_ : c.size ≤ maxLen) (hc : c.size ≤ 140737488351232) (turn : Int) (ht : (Lit.int .i64 turn).wf = true) (W : World) :
    Calls Try.prog 5 #[.string a, .string b, .string c, .int .i64 turn] W fun e w' => e = .returned (.bool true) ∧ Below W.heap.size W w' :=
  walkIn a b c turn (by simpa [Lit.wf, IntKind.min, IntKind.max, IntKind.bits, IntKind.signed] using ht) ha hb hc W
end Go.Proofs.Ytcjobblhendkbaa.RouteLongestW
