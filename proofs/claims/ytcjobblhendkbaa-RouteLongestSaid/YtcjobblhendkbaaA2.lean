/- Texts of this seat, one behind another: PUnderU, ConfBack, ConfSafe, PathForm, PathLen, RoutePure, RouteFind, PRouLead, Flds, FArg, PRouLib, PRouBest, PRouCov, PRouDom, RouArg, RouRow, RLower, RAlike7, R7Get, PLsmall, PAlike, PValsW, PGetW. -/
import Derived.Lib.Hide
import Derived.Below
import Derived.Deep.Draws
import Derived.Test.YtcjobblhendkbaaRows
import Derived.Deep.SlicePairs
import Derived.Shelf.Strings.Prefix
import Derived.Shelf.Small.Wraps
import Derived.Handy
import Derived.BigQuiet
import Derived.Outline
import Derived.LoopTactic
import Derived.Maps.AppendAt
import Derived.Deep.QuietTactic
import Derived.RangeFuncNested
import Derived.RangeFuncBound
import Derived.RangeFuncCalls
import Derived.RangeFuncLeaves
import Derived.Shelf.Abstract
import Derived.Shelf.RegionOpen
import Derived.WalkKit
import Derived.OwnWalkIn
import Derived.TacticsInMore
import Derived.LoopNIn
import Derived.LoopIn
import Derived.RangeFuncBox
import Derived.Test.YtcjobblhendkbaaA1
/- Layer 5 of the program: Under. -/
namespace Go.Proofs.Ytcjobblhendkbaa.PUnderU
open Go.ChangeShapes Go.WideShapes Go.ChangeAt Go.RowKit LexPure Bytes Ret PathPure PUnder
set_option maxRecDepth 20000
theorem lib_cutp (s p : ByteArray) (w : World) :
    Calls Try.prog 22 #[.string s, .string p] w fun e w' => e = .returned (.tuple #[.string (ofL (if (toL p).isPrefixOf (toL s) then (toL s).drop p.size else toL s)), .bool ((toL p).isPrefixOf (toL s))]) ∧ w' = w := by
  have h := Any.strings_CutPrefix Try.lays103 s p w
  unfold Lib.trimPrefix Lib.hasPrefix at h
  rw [show p.data.toList.length = p.size from toL_length p] at h
  exact h
theorem lib_ends (s p : ByteArray) (hs : s.size ≤ 9223372036854775807) (w : World) :
    Calls Try.prog 42 #[.string s, .string p] w fun e w' => e = .returned (.bool ((toL p).isSuffixOf (toL s))) ∧ w' = w :=
  Any.strings_HasSuffix Try.lays100 s p w hs
theorem under_say (p q : List UInt8) : under p q = (q.isPrefixOf p && ((p.drop q.length).isEmpty || ([47] : List UInt8).isSuffixOf q || ([47] : List UInt8).isPrefixOf (p.drop q.length))) := by
  rw [starts_one, ends_one]
  unfold under
  by_cases h : q <+: p
  · have h1 : q.isPrefixOf p = true := by rw [List.isPrefixOf_iff_prefix]; exact h
    have h2 : (p.take q.length == q) = true := by rw [beq_iff_eq]; exact (List.prefix_iff_eq_take.1 h).symm
    rw [h1, h2, Bool.true_and, Bool.true_and, List.head?_drop]
    have h3 : (p.drop q.length).isEmpty = (p.length == q.length) := by
      have := h.length_le
      rw [Bool.eq_iff_iff, List.isEmpty_iff, List.drop_eq_nil_iff, beq_iff_eq]
      omega
    rw [h3]
    cases (p.length == q.length) <;> cases (p[q.length]? == some 47) <;> cases (q.getLast? == some 47) <;> rfl
  · have h1 : q.isPrefixOf p = false := by rw [Bool.eq_false_iff, ne_eq, List.isPrefixOf_iff_prefix]; exact h
    have h2 : (p.take q.length == q) = false := by
      rw [beq_eq_false_iff_ne]
      intro e
      exact h (by rw [← e]; exact List.take_prefix _ _)
    rw [h1, h2]
    rfl
theorem punder_any (p q : ByteArray) (hq : q.size ≤ 9223372036854775807) (w : World) :
    Calls Try.prog 36 #[.string p, .string q] w fun e w' => e = .returned (.bool (under (toL p) (toL q))) ∧ w = w' := by
  have HU := Lib.hid (under_say (toL p) (toL q))
  rw [toL_length] at HU
  by_cases h : (toL q).isPrefixOf (toL p) = true
  · have HC := Lib.hid (fun w => lib_cutp p q w)
    rw [h, if_pos rfl] at HC
    rw [h, Bool.true_and] at HU
    have HS := Lib.hid (fun w => lib_ends q ⟨#[47]⟩ hq w)
    rw [show toL ⟨#[47]⟩ = [47] from rfl] at HS
    have HP := Lib.hid (fun w => lib_has (ofL ((toL p).drop q.size)) ⟨#[47]⟩ w)
    rw [show toL ⟨#[47]⟩ = [47] from rfl, toL_ofL] at HP
    have he : (ofL ((toL p).drop q.size)).toList.isEmpty = ((toL p).drop q.size).isEmpty := by
      rw [ByteArray.toList_eq, show (ofL ((toL p).drop q.size)).data.toList = (toL p).drop q.size from toL_ofL _]
    generalize ofL ((toL p).drop q.size) = R at *
    generalize ([47] : List UInt8).isSuffixOf (toL q) = x at *
    generalize ([47] : List UInt8).isPrefixOf ((toL p).drop q.size) = y at *
    generalize ((toL p).drop q.size).isEmpty = z at *
    rw [HU.out]
    clear h HU
    cases z
    · have he2 : ¬ R.toList = [] := fun e => by rw [e] at he; cases he
      cases x
      · go_enter Try.func36, Try.ntmps36
        go_wp2_with fail
        refine (HC.out _).mono ?_
        rintro e w' ⟨rfl, rfl⟩
        go_wp2_with fail
        refine (HS.out _).mono ?_
        rintro e w' ⟨rfl, rfl⟩
        go_wp2_with fail
        refine (HP.out _).mono ?_
        rintro e w' ⟨rfl, rfl⟩
        go_wp2_with fail
        go_ret
        exact ⟨rfl, rfl⟩
      · go_enter Try.func36, Try.ntmps36
        go_wp2_with fail
        refine (HC.out _).mono ?_
        rintro e w' ⟨rfl, rfl⟩
        go_wp2_with fail
        refine (HS.out _).mono ?_
        rintro e w' ⟨rfl, rfl⟩
        go_wp2_with fail
        go_ret
        exact ⟨rfl, rfl⟩
    · have he2 : R.toList = [] := List.isEmpty_iff.1 he
      go_enter Try.func36, Try.ntmps36
      go_wp2_with fail
      refine (HC.out _).mono ?_
      rintro e w' ⟨rfl, rfl⟩
      go_wp2_with fail
      go_ret
      exact ⟨rfl, rfl⟩
  · have hf : (toL q).isPrefixOf (toL p) = false := by simpa using h
    have HC := Lib.hid (fun w => lib_cutp p q w)
    rw [hf, if_neg (by simp)] at HC
    rw [hf, Bool.false_and] at HU
    rw [HU.out]
    clear h hf
    go_enter Try.func36, Try.ntmps36
    go_wp2_with fail
    refine (HC.out _).mono ?_
    rintro e w' ⟨rfl, rfl⟩
    go_wp2_with fail
    go_ret
    exact ⟨rfl, rfl⟩
end Go.Proofs.Ytcjobblhendkbaa.PUnderU

/- Layer 14: a right config, written and read, is the same; a line of no form is told by its number. No program is named. -/
namespace Go.Proofs.Ytcjobblhendkbaa.ConfBack
open Bytes LexPure LexNum DecN HostPure PathPure RHostPure EmitPure ConfPure
set_option maxRecDepth 20000
/-! ### the numbers of a right config can be read -/
def Small (n : Int) : Prop := 0 ≤ n ∧ n < 1000000000000000
theorem in_small {n a b : Int} (h : inB n a b = true) (h0 : 0 ≤ a) (h1 : b < 1000000000000000) : Small n := by
  unfold inB at h
  rw [Bool.and_eq_true, decide_eq_true_eq, decide_eq_true_eq] at h
  exact ⟨by omega, by omega⟩
theorem small_read {n : Int} (h : Small n) : dec15 (decZ n) = some n := dec15_decZ h.1 h.2
theorem small_mid {n : Int} (h : Small n) : ∀ c ∈ decZ n, midB c = true := decZ_mid h.1
structure FiltS (f : Filt) : Prop where
  kind : Small f.kind
  n : Small f.n
  m : Small f.m
  k : Small f.k
theorem filt_small {f : Filt} (h : filtB f = true) : FiltS f := by
  unfold filtB at h
  have z : Small 0 := ⟨by decide, by decide⟩
  have tk : TOK < 1000000000000000 := by decide
  split at h
  · rename_i hk
    simp only [Bool.and_eq_true, beq_iff_eq] at h
    obtain ⟨⟨⟨⟨h1, h2⟩, h3⟩, _⟩, _⟩ := h
    refine ⟨⟨by omega, by omega⟩, ?_, ?_, ?_⟩
    · rw [h1]; exact z
    · rw [h2]; exact z
    · rw [h3]; exact z
  split at h
  · rename_i hk
    simp only [Bool.and_eq_true, beq_iff_eq] at h
    obtain ⟨⟨⟨⟨_, h1⟩, h2⟩, h3⟩, _⟩ := h
    refine ⟨⟨by omega, by omega⟩, ?_, ?_, ?_⟩
    · rw [h1]; exact z
    · rw [h2]; exact z
    · rw [h3]; exact z
  split at h
  · rename_i hk
    simp only [Bool.and_eq_true, beq_iff_eq] at h
    obtain ⟨⟨⟨⟨_, _⟩, h1⟩, h2⟩, h3⟩ := h
    exact ⟨⟨by omega, by omega⟩, in_small h1 (by decide) tk, in_small h2 (by decide) tk, in_small h3 (by decide) tk⟩
  split at h
  · rename_i hk
    simp only [Bool.and_eq_true, beq_iff_eq] at h
    obtain ⟨⟨⟨⟨⟨h1, h2⟩, h3⟩, _⟩, _⟩, _⟩ := h
    refine ⟨⟨by omega, by omega⟩, ?_, ?_, ?_⟩
    · rw [h1]; exact z
    · rw [h2]; exact z
    · rw [h3]; exact z
  split at h
  · rename_i hk
    simp only [Bool.and_eq_true, beq_iff_eq] at h
    obtain ⟨⟨⟨⟨⟨_, h1⟩, h2⟩, h3⟩, _⟩, _⟩ := h
    refine ⟨⟨by omega, by omega⟩, ?_, ?_, ?_⟩
    · rw [h1]; exact z
    · rw [h2]; exact z
    · rw [h3]; exact z
  split at h
  · rename_i hk
    simp only [Bool.and_eq_true, beq_iff_eq] at h
    obtain ⟨⟨⟨⟨_, _⟩, h2⟩, h3⟩, h1⟩ := h
    refine ⟨⟨by omega, by omega⟩, in_small h1 (by decide) (by decide), ?_, ?_⟩
    · rw [h2]; exact z
    · rw [h3]; exact z
  split at h
  · rename_i hk
    simp only [Bool.and_eq_true, beq_iff_eq] at h
    obtain ⟨⟨⟨⟨_, _⟩, h3⟩, h1⟩, h2⟩ := h
    refine ⟨⟨by omega, by omega⟩, in_small h1 (by decide) (by decide), in_small h2 (by decide) (by decide), ?_⟩
    · rw [h3]; exact z
  · cases h
structure ClusS (c : Clus) : Prop where
  policy : Small c.policy
  conns : Small c.conns
  pending : Small c.pending
  try_ : Small c.try_
  fails : Small c.fails
  eject : Small c.eject
  panic : Small c.panic
  hosts : hostsB [] c.hosts = true
theorem clus_small {c : Clus} (h : clusB c = true) : ClusS c := by
  unfold clusB at h
  have tk : TICK < 1000000000000000 := by decide
  simp only [Bool.and_eq_true] at h
  obtain ⟨⟨⟨⟨⟨⟨⟨⟨h1, h2⟩, h3⟩, h4⟩, h5⟩, h6⟩, h7⟩, h8⟩, h9⟩ := h
  exact ⟨in_small h1 (by decide) (by decide), in_small h3 (by decide) (by decide), in_small h4 (by decide) (by decide), in_small h5 (by decide) tk, in_small h7 (by decide) (by decide), in_small h6 (by decide) tk, in_small h8 (by decide) (by decide), h9⟩
structure RoutS (r : Rout) : Prop where
  action : Small r.action
  status : Small r.status
  retries : Small r.retries
  timeout : Small r.timeout
theorem rout_small {r : Rout} {cs : List Clus} (h : routB r cs = true) : RoutS r := by
  unfold routB at h
  have z : Small 0 := ⟨by decide, by decide⟩
  have tk : TICK < 1000000000000000 := by decide
  rw [Bool.and_eq_true] at h
  obtain ⟨_, h⟩ := h
  split at h
  · rename_i ha
    unfold forwB at h
    simp only [Bool.and_eq_true, beq_iff_eq] at h
    obtain ⟨⟨⟨⟨⟨_, h1⟩, _⟩, h2⟩, h3⟩, _⟩ := h
    refine ⟨⟨by omega, by omega⟩, ?_, in_small h2 (by decide) (by decide), in_small h3 (by decide) tk⟩
    rw [h1]; exact z
  · simp only [Bool.and_eq_true, beq_iff_eq] at h
    obtain ⟨⟨⟨⟨⟨⟨_, _⟩, h1⟩, h2⟩, _⟩, _⟩, h⟩ := h
    split at h
    · rename_i ha
      simp only [Bool.and_eq_true, Bool.or_eq_true, beq_iff_eq] at h
      obtain ⟨_, h⟩ := h
      refine ⟨⟨by omega, by omega⟩, ⟨by omega, by omega⟩, ?_, ?_⟩
      · rw [h1]; exact z
      · rw [h2]; exact z
    · simp only [Bool.and_eq_true, beq_iff_eq] at h
      obtain ⟨⟨⟨⟨_, h3⟩, h4⟩, _⟩, _⟩ := h
      refine ⟨⟨by omega, by omega⟩, in_small h4 (by decide) (by decide), ?_, ?_⟩
      · rw [h1]; exact z
      · rw [h2]; exact z
/-! ### hosts are words -/
theorem hostC_mid (c : UInt8) (h : hostC c = true) : 32 < c.toNat ∧ c.toNat < 127 ∧ c ≠ 37 := by
  have := all_bytes (p := fun c => !hostC c || (decide (32 < c.toNat) && decide (c.toNat < 127) && c != 37)) (by decide +kernel) c
  simp only [h, Bool.not_true, Bool.false_or, Bool.and_eq_true, decide_eq_true_eq, bne_iff_ne] at this
  exact ⟨this.1.1, this.1.2, this.2⟩
theorem host_word {s : L} (h : hostB s = true) : word s = s := by
  unfold hostB at h
  cases ha : authO s with
  | none => rw [ha] at h; cases h
  | some x =>
    obtain ⟨hn, p⟩ := x
    rw [ha] at h
    simp only [Bool.and_eq_true, decide_eq_true_eq, beq_iff_eq] at h
    obtain ⟨hp, rfl⟩ := h
    obtain ⟨a1, _, _, _⟩ := authO_some ha
    have hne := host_ne a1
    have hcs : ∀ c ∈ hn, hostC c = true := by
      unfold host at a1
      simp only [Bool.and_eq_true] at a1
      exact List.all_eq_true.1 a1.1.1.2
    refine word_self ?_ (by simp) ?_
    · intro c hc
      rcases List.mem_append.1 hc with q | q
      · exact hostC_mid c (hcs c q)
      rcases List.mem_cons.1 q with rfl | q
      · decide
      · unfold decZ at q
        rw [if_neg (by omega)] at q
        have hd := decN_all _ c q
        refine ⟨by omega, by omega, fun e => ?_⟩
        rw [e] at hd
        exact absurd hd.2.1 (by decide)
    · intro e
      cases hn with
      | nil => exact hne rfl
      | cons c hn =>
        have := congrArg List.length e
        simp at this
theorem hosts_word : ∀ {hs ahead : List L}, hostsB ahead hs = true → ∀ h ∈ hs, hostB h = true
  | [], _, _, h, hm => by cases hm
  | x :: hs, ahead, hb, h, hm => by
    unfold hostsB at hb
    simp only [Bool.and_eq_true] at hb
    rcases List.mem_cons.1 hm with rfl | q
    · exact hb.1.1
    · exact hosts_word hb.2 h q
theorem hosts_read : ∀ {hs : List L}, (∀ h ∈ hs, hostB h = true) → hostsP hs = some hs
  | [], _ => rfl
  | h :: hs, hb => by
    unfold hostsP
    have e : unword h = some h := by
      conv => lhs; rw [← host_word (hb h List.mem_cons_self)]
      exact unword_word h
    rw [e, hosts_read (fun x hx => hb x (List.mem_cons_of_mem _ hx))]
    rfl
theorem host_mid {s : L} (h : hostB s = true) : ∀ c ∈ s, midB c = true := by
  rw [← host_word h]
  exact word_mid s
/-! ### reading by a form -/
theorem read_w (s : L) (l : List L) (fs : List UInt8) (ns : List Int) (ws : List L) : readF (word s :: l) (119 :: fs) ns ws = readF l fs ns (ws ++ [s]) := by
  conv => lhs; unfold readF
  rw [if_pos rfl, unword_word]
theorem read_n {n : Int} (h : Small n) (l : List L) (fs : List UInt8) (ns : List Int) (ws : List L) : readF (decZ n :: l) (110 :: fs) ns ws = readF l fs (ns ++ [n]) ws := by
  conv => lhs; unfold readF
  rw [if_neg (by decide), small_read h]
  simp only
  rw [if_neg (fun x => absurd x.1 (by decide))]
theorem flag_read (b : Bool) : dec15 (flagL b) = some (if b then 1 else 0) := by cases b <;> decide
theorem read_b (b : Bool) (l : List L) (fs : List UInt8) (ns : List Int) (ws : List L) : readF (flagL b :: l) (98 :: fs) ns ws = readF l fs (ns ++ [if b then 1 else 0]) ws := by
  conv => lhs; unfold readF
  rw [if_neg (by decide), flag_read]
  simp only
  rw [if_neg (by cases b <;> decide)]
theorem read_filt {f : Filt} (h : FiltS f) : readF (filtW f) FF [] [] = some ([f.kind, f.n, f.m, f.k], [f.name, f.value]) := by
  unfold filtW FF
  rw [read_n h.kind, read_w, read_w, read_n h.n, read_n h.m, read_n h.k]
  rfl
theorem read_clus {c : Clus} (h : ClusS c) : readF [word c.name, decZ c.policy, decZ c.conns, decZ c.pending, decZ c.try_, decZ c.fails, decZ c.eject, decZ c.panic] FC [] [] = some ([c.policy, c.conns, c.pending, c.try_, c.fails, c.eject, c.panic], [c.name]) := by
  unfold FC
  rw [read_w, read_n h.policy, read_n h.conns, read_n h.pending, read_n h.try_, read_n h.fails, read_n h.eject, read_n h.panic]
  rfl
theorem read_rout {r : Rout} (h : RoutS r) : readF (routW r) FR [] [] = some ([if r.pre then 1 else 0, r.action, r.status, r.retries, r.timeout, if r.upgrade then 1 else 0], [r.path, r.method, r.field, r.value, r.cluster, r.text, r.rewrite]) := by
  unfold routW FR
  rw [read_b, read_w, read_w, read_w, read_w, read_n h.action, read_w, read_n h.status, read_w, read_w, read_n h.retries, read_n h.timeout, read_b]
  rfl
/-! ### lines -/
def noB (b : UInt8) (l : L) : Prop := ∀ c ∈ l, c ≠ b
theorem mid_no {b c : UInt8} (hb : b = 32 ∨ b = 10) (h : midB c = true) : c ≠ b := by
  unfold midB at h
  rw [Bool.and_eq_true, decide_eq_true_eq] at h
  rintro rfl
  rcases hb with rfl | rfl
  · exact absurd h.1 (by decide)
  · exact absurd h.1 (by decide)
theorem flag_mid (b : Bool) : ∀ c ∈ flagL b, midB c = true := by cases b <;> decide
def Mids (ws : List L) : Prop := ∀ w ∈ ws, ∀ c ∈ w, midB c = true
theorem mids_cons {w : L} {ws : List L} (h : ∀ c ∈ w, midB c = true) (hs : Mids ws) : Mids (w :: ws) := fun x hx => by
  rcases List.mem_cons.1 hx with rfl | q
  · exact h
  · exact hs x q
theorem mids_nil : Mids [] := fun _ h => by cases h
theorem filt_mids {f : Filt} (h : FiltS f) : Mids (filtW f) :=
  mids_cons (small_mid h.kind) (mids_cons (word_mid _) (mids_cons (word_mid _) (mids_cons (small_mid h.n) (mids_cons (small_mid h.m) (mids_cons (small_mid h.k) mids_nil)))))
theorem clus_mids {c : Clus} (h : ClusS c) : Mids (clusW c) := by
  intro w hw
  unfold clusW at hw
  rcases List.mem_append.1 hw with q | q
  · exact (mids_cons (word_mid _) (mids_cons (small_mid h.policy) (mids_cons (small_mid h.conns) (mids_cons (small_mid h.pending) (mids_cons (small_mid h.try_) (mids_cons (small_mid h.fails) (mids_cons (small_mid h.eject) (mids_cons (small_mid h.panic) mids_nil)))))))) w q
  · exact host_mid (hosts_word h.hosts w q)
theorem rout_mids {r : Rout} (h : RoutS r) : Mids (routW r) :=
  mids_cons (flag_mid _) (mids_cons (word_mid _) (mids_cons (word_mid _) (mids_cons (word_mid _) (mids_cons (word_mid _) (mids_cons (small_mid h.action) (mids_cons (word_mid _) (mids_cons (small_mid h.status) (mids_cons (word_mid _) (mids_cons (word_mid _) (mids_cons (small_mid h.retries) (mids_cons (small_mid h.timeout) (mids_cons (flag_mid _) mids_nil))))))))))))
theorem line_cut {h : L} {ws : List L} (hh : noB 32 h) (hw : Mids ws) : cutB 32 (lineW h ws) = h :: ws :=
  cut_words hh ws (fun w hx c hc => mid_no (.inl rfl) (hw w hx c hc))
theorem line_no10 {h : L} {ws : List L} (hh : noB 10 h) (hw : Mids ws) : noB 10 (lineW h ws) := by
  intro c hc
  unfold lineW at hc
  rcases List.mem_append.1 hc with q | q
  · exact hh c q
  · rw [List.mem_flatMap] at q
    obtain ⟨w, hm, q⟩ := q
    rcases List.mem_cons.1 q with rfl | q
    · decide
    · exact mid_no (.inr rfl) (hw w hm c q)
theorem no10_names : noB 10 LISTEN ∧ noB 10 FILTER ∧ noB 10 CLUSTER ∧ noB 10 VHOST ∧ noB 10 ROUTE ∧ noB 32 LISTEN ∧ noB 32 FILTER ∧ noB 32 CLUSTER ∧ noB 32 VHOST ∧ noB 32 ROUTE := by
  unfold noB; decide
theorem line_filt {f : Filt} (h : FiltS f) (c : Conf) : lineP c (lineW FILTER (filtW f)) = some { c with filters := c.filters ++ [f] } := by
  unfold lineP
  rw [line_cut no10_names.2.2.2.2.2.2.1 (filt_mids h)]
  simp only [List.headD_cons, List.tail_cons]
  rw [if_pos trivial, read_filt h]
  rfl
theorem line_clus {x : Clus} (h : ClusS x) (c : Conf) : lineP c (lineW CLUSTER (clusW x)) = some { c with clusters := c.clusters ++ [x] } := by
  unfold lineP
  rw [line_cut no10_names.2.2.2.2.2.2.2.1 (clus_mids h)]
  simp only [List.headD_cons, List.tail_cons]
  rw [if_neg (by decide), if_pos trivial, if_neg (by unfold clusW; simp)]
  have e1 : (clusW x).take 8 = [word x.name, decZ x.policy, decZ x.conns, decZ x.pending, decZ x.try_, decZ x.fails, decZ x.eject, decZ x.panic] := rfl
  have e2 : (clusW x).drop 8 = x.hosts := rfl
  rw [e1, e2, read_clus h, hosts_read (hosts_word h.hosts)]
  rfl
theorem line_vhos (d : L) (c : Conf) : lineP c (lineW VHOST [word d]) = some { c with vhosts := c.vhosts ++ [⟨d, []⟩] } := by
  unfold lineP
  rw [line_cut no10_names.2.2.2.2.2.2.2.2.1 (mids_cons (word_mid _) mids_nil)]
  simp only [List.headD_cons, List.tail_cons]
  rw [if_neg (by decide), if_neg (by decide), if_pos trivial, read_w]
  rfl
theorem line_rout {r : Rout} (h : RoutS r) (c : Conf) (vs : List Vhos) (v : Vhos) (hv : c.vhosts = vs ++ [v]) : lineP c (lineW ROUTE (routW r)) = some { c with vhosts := vs ++ [⟨v.domain, v.routes ++ [r]⟩] } := by
  unfold lineP
  rw [line_cut no10_names.2.2.2.2.2.2.2.2.2 (rout_mids h)]
  simp only [List.headD_cons, List.tail_cons]
  rw [if_neg (by decide), if_neg (by decide), if_neg (by decide), if_pos trivial, read_rout h, hv]
  have e1 : ((if r.pre then 1 else 0 : Int) == 1) = r.pre := by cases r.pre <;> rfl
  have e2 : ((if r.upgrade then 1 else 0 : Int) == 1) = r.upgrade := by cases r.upgrade <;> rfl
  simp only [List.getD_cons_zero, List.getD_cons_succ, addR, List.getLast?_concat, Option.map, e1, e2, List.dropLast_concat]
/-! ### all lines -/
/-- the lines, one behind the other, all of their form -/
def allP (c : Conf) : List L → Option Conf
  | [] => some c
  | l :: ls => match lineP c l with
    | none => none
    | some c' => allP c' ls
theorem all_append (c : Conf) (a b : List L) : allP c (a ++ b) = match allP c a with | none => none | some c' => allP c' b := by
  induction a generalizing c with
  | nil => rfl
  | cons l a ih =>
    rw [List.cons_append, allP, allP]
    cases lineP c l with
    | none => rfl
    | some c' => exact ih c'
theorem all_filts : ∀ (fs : List Filt), (∀ f ∈ fs, FiltS f) → ∀ c : Conf, allP c (fs.map (fun f => lineW FILTER (filtW f))) = some { c with filters := c.filters ++ fs }
  | [], _, c => by simp [allP]
  | f :: fs, h, c => by
    rw [List.map_cons]
    unfold allP
    rw [line_filt (h f List.mem_cons_self) c]
    simp only
    rw [all_filts fs (fun x hx => h x (List.mem_cons_of_mem _ hx))]
    simp
theorem all_cluss : ∀ (xs : List Clus), (∀ x ∈ xs, ClusS x) → ∀ c : Conf, allP c (xs.map (fun x => lineW CLUSTER (clusW x))) = some { c with clusters := c.clusters ++ xs }
  | [], _, c => by simp [allP]
  | x :: xs, h, c => by
    rw [List.map_cons]
    unfold allP
    rw [line_clus (h x List.mem_cons_self) c]
    simp only
    rw [all_cluss xs (fun y hy => h y (List.mem_cons_of_mem _ hy))]
    simp
theorem all_routs : ∀ (rs : List Rout), (∀ r ∈ rs, RoutS r) → ∀ (c : Conf) (vs : List Vhos) (v : Vhos), c.vhosts = vs ++ [v] → allP c (rs.map (fun r => lineW ROUTE (routW r))) = some { c with vhosts := vs ++ [⟨v.domain, v.routes ++ rs⟩] }
  | [], _, c, vs, v, hv => by
    simp only [List.map_nil, allP, List.append_nil]
    rw [← hv]
  | r :: rs, h, c, vs, v, hv => by
    rw [List.map_cons]
    unfold allP
    rw [line_rout (h r List.mem_cons_self) c vs v hv]
    simp only
    rw [all_routs rs (fun y hy => h y (List.mem_cons_of_mem _ hy)) _ vs ⟨v.domain, v.routes ++ [r]⟩ rfl]
    simp
theorem all_vhoss : ∀ (ws : List Vhos), (∀ v ∈ ws, ∀ r ∈ v.routes, RoutS r) → ∀ c : Conf, allP c (ws.flatMap vhosLs) = some { c with vhosts := c.vhosts ++ ws }
  | [], _, c => by simp [allP]
  | v :: ws, h, c => by
    rw [List.flatMap_cons, all_append]
    have e : allP c (vhosLs v) = some { c with vhosts := c.vhosts ++ [v] } := by
      unfold vhosLs allP
      rw [line_vhos]
      simp only
      rw [all_routs v.routes (h v List.mem_cons_self) _ c.vhosts ⟨v.domain, []⟩ rfl]
      simp
    rw [e]
    simp only
    rw [all_vhoss ws (fun x hx => h x (List.mem_cons_of_mem _ hx))]
    simp
/-- what a right config's numbers are -/
structure ConfS (c : Conf) : Prop where
  conns : Small c.conns
  body : Small c.body
  idle : Small c.idle
  grace : Small c.grace
  budget : Small c.budget
  seed : Small c.seed
  filters : ∀ f ∈ c.filters, FiltS f
  clusters : ∀ x ∈ c.clusters, ClusS x
  vhosts : ∀ v ∈ c.vhosts, ∀ r ∈ v.routes, RoutS r
theorem clusE_all : ∀ {cs ahead : List Clus}, clusE ahead cs = 0 → ∀ x ∈ cs, clusB x = true ∧ tokenB x.name 32 = true
  | [], _, _, x, hx => by cases hx
  | c :: cs, ahead, h, x, hx => by
    unfold clusE at h
    split at h
    · cases h
    split at h
    · cases h
    rename_i h1 h2
    simp only [Bool.or_eq_true, Bool.not_eq_true', not_or, Bool.not_eq_false] at h1 h2
    rcases List.mem_cons.1 hx with rfl | q
    · exact ⟨h2, h1.2⟩
    · exact clusE_all h x q
theorem vhosE_all {cs : List Clus} : ∀ {vs ahead : List Vhos}, vhosE cs ahead vs = 0 → ∀ v ∈ vs, domainB v.domain = true ∧ inB v.routes.length 1 32 = true ∧ ∀ r ∈ v.routes, routB r cs = true
  | [], _, _, x, hx => by cases hx
  | v :: vs, ahead, h, x, hx => by
    unfold vhosE at h
    split at h
    · cases h
    split at h
    · cases h
    rename_i h1 h2
    simp only [Bool.or_eq_true, Bool.not_eq_true', not_or, Bool.not_eq_false] at h1 h2
    rcases List.mem_cons.1 hx with rfl | q
    · exact ⟨h1.2, h2.1, fun r hr => List.all_eq_true.1 h2.2 r hr⟩
    · exact vhosE_all h x q
/-- what a right config is -/
structure Right (c : Conf) : Prop where
  bounds : boundsB c = true
  filters : ∀ f ∈ c.filters, filtB f = true
  clusters : ∀ x ∈ c.clusters, clusB x = true ∧ tokenB x.name 32 = true
  vhosts : ∀ v ∈ c.vhosts, domainB v.domain = true ∧ inB v.routes.length 1 32 = true ∧ ∀ r ∈ v.routes, routB r c.clusters = true
theorem right_of {c : Conf} (h : check14 c = 0) : Right c := by
  unfold check14 at h
  split at h
  · cases h
  rename_i h1
  split at h
  · cases h
  rename_i h2
  split at h
  · rename_i h3; exact absurd h h3
  rename_i h3
  simp only [Bool.not_eq_true', Bool.not_eq_false] at h1 h2
  exact ⟨h1, List.all_eq_true.1 h2, clusE_all (Decidable.not_not.1 h3), vhosE_all h⟩
theorem conf_small {c : Conf} (h : Right c) : ConfS c := by
  have hb := h.bounds
  unfold boundsB at hb
  have tk : TICK < 1000000000000000 := by decide
  simp only [Bool.and_eq_true] at hb
  obtain ⟨⟨⟨⟨⟨⟨⟨⟨h1, h2⟩, h3⟩, h4⟩, h5⟩, h6⟩, _⟩, _⟩, _⟩ := hb
  exact ⟨in_small h1 (by decide) (by decide), in_small h2 (by decide) (by decide), in_small h3 (by decide) tk, in_small h4 (by decide) tk, in_small h5 (by decide) (by decide), in_small h6 (by decide) (by decide),
    fun f hf => filt_small (h.filters f hf), fun x hx => clus_small (h.clusters x hx).1, fun v hv r hr => rout_small ((h.vhosts v hv).2.2 r hr)⟩
theorem listen_mids {c : Conf} (h : ConfS c) : Mids (listenW c) :=
  mids_cons (small_mid h.conns) (mids_cons (small_mid h.body) (mids_cons (small_mid h.idle) (mids_cons (small_mid h.grace) (mids_cons (small_mid h.budget) (mids_cons (small_mid h.seed) mids_nil)))))
theorem first_read {c : Conf} (h : ConfS c) : firstP (lineW LISTEN (listenW c)) = some ⟨c.conns, c.body, c.idle, c.grace, c.budget, c.seed, [], [], []⟩ := by
  unfold firstP
  rw [line_cut no10_names.2.2.2.2.2.1 (listen_mids h)]
  simp only [List.headD_cons, List.tail_cons]
  unfold listenW FL6
  rw [read_n h.conns, read_n h.body, read_n h.idle, read_n h.grace, read_n h.budget, read_n h.seed]
  simp only [readF, if_true]
  rfl
/-- the lines behind the first -/
def restC (c : Conf) : List L := c.filters.map (fun f => lineW FILTER (filtW f)) ++ (c.clusters.map (fun x => lineW CLUSTER (clusW x)) ++ c.vhosts.flatMap vhosLs)
theorem rest_read {c : Conf} (h : ConfS c) : allP ⟨c.conns, c.body, c.idle, c.grace, c.budget, c.seed, [], [], []⟩ (restC c) = some c := by
  unfold restC
  rw [all_append, all_filts _ h.filters]
  simp only
  rw [all_append, all_cluss _ h.clusters]
  simp only
  rw [all_vhoss _ h.vhosts]
  simp
theorem lines_no10 {c : Conf} (h : ConfS c) : ∀ l ∈ linesC c, noB 10 l := by
  intro l hl
  unfold linesC at hl
  rcases List.mem_cons.1 hl with rfl | q
  · exact line_no10 no10_names.1 (listen_mids h)
  rcases List.mem_append.1 q with q | q
  · obtain ⟨f, hf, rfl⟩ := List.mem_map.1 q
    exact line_no10 no10_names.2.1 (filt_mids (h.filters f hf))
  rcases List.mem_append.1 q with q | q
  · obtain ⟨x, hx, rfl⟩ := List.mem_map.1 q
    exact line_no10 no10_names.2.2.1 (clus_mids (h.clusters x hx))
  · obtain ⟨v, hv, q⟩ := List.mem_flatMap.1 q
    unfold vhosLs at q
    rcases List.mem_cons.1 q with rfl | q
    · exact line_no10 no10_names.2.2.2.1 (mids_cons (word_mid _) mids_nil)
    · obtain ⟨r, hr, rfl⟩ := List.mem_map.1 q
      exact line_no10 no10_names.2.2.2.2.1 (rout_mids (h.vhosts v hv r hr))
/-- lines with their ends, cut again -/
theorem cut_lines : ∀ (ls : List L), (∀ l ∈ ls, noB 10 l) → ∀ s : L, cutB 10 (ls.flatMap (fun l => l ++ [10]) ++ s) = ls ++ cutB 10 s
  | [], _, s => rfl
  | l :: ls, h, s => by
    rw [List.flatMap_cons, show l ++ [10] ++ ls.flatMap (fun l => l ++ [10]) ++ s = l ++ 10 :: (ls.flatMap (fun l => l ++ [10]) ++ s) by simp, cutB_append (h l List.mem_cons_self), cut_lines ls (fun x hx => h x (List.mem_cons_of_mem _ hx)), List.cons_append]
/-- lines that are of their form are passed -/
theorem go_all : ∀ (ls : List L) (i : Nat) (c c' : Conf), 0 < i → allP c ls = some c' → ∀ (m : L) (r : List L), goP i c (ls ++ m :: r) = goP (i + ls.length) c' (m :: r)
  | [], i, c, c', hi, h, m, r => by
    unfold allP at h
    injection h with e
    rw [e]
    rfl
  | l :: ls, i, c, c', hi, h, m, r => by
    unfold allP at h
    cases hl : lineP c l with
    | none => rw [hl] at h; cases h
    | some c2 =>
      rw [hl] at h
      simp only at h
      have e : ∃ x xs, ls ++ m :: r = x :: xs := by
        cases ls with
        | nil => exact ⟨m, r, rfl⟩
        | cons x xs => exact ⟨x, xs ++ m :: r, rfl⟩
      obtain ⟨x, xs, hx⟩ := e
      rw [List.cons_append, hx]
      conv => lhs; unfold goP
      unfold stepP
      rw [if_neg (by omega), hl]
      simp only
      rw [← hx, go_all ls (i + 1) c2 c' (by omega) h m r, List.length_cons]
      congr 1
      omega
theorem go_first {l : L} {c c' : Conf} (h : firstP l = some c') (m : L) (r : List L) : goP 0 c (l :: m :: r) = goP 1 c' (m :: r) := by
  conv => lhs; unfold goP
  unfold stepP
  rw [if_pos rfl, h]
theorem go_lines {c : Conf} (h : ConfS c) (m : L) (r : List L) : goP 0 zeroC (linesC c ++ m :: r) = goP (linesC c).length c (m :: r) := by
  have e : linesC c = lineW LISTEN (listenW c) :: restC c := rfl
  rw [e, List.cons_append]
  have hx : ∃ x xs, restC c ++ m :: r = x :: xs := by
    cases restC c with
    | nil => exact ⟨m, r, rfl⟩
    | cons x xs => exact ⟨x, xs ++ m :: r, rfl⟩
  obtain ⟨x, xs, hx⟩ := hx
  rw [hx, go_first (first_read h), ← hx, go_all (restC c) 1 _ c (by decide) (rest_read h), List.length_cons]
  congr 1
  omega
/-- a right config, written and read, is the same -/
theorem back14 {c : Conf} (h : check14 c = 0) : parse14 (print14 c) = (c, 0, 0) := by
  have hs := conf_small (right_of h)
  unfold parse14 print14
  have e := cut_lines (linesC c) (lines_no10 hs) []
  rw [List.append_nil] at e
  rw [e, show cutB 10 [] = [[]] from rfl, go_lines hs]
  have hl : 0 < (linesC c).length := by unfold linesC; simp
  have e2 : goP (linesC c).length c [[]] = .inr c := by
    unfold goP
    rw [if_pos ⟨hl, rfl⟩]
  rw [e2]
  simp only
  rw [h, if_neg (by decide)]
/-- what is no text of a config -/
theorem empty14 : parse14 [] = (zeroC, 0, 140) := by decide
end Go.Proofs.Ytcjobblhendkbaa.ConfBack

/- Layer 14: what a right config may be relied on for. No program is named. -/
namespace Go.Proofs.Ytcjobblhendkbaa.ConfSafe
open Bytes LexPure LexNum HostPure PathPure RHostPure EmitPure ConfPure ConfBack
set_option maxRecDepth 20000
theorem host_dial {s : L} (h : hostB s = true) : authE s = 0 ∧ 1 ≤ authP s := by
  unfold hostB at h
  cases ha : authO s with
  | none => rw [ha] at h; cases h
  | some x =>
    obtain ⟨hn, p⟩ := x
    rw [ha] at h
    simp only [Bool.and_eq_true, decide_eq_true_eq] at h
    obtain ⟨_, a2, a3⟩ := auth_some ha
    rw [a2, a3]
    exact ⟨rfl, by omega⟩
theorem in_least {n a b : Int} (h : inB n a b = true) : a ≤ n ∧ n ≤ b := by
  unfold inB at h
  rw [Bool.and_eq_true, decide_eq_true_eq, decide_eq_true_eq] at h
  exact h
theorem clus_safe {x : Clus} (h : clusB x = true) : (∀ s ∈ x.hosts, authE s = 0 ∧ 1 ≤ authP s) ∧ 1 ≤ x.hosts.length ∧ x.hosts.length ≤ 16 ∧ 1 ≤ x.conns ∧ 1 ≤ x.try_ := by
  have hs := (clus_small h).hosts
  unfold clusB at h
  simp only [Bool.and_eq_true] at h
  obtain ⟨⟨⟨⟨⟨⟨⟨⟨_, h2⟩, h3⟩, _⟩, h5⟩, _⟩, _⟩, _⟩, _⟩ := h
  have := in_least h2
  exact ⟨fun s hm => host_dial (hosts_word hs s hm), by omega, by omega, (in_least h3).1, (in_least h5).1⟩
theorem normal_of {s : L} (h : normalB s = true) : PathPure.normal s = some s := by
  unfold normalB at h
  simpa using h
/-- what the law looks at in a route -/
structure RoutSafe (r : Rout) (cs : List Clus) : Prop where
  found : r.action = 1 → ∃ c ∈ cs, c.name = r.cluster
  path : PathPure.normal r.path = some r.path ∨ (PathPure.normal r.path = none ∧ r.method = CONNECT)
  rewrite : r.rewrite = [] ∨ PathPure.normal r.rewrite = some r.rewrite
theorem rout_safe {r : Rout} {cs : List Clus} (h : routB r cs = true) : RoutSafe r cs := by
  unfold routB at h
  rw [Bool.and_eq_true] at h
  obtain ⟨h0, h1⟩ := h
  simp only [Bool.and_eq_true] at h0
  obtain ⟨⟨⟨⟨hp, _⟩, _⟩, _⟩, _⟩ := h0
  have hpath : PathPure.normal r.path = some r.path ∨ (PathPure.normal r.path = none ∧ r.method = CONNECT) := by
    rw [Bool.or_eq_true] at hp
    rcases hp with q | q
    · exact .inl (normal_of q)
    · simp only [Bool.and_eq_true, beq_iff_eq] at q
      exact .inr ⟨by rw [q.1]; decide, q.2⟩
  by_cases ha : r.action = 1
  · rw [if_pos ha] at h1
    unfold forwB at h1
    simp only [Bool.and_eq_true] at h1
    obtain ⟨⟨⟨⟨⟨k1, _⟩, _⟩, _⟩, _⟩, k2⟩ := h1
    refine ⟨fun _ => ?_, hpath, ?_⟩
    · obtain ⟨c, hc, hn⟩ := List.any_eq_true.1 k1
      exact ⟨c, hc, by simpa using hn⟩
    · split at k2
      · simp only [Bool.and_eq_true, beq_iff_eq] at k2
        exact .inl k2.1.1
      · simp only [Bool.or_eq_true, beq_iff_eq] at k2
        rcases k2 with q | q
        · exact .inl q
        · exact .inr (normal_of q)
  · rw [if_neg ha] at h1
    simp only [Bool.and_eq_true, beq_iff_eq] at h1
    exact ⟨fun e => absurd e ha, hpath, .inl h1.1.1.1.1.1.2⟩
theorem filt_safe {f : Filt} (h : filtB f = true) : f.name = [] ∨ nameB f.name = true := by
  unfold filtB at h
  split at h
  · simp only [Bool.and_eq_true] at h; exact .inr h.1.2
  split at h
  · simp only [Bool.and_eq_true] at h; exact .inr h.2
  split at h
  · simp only [Bool.and_eq_true, beq_iff_eq] at h; exact .inl h.1.1.1.1
  split at h
  · simp only [Bool.and_eq_true] at h; exact .inr h.1.1.2
  split at h
  · simp only [Bool.and_eq_true, beq_iff_eq] at h; exact .inl h.1.1.1.1.1
  split at h
  · simp only [Bool.and_eq_true, beq_iff_eq] at h; exact .inl h.1.1.1.1
  split at h
  · simp only [Bool.and_eq_true, beq_iff_eq] at h; exact .inl h.1.1.1.1
  · cases h
/-- a right config's lists are short -/
theorem short14 {c : Conf} (h : Right c) : c.filters.length ≤ 32 ∧ c.clusters.length ≤ 32 ∧ c.vhosts.length ≤ 32 ∧ ∀ v ∈ c.vhosts, 1 ≤ v.routes.length ∧ v.routes.length ≤ 32 := by
  have hb := h.bounds
  unfold boundsB at hb
  simp only [Bool.and_eq_true, decide_eq_true_eq] at hb
  refine ⟨hb.1.1.2, hb.1.2, hb.2, fun v hv => ?_⟩
  have := in_least (h.vhosts v hv).2.1
  omega
end Go.Proofs.Ytcjobblhendkbaa.ConfSafe

/- The normal form of a path: it is its own, and how it goes on. No program is named. -/
namespace Go.Proofs.Ytcjobblhendkbaa.PathForm
open LexPure Bytes PathPure

/-- a piece that may be kept -/
structure CleanP (p : List UInt8) : Prop where
  dot : isDot p = false
  up : isUp p = false
  no : noSlash p = true
  enc : Enc p
/-- the text of kept pieces, with a slash behind or not -/
def form (kept : List (List UInt8)) (tr : Bool) : List UInt8 := if tr then join kept ++ [47] else join kept
theorem keeps_append : ∀ (ps qs kept : List (List UInt8)), keeps kept (ps ++ qs) = (keeps kept ps).bind (fun k => keeps k qs)
  | [], qs, kept => rfl
  | p :: ps, qs, kept => by
    show keeps kept (p :: (ps ++ qs)) = _
    rw [keeps, keeps]
    split
    · exact keeps_append ps qs kept
    · split
      · split
        · rfl
        · exact keeps_append ps qs _
      · exact keeps_append ps qs _
theorem keeps_clean : ∀ (ps kept : List (List UInt8)), (∀ p ∈ ps, CleanP p) → keeps kept ps = some (kept ++ ps)
  | [], kept, _ => by simp [keeps]
  | p :: ps, kept, h => by
    have hp := h p (by simp)
    rw [keeps, if_neg (by simp [hp.dot]), if_neg (by simp [hp.up]), keeps_clean ps _ (fun q hq => h q (by simp [hq]))]
    simp
theorem keeps_kept : ∀ (ps kept out : List (List UInt8)), (∀ p ∈ kept, CleanP p) → (∀ p ∈ ps, Enc p ∧ noSlash p = true) → keeps kept ps = some out → ∀ p ∈ out, CleanP p
  | [], kept, out, hk, _, h => by
    simp only [keeps, Option.some.injEq] at h
    subst h
    exact hk
  | p :: ps, kept, out, hk, hp, h => by
    have hps : ∀ q ∈ ps, Enc q ∧ noSlash q = true := fun q hq => hp q (by simp [hq])
    rw [keeps] at h
    split at h
    · exact keeps_kept ps kept out hk hps h
    · rename_i h1
      split at h
      · split at h
        · cases h
        · exact keeps_kept ps _ out (fun q hq => hk q ((List.dropLast_sublist kept).subset hq)) hps h
      · rename_i h2
        refine keeps_kept ps _ out (fun q hq => ?_) hps h
        rw [List.mem_append, List.mem_singleton] at hq
        rcases hq with hq | rfl
        · exact hk q hq
        · have := hp q (by simp)
          exact ⟨by simpa using h1, by simpa using h2, this.2, this.1⟩
theorem enc_slash {r : List UInt8} (h : Enc r) : Enc (47 :: r) := Enc.one 47 r (by decide) (by decide) h
theorem join_enc : ∀ {kept : List (List UInt8)}, (∀ p ∈ kept, CleanP p) → Enc (join kept)
  | [], _ => Enc.nil
  | p :: ps, h => by
    show Enc ((47 :: p) ++ join ps)
    exact enc_append (enc_slash (h p (by simp)).enc) (join_enc (fun q hq => h q (by simp [hq])))
theorem form_enc {kept : List (List UInt8)} {tr : Bool} (h : ∀ p ∈ kept, CleanP p) : Enc (form kept tr) := by
  unfold form
  split
  · exact enc_append (join_enc h) (enc_slash Enc.nil)
  · exact join_enc h
/-- a form with something behind -/
theorem cuts_join : ∀ (kept : List (List UInt8)) (r : List UInt8), (∀ p ∈ kept, CleanP p) → cuts (join kept ++ 47 :: r).tail = kept ++ cuts r
  | [], r, _ => rfl
  | p :: ps, r, h => by
    have hp := h p (by simp)
    have ih := cuts_join ps r (fun q hq => h q (by simp [hq]))
    have e : (join (p :: ps) ++ 47 :: r).tail = p ++ (join ps ++ 47 :: r) := by
      show (((47 :: p) ++ join ps) ++ 47 :: r).tail = _
      simp
    rw [e]
    obtain ⟨t, ht⟩ : ∃ t, join ps ++ 47 :: r = 47 :: t := by
      cases ps with
      | nil => exact ⟨r, rfl⟩
      | cons q qs => exact ⟨q ++ join qs ++ 47 :: r, by show ((47 :: q) ++ join qs) ++ 47 :: r = _; simp⟩
    rw [ht] at ih ⊢
    rw [cuts_cut hp.no]
    show p :: cuts t = p :: (ps ++ cuts r)
    rw [show cuts t = ps ++ cuts r from ih]
theorem cuts_join_end (kept : List (List UInt8)) (hne : kept ≠ []) (h : ∀ p ∈ kept, CleanP p) : cuts (join kept).tail = kept := by
  obtain ⟨l, p, rfl⟩ : ∃ l p, kept = l ++ [p] := ⟨kept.dropLast, kept.getLast hne, (List.dropLast_concat_getLast hne).symm⟩
  have hp := h p (by simp)
  have e : join (l ++ [p]) = join l ++ 47 :: p := by simp [join]
  rw [e, cuts_join l p (fun q hq => h q (by simp [hq])), cuts_plain hp.no]
/-- a form's pieces -/
theorem cuts_form (kept : List (List UInt8)) (tr : Bool) (hf : kept = [] → tr = true) (h : ∀ p ∈ kept, CleanP p) : cuts (form kept tr).tail = kept ++ (if tr then [[]] else []) := by
  unfold form
  cases tr with
  | true => exact cuts_join kept [] h
  | false =>
    have hne : kept ≠ [] := fun e => by cases hf e
    simp only [Bool.false_eq_true, if_false, List.append_nil]
    exact cuts_join_end kept hne h
/-- the pieces of a form with more behind it -/
theorem cuts_more (kept : List (List UInt8)) (tr : Bool) (hf : kept = [] → tr = true) (h : ∀ p ∈ kept, CleanP p) (r : List UInt8) : cuts (form kept tr ++ 47 :: r).tail = (kept ++ (if tr then [[]] else [])) ++ cuts r := by
  have hne : form kept tr ≠ [] := by
    unfold form
    cases tr with
    | true => simp
    | false =>
      cases kept with
      | nil => cases hf rfl
      | cons p ps => show (47 :: p) ++ join ps ≠ []; simp
  have e : (form kept tr ++ 47 :: r).tail = (form kept tr).tail ++ 47 :: r := List.tail_append_of_ne_nil hne
  rw [e, cuts_append, cuts_form kept tr hf h]
theorem form_head (kept : List (List UInt8)) (tr : Bool) (hf : kept = [] → tr = true) : ∃ t, form kept tr = 47 :: t := by
  unfold form
  cases kept with
  | nil => rw [hf rfl]; exact ⟨[], rfl⟩
  | cons p ps => cases tr <;> exact ⟨_, rfl⟩
theorem keeps_trail (kept : List (List UInt8)) (tr : Bool) (h : ∀ p ∈ kept, CleanP p) : keeps [] (kept ++ (if tr then [[]] else [])) = some kept := by
  rw [keeps_append, keeps_clean kept [] h]
  cases tr <;> simp [keeps, isDot]
/-- what is answered is a form -/
theorem normal_form {s t : List UInt8} (h : normal s = some t) : ∃ kept tr, t = form kept tr ∧ (kept = [] → tr = true) ∧ (∀ p ∈ kept, CleanP p) := by
  unfold normal at h
  split at h
  · cases h
  · rename_i u hu
    split at h
    · cases h
    · rename_i kept hk
      injection h with h
      have hu2 : ∃ c r, s = c :: r ∧ esc (c :: r) = some u := by
        cases s with
        | nil => cases hu
        | cons c r =>
          refine ⟨c, r, rfl, ?_⟩
          have hu : (if (c == 47) = true then esc (c :: r) else none) = some u := hu
          by_cases h47 : (c == 47) = true
          · rwa [if_pos h47] at hu
          · rw [if_neg h47] at hu
            cases hu
      obtain ⟨c, r, rfl, hu2⟩ := hu2
      have he := esc_enc _ (Nat.le_refl _) hu2
      have het : Enc u.tail := by
        cases u with
        | nil => exact Enc.nil
        | cons d v =>
          have hu : (if (c == 47) = true then esc (c :: r) else none) = some (d :: v) := hu
          by_cases h47 : (c == 47) = true
          · rw [if_pos h47] at hu
            have hc : c = 47 := by simpa using h47
            subst hc
            rw [esc_cons, if_pos (by decide), if_neg (by decide)] at hu
            obtain ⟨v', hv', e⟩ := Option.map_eq_some_iff.1 hu
            injection e with e1 e2
            subst e2
            exact esc_enc _ (Nat.le_refl _) hv'
          · rw [if_neg h47] at hu
            cases hu
      have hclean := keeps_kept _ [] kept (fun p hp => by simp at hp) (fun p hp => ⟨cuts_enc het p hp, cuts_noSlash hp⟩) hk
      subst h
      unfold finish
      refine ⟨kept, kept.isEmpty || endsOpen (cuts u.tail), ?_, fun e => by simp [e], hclean⟩
      unfold form
      rfl
/-- how a form goes on: the escapes of it are itself -/
theorem escapes_more {kept : List (List UInt8)} {tr : Bool} (hf : kept = [] → tr = true) (h : ∀ p ∈ kept, CleanP p) {r u : List UInt8} (hr : esc r = some u) : escapes (form kept tr ++ r) = some (form kept tr ++ u) := by
  obtain ⟨t, ht⟩ := form_head kept tr hf
  have he := enc_esc (form_enc (tr := tr) h)
  have := esc_append _ r (Nat.le_refl _) he
  rw [hr] at this
  rw [ht] at this ⊢
  show (if (47 == (47 : UInt8)) = true then esc (47 :: t ++ r) else none) = _
  rw [if_pos (by decide), this]
  rfl
/-- a normal form is its own -/
theorem normal_fixed {kept : List (List UInt8)} {tr : Bool} (hf : kept = [] → tr = true) (h : ∀ p ∈ kept, CleanP p) : normal (form kept tr) = some (form kept tr) := by
  have he := escapes_more hf h (r := []) (u := []) rfl
  rw [List.append_nil] at he
  unfold normal
  rw [he]
  simp only
  rw [cuts_form kept tr hf h, keeps_trail kept tr h]
  simp only
  congr 1
  unfold finish form
  cases tr with
  | true => simp [endsOpen, isDot]
  | false =>
    have hne : kept ≠ [] := fun e => by cases hf e
    obtain ⟨l, p, rfl⟩ : ∃ l p, kept = l ++ [p] := ⟨kept.dropLast, kept.getLast hne, (List.dropLast_concat_getLast hne).symm⟩
    have hp := h p (by simp)
    simp [endsOpen, hp.dot, hp.up]
theorem normal_normal {s t : List UInt8} (h : normal s = some t) : normal t = some t := by
  obtain ⟨kept, tr, rfl, hf, hc⟩ := normal_form h
  exact normal_fixed hf hc
end Go.Proofs.Ytcjobblhendkbaa.PathForm

/- Paths: the normal form is not longer. No program is named. -/
namespace Go.Proofs.Ytcjobblhendkbaa.PathLen
open LexPure Bytes PathPure PathForm
/-- what pieces weigh, a slash each -/
def wt (ps : List (List UInt8)) : Nat := (ps.map (fun p => p.length + 1)).sum
theorem wt_append (a b : List (List UInt8)) : wt (a ++ b) = wt a + wt b := by simp [wt]
theorem wt_cuts : ∀ s : List UInt8, wt (cuts s) = s.length + 1
  | [] => rfl
  | c :: s => by
    have ih := wt_cuts s
    rw [cuts_cons]
    split
    · show 1 + wt (cuts s) = _
      rw [ih]
      simp
      omega
    · cases h : cuts s with
      | nil => exact absurd h (cuts_ne s)
      | cons p ps =>
        rw [h] at ih
        simp [wt] at ih ⊢
        omega
theorem join_wt (k : List (List UInt8)) : (join k).length = wt k := by
  induction k with
  | nil => rfl
  | cons p k ih =>
    show ((47 :: p) ++ join k).length = _
    rw [List.length_append, ih]
    simp [wt]
theorem wt_dropLast (k : List (List UInt8)) : wt k.dropLast ≤ wt k := by
  rcases List.eq_nil_or_concat k with rfl | ⟨l, p, rfl⟩
  · exact Nat.le_refl _
  · simp [wt]
theorem keeps_wt : ∀ (ps G K : List (List UInt8)), keeps G ps = some K → wt K ≤ wt G + wt ps
  | [], G, K, h => by
    simp only [keeps, Option.some.injEq] at h
    subst h
    exact Nat.le_add_right _ _
  | p :: ps, G, K, h => by
    have hw : wt (p :: ps) = p.length + 1 + wt ps := by simp [wt]
    rw [keeps] at h
    split at h
    · have := keeps_wt ps G K h
      omega
    · split at h
      · split at h
        · cases h
        · have := keeps_wt ps _ K h
          have := wt_dropLast G
          omega
      · have := keeps_wt ps _ K h
        rw [wt_append] at this
        have : wt [p] = p.length + 1 := by simp [wt]
        omega
theorem keeps_open {ps G K : List (List UInt8)} (hne : ps ≠ []) (ho : endsOpen ps = true) (h : keeps G ps = some K) : wt K + 1 ≤ wt G + wt ps := by
  rcases List.eq_nil_or_concat ps with rfl | ⟨l, p, rfl⟩
  · exact absurd rfl hne
  · rw [List.concat_eq_append] at *
    rw [keeps_append] at h
    obtain ⟨k, hk, h2⟩ := Option.bind_eq_some_iff.1 h
    have h1 := keeps_wt l G k hk
    rw [wt_append]
    have hp : wt [p] = p.length + 1 := by simp [wt]
    unfold endsOpen at ho
    rw [List.getLastD_eq_getLast?, List.getLast?_append] at ho
    simp only [List.getLast?_singleton, Option.some_or, Option.getD_some, Bool.or_eq_true] at ho
    rw [keeps] at h2
    split at h2
    · simp only [keeps, Option.some.injEq] at h2
      subst h2
      omega
    · split at h2
      · split at h2
        · cases h2
        · simp only [keeps, Option.some.injEq] at h2
          subst h2
          have := wt_dropLast k
          omega
      · rename_i a b
        rcases ho with h | h
        · exact absurd h a
        · exact absurd h b
theorem finish_len {u : List UInt8} {K : List (List UInt8)} (hu : 1 ≤ u.length) (h : keeps [] (cuts u.tail) = some K) : (finish K (cuts u.tail)).length ≤ u.length := by
  have hw := wt_cuts u.tail
  have h1 := keeps_wt _ _ _ h
  have hl : u.tail.length + 1 = u.length := by rw [List.length_tail]; omega
  have h0 : wt [] = 0 := rfl
  unfold finish
  split
  · rename_i hb
    rw [List.length_append, join_wt]
    rw [Bool.or_eq_true] at hb
    rcases hb with hb | hb
    · have : K = [] := List.isEmpty_iff.1 hb
      subst this
      simp [wt]
      omega
    · have := keeps_open (cuts_ne _) hb h
      simp
      omega
  · rw [join_wt]
    omega
theorem normal_len {s t : List UInt8} (he : ∀ u, escapes s = some u → 1 ≤ u.length ∧ u.length ≤ s.length) (h : normal s = some t) : t.length ≤ s.length := by
  unfold normal at h
  split at h
  · cases h
  · rename_i u hu
    split at h
    · cases h
    · rename_i K hK
      injection h with h
      subst h
      have := he u hu
      have := finish_len this.1 hK
      omega
/-- a form's last byte -/
theorem form_last (kept : List (List UInt8)) (tr : Bool) (hf : kept = [] → tr = true) (hc : ∀ p ∈ kept, CleanP p) : ((form kept tr).getLast? == some 47) = tr := by
  unfold form
  cases tr with
  | true => simp
  | false =>
    have hne : kept ≠ [] := fun e => by cases hf e
    obtain ⟨l, p, rfl⟩ : ∃ l p, kept = l ++ [p] := ⟨kept.dropLast, kept.getLast hne, (List.dropLast_concat_getLast hne).symm⟩
    have hp := hc p (by simp)
    have e : join (l ++ [p]) = join l ++ 47 :: p := by simp [join]
    simp only [Bool.false_eq_true, if_false]
    rw [e, List.getLast?_append]
    have hpn : p ≠ [] := fun h => by have := hp.dot; rw [h] at this; exact absurd this (by decide)
    have hl : (47 :: p).getLast? = some (p.getLast hpn) := by
      rw [List.getLast?_eq_some_getLast (by simp), List.getLast_cons hpn]
    rw [hl]
    simp only [Option.some_or]
    rw [beq_eq_false_iff_ne]
    intro h
    injection h with h
    have := hp.no
    unfold noSlash at this
    rw [List.all_eq_true] at this
    have h2 := this _ (List.getLast_mem hpn)
    rw [h] at h2
    exact absurd h2 (by decide)
end Go.Proofs.Ytcjobblhendkbaa.PathLen

/- Layer 15: where a request goes: a rewrite leads from one path in normal form to another. No program is named. -/
namespace Go.Proofs.Ytcjobblhendkbaa.RoutePure
open Bytes LexPure PathPure PathForm PathLen ConfPure ConfBack ConfSafe
set_option maxRecDepth 20000
def ends47 (s : L) : Bool := s.getLast? == some 47
/-- the rewritten path -/
def rewrite15 (r : Rout) (path : L) : L :=
  if r.rewrite = [] then path
  else if r.pre = false ∨ path.length ≤ r.path.length ∨ path.take r.path.length ≠ r.path then r.rewrite
  else if ends47 r.rewrite = true ∧ (path.drop r.path.length).headD 0 = 47 then r.rewrite ++ (path.drop r.path.length).tail
  else if ends47 r.rewrite = true ∨ (path.drop r.path.length).headD 0 = 47 then r.rewrite ++ path.drop r.path.length
  else r.rewrite ++ 47 :: path.drop r.path.length
theorem join_cuts : ∀ t : L, join (cuts t) = 47 :: t
  | [] => rfl
  | c :: t => by
    have ih := join_cuts t
    rw [cuts_cons]
    by_cases h : (c == 47) = true
    · rw [if_pos h]
      have e : c = 47 := by simpa using h
      show 47 :: ([] ++ join (cuts t)) = _
      rw [ih, e]; rfl
    · rw [if_neg h]
      cases hc : cuts t with
      | nil => exact absurd hc (cuts_ne t)
      | cons p ps =>
        rw [hc] at ih
        have e : 47 :: (p ++ join ps) = 47 :: t := ih
        injection e with _ e2
        show 47 :: ((c :: p) ++ join ps) = _
        rw [List.cons_append, e2]
theorem join_append (a b : List L) : join (a ++ b) = join a ++ join b := by unfold join; rw [List.flatMap_append]
theorem form_say (k : List L) (tr : Bool) : form k tr = join k ++ (if tr then [47] else []) := by
  unfold form
  cases tr <;> simp
/-- of pieces: what stands behind a beginning of whole pieces -/
theorem tail_form {kp kq : List L} {tp : Bool} {t : L} (hp : ∀ p ∈ kp, CleanP p) (hq : ∀ p ∈ kq, CleanP p) (hf : kp = [] → tp = true) (h : form kp tp = join kq ++ 47 :: t) :
    ∃ k, 47 :: t = form k tp ∧ (k = [] → tp = true) ∧ ∀ p ∈ k, CleanP p := by
  have e1 := cuts_form kp tp hf hp
  rw [h, cuts_join kq t hq] at e1
  -- kq ++ cuts t = kp ++ (if tp then [[]] else [])
  have hlen : kq.length ≤ kp.length := by
    rcases Nat.lt_or_ge kp.length kq.length with hlt | hge
    · exfalso
      have hl := congrArg List.length e1
      rw [List.length_append, List.length_append] at hl
      have hc : 0 < (cuts t).length := List.length_pos_iff.2 (cuts_ne t)
      cases tp with
      | false => simp at hl; omega
      | true => simp at hl; omega
    · exact hge
  have e2 : kq = kp.take kq.length := by
    have := congrArg (List.take kq.length) e1
    rw [List.take_left, List.take_append_of_le_length hlen] at this
    exact this
  have e3 : cuts t = kp.drop kq.length ++ (if tp then [[]] else []) := by
    have := congrArg (List.drop kq.length) e1
    rw [List.drop_left, List.drop_append_of_le_length hlen] at this
    exact this
  have hd : ∀ p ∈ kp.drop kq.length, CleanP p := fun p h => hp p (List.mem_of_mem_drop h)
  refine ⟨kp.drop kq.length, ?_, fun h0 => ?_, hd⟩
  · rw [← join_cuts t, e3, join_append, form_say]
    cases tp <;> rfl
  · rw [h0] at e3
    cases tp with
    | true => rfl
    | false => exact absurd e3 (cuts_ne t)
/-- a clean beginning, then whole pieces, is in normal form -/
theorem join_normal {kr k : List L} {tp : Bool} (hr : ∀ p ∈ kr, CleanP p) (hk : ∀ p ∈ k, CleanP p) (hf : k = [] → tp = true) : PathPure.normal (join kr ++ form k tp) = some (join kr ++ form k tp) := by
  have e : join kr ++ form k tp = form (kr ++ k) tp := by rw [form_say, form_say, join_append, List.append_assoc]
  rw [e]
  exact normal_fixed (fun h => hf (List.append_eq_nil_iff.1 h).2) (fun p hp => by
    rcases List.mem_append.1 hp with q | q
    · exact hr p q
    · exact hk p q)
/-- a rewrite keeps the normal form -/
theorem rewrite_normal {r : Rout} {cs : List Clus} {path : L} (h : routB r cs = true) (hp : PathPure.normal path = some path) (hu : r.path = path ∨ (r.pre = true ∧ under path r.path = true)) :
    PathPure.normal (rewrite15 r path) = some (rewrite15 r path) := by
  have hs := rout_safe h
  unfold rewrite15
  by_cases h0 : r.rewrite = []
  · rw [if_pos h0]; exact hp
  rw [if_neg h0]
  have hR : PathPure.normal r.rewrite = some r.rewrite := by
    rcases hs.rewrite with q | q
    · exact absurd q h0
    · exact q
  by_cases h1 : r.pre = false ∨ path.length ≤ r.path.length ∨ path.take r.path.length ≠ r.path
  · rw [if_pos h1]; exact hR
  rw [if_neg h1]
  simp only [not_or, Decidable.not_not] at h1
  obtain ⟨h2, h3, h4⟩ := h1
  have hQ : PathPure.normal r.path = some r.path := by
    rcases hs.path with q | ⟨_, hm⟩
    · exact q
    · exfalso
      unfold routB at h
      rw [Bool.and_eq_true] at h
      obtain ⟨_, h⟩ := h
      split at h
      · unfold forwB at h
        rw [Bool.and_eq_true] at h
        rw [if_pos hm] at h
        simp only [Bool.and_eq_true, beq_iff_eq] at h
        exact h0 h.2.1.1
      · simp only [Bool.and_eq_true, beq_iff_eq] at h
        exact h0 h.1.1.1.1.1.2
  obtain ⟨kp, tp, ep, fp, cp⟩ := normal_form hp
  obtain ⟨kq, tq, eq, fq, cq⟩ := normal_form hQ
  obtain ⟨kr, tr, er, fr, cr⟩ := normal_form hR
  obtain ⟨t, ht⟩ : ∃ t, t = path.drop r.path.length := ⟨_, rfl⟩
  have hpt : path = r.path ++ t := by
    conv => lhs; rw [← List.take_append_drop r.path.length path, h4]
    rw [ht]
  have htn : t ≠ [] := by
    intro e
    rw [e, List.append_nil] at hpt
    rw [hpt] at h3
    omega
  rw [← ht]
  have hu2 : under path r.path = true := by
    rcases hu with q | q
    · rw [← q] at h3; omega
    · exact q.2
  -- t, with a slash ahead, is whole pieces
  have key : ∃ k, (t.headD 0 = 47 ∧ t = form k tp ∨ t.headD 0 ≠ 47 ∧ 47 :: t = form k tp) ∧ (k = [] → tp = true) ∧ ∀ p ∈ k, CleanP p := by
    cases tq with
    | true =>
      have e5 : r.path = join kq ++ [47] := by rw [eq, form_say]; simp
      have e : form kp tp = join kq ++ 47 :: t := by
        rw [← ep, hpt, e5]
        simp
      obtain ⟨k, k1, k2, k3⟩ := tail_form cp cq fp e
      refine ⟨k, .inr ⟨fun h47 => ?_, k1⟩, k2, k3⟩
      cases t with
      | nil => exact htn rfl
      | cons c t =>
        have hc : c = 47 := h47
        subst hc
        -- two slashes one behind the other
        have e3 := congrArg (fun s => cuts s.tail) k1
        rw [cuts_form k tp k2 k3, List.tail_cons, cuts_cons, if_pos (by decide)] at e3
        cases k with
        | nil =>
          rw [k2 rfl] at e3
          simp only [if_true, List.nil_append, List.cons.injEq, true_and] at e3
          exact cuts_ne t e3
        | cons p k =>
          rw [List.cons_append] at e3
          injection e3 with e4 _
          have := k3 p List.mem_cons_self
          rw [← e4] at this
          exact absurd this.dot (by decide)
    | false =>
      have e5 : r.path = join kq := by rw [eq, form_say]; simp
      have h47 : t.headD 0 = 47 := by
        unfold under at hu2
        simp only [Bool.and_eq_true, Bool.or_eq_true, beq_iff_eq] at hu2
        rcases hu2.2 with (q | q) | q
        · omega
        · rw [hpt, List.getElem?_append_right (Nat.le_refl _), Nat.sub_self] at q
          cases t with
          | nil => exact absurd rfl htn
          | cons c t => simpa using q
        · exfalso
          have := form_last kq false fq cq
          rw [← eq, q] at this
          simp at this
      cases t with
      | nil => exact absurd rfl htn
      | cons c t =>
        have hc : c = 47 := h47
        subst hc
        have e : form kp tp = join kq ++ 47 :: t := by rw [← ep, hpt, e5]
        obtain ⟨k, k1, k2, k3⟩ := tail_form cp cq fp e
        exact ⟨k, .inl ⟨rfl, k1⟩, k2, k3⟩
  obtain ⟨k, hk, k2, k3⟩ := key
  have hend : ends47 r.rewrite = tr := by
    unfold ends47
    rw [er]
    exact form_last kr tr fr cr
  have hRj : r.rewrite = join kr ++ (if tr then [47] else []) := by rw [er, form_say]
  have out : ∀ x, x = join kr ++ form k tp → PathPure.normal x = some x := fun x hx => by rw [hx]; exact join_normal cr k3 k2
  rw [hend]
  rcases hk with ⟨a, b⟩ | ⟨a, b⟩
  · cases tr with
    | true =>
      rw [if_pos ⟨rfl, a⟩]
      apply out
      rw [hRj, ← b]
      cases t with
      | nil => exact absurd rfl htn
      | cons c t =>
        have hc : c = 47 := a
        subst hc
        simp
    | false =>
      rw [if_neg (fun x => absurd x.1 (by decide)), if_pos (.inr a)]
      apply out
      rw [hRj, ← b]
      simp
  · cases tr with
    | true =>
      rw [if_neg (fun x => a x.2), if_pos (.inl rfl)]
      apply out
      rw [hRj, ← b]
      simp
    | false =>
      rw [if_neg (fun x => a x.2), if_neg (by rintro (x | x); exact absurd x (by decide); exact a x)]
      apply out
      rw [hRj, ← b]
      simp
end Go.Proofs.Ytcjobblhendkbaa.RoutePure

/- Layer 15: which route a request takes. No program is named. -/
namespace Go.Proofs.Ytcjobblhendkbaa.RouteFind
open Bytes LexPure PathPure ConfPure ConfBack FieldsPure RoutePure
set_option maxRecDepth 20000
/-- does it begin with a star and a dot? -/
def starW (d : L) : Bool := d.take 2 == [42, 46]
/-- a wildcard fits a host -/
def wildF (d host : L) : Bool := starW d && (decide (d.length ≤ host.length) && host.drop (host.length - (d.length - 1)) == d.tail)
/-- how well a domain fits a host; 0: not at all -/
def rank15 (d host : L) : Nat := if d == host then 2 + host.length else if wildF d host then 1 + d.length else if d == [42] then 1 else 0
theorem wild_len {d host : L} (h : wildF d host = true) : d.length ≤ host.length ∧ 2 ≤ d.length := by
  unfold wildF starW at h
  simp only [Bool.and_eq_true, decide_eq_true_eq, beq_iff_eq] at h
  refine ⟨h.2.1, ?_⟩
  have := congrArg List.length h.1
  simp at this
  omega
theorem rank_top (d host : L) : rank15 d host ≤ 2 + host.length := by
  unfold rank15
  split
  · omega
  split
  · rename_i h; have := (wild_len h).1; omega
  split <;> omega
theorem rank_own {d host : L} (h : rank15 d host = 2 + host.length) : d = host := by
  unfold rank15 at h
  split at h
  · rename_i e; simpa using e
  split at h
  · rename_i h2; have := (wild_len h2).1; omega
  split at h <;> omega
theorem rank_self (host : L) : rank15 host host = 2 + host.length := by unfold rank15; simp
/-- the i-th counts -/
structure Counts (host : L) (ds : List L) (i : Nat) : Prop where
  lt : i < ds.length
  pos : 0 < rank15 (ds.getD i []) host
  top : ∀ d ∈ ds, rank15 d host ≤ rank15 (ds.getD i []) host
  first : ∀ j, j < i → rank15 (ds.getD j []) host < rank15 (ds.getD i []) host
def dom15 (ds : List L) (host : L) : Option Nat :=
  if ds.all (fun d => rank15 d host == 0) then none else ds.findIdx? (fun d => ds.all (fun e => decide (rank15 e host ≤ rank15 d host)))
theorem getD_at {α : Type} {l : List α} {i : Nat} (h : i < l.length) (z : α) : l.getD i z = l[i] := by simp [List.getD, List.getElem?_eq_getElem h]
theorem dom_of {host : L} {ds : List L} {i : Nat} (h : Counts host ds i) : dom15 ds host = some i := by
  unfold dom15
  have hp := h.pos
  have ht := h.top
  have hf := h.first
  rw [getD_at h.lt] at hp ht hf
  rw [if_neg (fun e => by
    rw [List.all_eq_true] at e
    have := e _ (List.getElem_mem h.lt)
    simp at this
    omega)]
  rw [List.findIdx?_eq_some_iff_getElem]
  refine ⟨h.lt, ?_, fun j hj => ?_⟩
  · rw [List.all_eq_true]
    exact fun e he => decide_eq_true (ht e he)
  · intro hc
    rw [List.all_eq_true] at hc
    have h1 := of_decide_eq_true (hc _ (List.getElem_mem h.lt))
    have h2 := hf j hj
    rw [getD_at (Nat.lt_trans hj h.lt)] at h2
    omega
theorem dom_none {host : L} {ds : List L} (h : ∀ d ∈ ds, rank15 d host = 0) : dom15 ds host = none := by
  unfold dom15
  rw [if_pos]
  rw [List.all_eq_true]
  intro d hd
  rw [h d hd]; rfl
theorem max_at (f : L → Nat) : ∀ (ds : List L), ds ≠ [] → ∃ i, ∃ h : i < ds.length, (∀ d ∈ ds, f d ≤ f ds[i]) ∧ ∀ j (hj : j < ds.length), j < i → f ds[j] < f ds[i]
  | [], h => absurd rfl h
  | [d], _ => ⟨0, by simp, fun e he => by obtain rfl := List.mem_singleton.1 he; exact Nat.le_refl _, fun j _ h => by omega⟩
  | d :: e :: ds, _ => by
    obtain ⟨i, h, h1, h2⟩ := max_at f (e :: ds) (by simp)
    by_cases hd : f (e :: ds)[i] ≤ f d
    · refine ⟨0, by simp, fun x hx => ?_, fun j _ h => by omega⟩
      rcases List.mem_cons.1 hx with rfl | hx
      · exact Nat.le_refl _
      · exact Nat.le_trans (h1 x hx) hd
    · refine ⟨i + 1, by simpa using h, fun x hx => ?_, fun j hj hji => ?_⟩
      · rcases List.mem_cons.1 hx with rfl | hx
        · show f x ≤ f (e :: ds)[i]; omega
        · exact h1 x hx
      · cases j with
        | zero => show f d < f (e :: ds)[i]; omega
        | succ j => exact h2 j (by simpa using hj) (by omega)
theorem dom_some {host : L} {ds : List L} {i : Nat} (h : dom15 ds host = some i) : Counts host ds i := by
  have hn : ¬ ds.all (fun d => rank15 d host == 0) = true := fun e => by
    unfold dom15 at h
    rw [if_pos e] at h
    cases h
  have hne : ds ≠ [] := fun e => hn (by rw [e]; rfl)
  obtain ⟨k, hk, h1, h2⟩ := max_at (fun d => rank15 d host) ds hne
  have hc : Counts host ds k := by
    refine ⟨hk, ?_, ?_, fun j hj => ?_⟩
    · rw [getD_at hk]
      apply Nat.pos_of_ne_zero
      intro e
      apply hn
      rw [List.all_eq_true]
      intro d hd
      have := h1 d hd
      rw [e] at this
      simp
      omega
    · rw [getD_at hk]; exact h1
    · rw [getD_at hk, getD_at (Nat.lt_trans hj hk)]
      exact h2 j _ hj
  have := dom_of hc
  rw [h] at this
  injection this with this
  rw [this]; exact hc
theorem dom_lt {host : L} {ds : List L} {i : Nat} (h : dom15 ds host = some i) : i < ds.length := (dom_some h).lt
/-- a domain that fits better than all others counts -/
theorem dom_best {host : L} {ds : List L} {x : L} (hx : x ∈ ds) (h0 : 0 < rank15 x host) (h : ∀ d ∈ ds, d ≠ x → rank15 d host < rank15 x host) : ∃ i, dom15 ds host = some i ∧ ∃ hi : i < ds.length, ds[i] = x := by
  cases hd : dom15 ds host with
  | none =>
    exfalso
    unfold dom15 at hd
    split at hd
    · rename_i e
      rw [List.all_eq_true] at e
      have := e x hx
      simp at this
      omega
    · rename_i e
      obtain ⟨k, hk, h1, h2⟩ := max_at (fun d => rank15 d host) ds (List.ne_nil_of_mem hx)
      rw [List.findIdx?_eq_none_iff] at hd
      have := hd _ (List.getElem_mem hk)
      rw [Bool.eq_false_iff] at this
      exact this (by rw [List.all_eq_true]; exact fun e he => decide_eq_true (h1 e he))
  | some i =>
    have hc := dom_some hd
    refine ⟨i, rfl, hc.lt, ?_⟩
    have := hc.top x hx
    rw [getD_at hc.lt] at this
    apply Decidable.byContradiction
    intro hne
    have := h _ (List.getElem_mem hc.lt) hne
    omega
/-- a route takes a request -/
def takes15 (r : Rout) (method path : L) (G : List HField) : Bool :=
  (r.method == [] || r.method == method) && ((r.path == path || (r.pre && under path r.path)) && (r.field == [] || (decide (0 < getN G r.field) && (r.value == [] || getV G r.field == r.value))))
def route15 (rs : List Rout) (method path : L) (G : List HField) : Option Nat := rs.findIdx? (fun r => takes15 r method path G)
def find15 (vs : List Vhos) (method host path : L) (G : List HField) : Option (Nat × Nat) :=
  (dom15 (vs.map (·.domain)) host).bind fun i => (route15 ((vs.map (·.routes)).getD i []) method path G).map fun k => (i, k)
theorem takes_path {r : Rout} {method path : L} {G : List HField} (h : takes15 r method path G = true) : r.path = path ∨ (r.pre = true ∧ under path r.path = true) := by
  unfold takes15 at h
  simp only [Bool.and_eq_true, Bool.or_eq_true, beq_iff_eq] at h
  exact h.2.1
theorem find_at {vs : List Vhos} {method host path : L} {G : List HField} {i k : Nat} (h : find15 vs method host path G = some (i, k)) : ∃ hi : i < vs.length, ∃ hk : k < vs[i].routes.length, takes15 vs[i].routes[k] method path G = true := by
  unfold find15 at h
  rw [Option.bind_eq_some_iff] at h
  obtain ⟨a, h1, h2⟩ := h
  rw [Option.map_eq_some_iff] at h2
  obtain ⟨b, h3, h4⟩ := h2
  injection h4 with e1 e2
  subst e1 e2
  have hi : a < vs.length := by have := dom_lt h1; rwa [List.length_map] at this
  rw [getD_at (by rwa [List.length_map]), List.getElem_map] at h3
  unfold route15 at h3
  rw [List.findIdx?_eq_some_iff_getElem] at h3
  obtain ⟨hk, ht, _⟩ := h3
  exact ⟨hi, hk, ht⟩
/-- RouteNormal: what goes on by a right config stays in normal form -/
theorem normal15 {c : Conf} (hr : Right c) {method host path : L} {G : List HField} {i k : Nat} (h : find15 c.vhosts method host path G = some (i, k)) (hp : PathPure.normal path = some path) : ∃ hi : i < c.vhosts.length, ∃ hk : k < c.vhosts[i].routes.length, PathPure.normal (rewrite15 c.vhosts[i].routes[k] path) = some (rewrite15 c.vhosts[i].routes[k] path) := by
  obtain ⟨hi, hk, ht⟩ := find_at h
  exact ⟨hi, hk, rewrite_normal ((hr.vhosts _ (List.getElem_mem hi)).2.2 _ (List.getElem_mem hk)) hp (takes_path ht)⟩
/-- RouteFirst: a route more behind -/
theorem more_behind (rs : List Rout) (m : Rout) (method path : L) (G : List HField) : route15 (rs ++ [m]) method path G = match route15 rs method path G with | some k => some k | none => if takes15 m method path G then some rs.length else none := by
  unfold route15
  rw [List.findIdx?_append]
  cases h : rs.findIdx? (fun r => takes15 r method path G) with
  | some k => rfl
  | none =>
    by_cases ht : takes15 m method path G = true
    · simp [List.findIdx?_cons, ht]
    · simp [List.findIdx?_cons, ht]
/-- RouteFirst: a route for everything ahead -/
theorem all_ahead (rs : List Rout) (method path : L) (G : List HField) (m : Rout) (h1 : m.method = []) (h2 : m.path = path) (h3 : m.field = []) : route15 (m :: rs) method path G = some 0 := by
  unfold route15
  rw [List.findIdx?_cons, if_pos]
  unfold takes15
  rw [h1, h2, h3]
  simp
/-- a vhost's routes are others -/
theorem find_set (vs : List Vhos) (i : Nat) (hi : i < vs.length) (rs : List Rout) (method host path : L) (G : List HField) (hd : dom15 (vs.map (·.domain)) host = some i) :
    find15 (vs.set i ⟨vs[i].domain, rs⟩) method host path G = (route15 rs method path G).map fun k => (i, k) := by
  unfold find15
  have e : (vs.set i ⟨vs[i].domain, rs⟩).map (·.domain) = vs.map (·.domain) := by
    rw [List.map_set]
    apply List.ext_getElem (by simp)
    intro j h1 h2
    rw [List.getElem_set]
    split
    · rename_i e; subst e; rw [List.getElem_map]
    · rfl
  rw [e, hd]
  show ((route15 (((vs.set i ⟨vs[i].domain, rs⟩).map (·.routes)).getD i []) method path G).map fun k => (i, k)) = _
  rw [getD_at (by simpa using hi), List.getElem_map, List.getElem_set_self]
theorem find_dom (vs : List Vhos) (i : Nat) (hi : i < vs.length) (method host path : L) (G : List HField) (hd : dom15 (vs.map (·.domain)) host = some i) :
    find15 vs method host path G = (route15 vs[i].routes method path G).map fun k => (i, k) := by
  unfold find15
  rw [hd]
  show ((route15 ((vs.map (·.routes)).getD i []) method path G).map fun k => (i, k)) = _
  rw [getD_at (by simpa using hi), List.getElem_map]
theorem find_none (vs : List Vhos) (method host path : L) (G : List HField) (hd : dom15 (vs.map (·.domain)) host = none) : find15 vs method host path G = none := by
  unfold find15
  rw [hd]; rfl
end Go.Proofs.Ytcjobblhendkbaa.RouteFind

/- Layer 15 of the program: leads, whether a route is one of that path. -/
namespace Go.Proofs.Ytcjobblhendkbaa.PRouLead
open Go.ChangeShapes Go.WideShapes Go.ChangeAt Go.RowKit Bytes Ret LexPure ConfPure ConfMem RouteFind PathPure Mem
set_option maxRecDepth 100000
set_option linter.unusedVariables false
set_option linter.unusedSimpArgs false
/-- a route's cells -/
def routA (r : Rout) : Array Value := #[.bool r.pre, .string (ofL r.path), .string (ofL r.method), .string (ofL r.field), .string (ofL r.value), .int .i64 r.action, .string (ofL r.cluster), .int .i64 r.status, .string (ofL r.text), .string (ofL r.rewrite), .int .i64 r.retries, .int .i64 r.timeout, .bool r.upgrade]
theorem text_eq (a b : ByteArray) : (a.toList == b.toList) = (toL a == toL b) := by rw [ByteArray.toList_eq, ByteArray.toList_eq]
theorem ret_bool {a b : Bool} (h : a = b) : Ending.returned (.bool a) = .returned (.bool b) := by rw [h]
set_option maxHeartbeats 3200000 in
theorem pleads_any (r : Rout) (p : ByteArray) (hr : r.path.length ≤ 9223372036854775807) (w : World) :
    Calls Try.prog 20 #[.agg (routA r), .string p] w fun e w' => e = .returned (.bool (r.path == toL p || (r.pre && under (toL p) r.path))) ∧ Below w.heap.size w w' := by
  have HU := Lib.hid (fun w => PUnderU.punder_any p (ofL r.path) (by rw [ofL_size]; exact hr) w)
  rw [toL_ofL] at HU
  have hq := text_eq (ofL r.path) p
  rw [toL_ofL] at hq
  obtain ⟨x, hx⟩ : ∃ x, x = (r.path == toL p) := ⟨_, rfl⟩
  obtain ⟨y, hy⟩ : ∃ y, y = r.pre := ⟨_, rfl⟩
  obtain ⟨z, hz⟩ : ∃ z, z = under (toL p) r.path := ⟨_, rfl⟩
  unfold routA
  rw [← hx] at hq
  rw [← hx, ← hy, ← hz]
  rw [← hz] at HU
  have HB : Hid (Below w.heap.size w (w.alloc (.cells #[.bool y, .string (ofL r.path), .string (ofL r.method), .string (ofL r.field), .string (ofL r.value), .int .i64 r.action, .string (ofL r.cluster), .int .i64 r.status, .string (ofL r.text), .string (ofL r.rewrite), .int .i64 r.retries, .int .i64 r.timeout, .bool r.upgrade] 39))) := Lib.hid ((Below.refl _ _).alloc (Nat.le_refl _) _)
  clear hx hy hz hr
  cases x
  · cases y
    · go_enter Try.func20, Try.ntmps20
      go_wp2_with fail
      go_ret
      exact ⟨rfl, HB.out⟩
    · go_enter Try.func20, Try.ntmps20
      go_wp2_with fail
      refine (HU.out _).mono ?_
      rintro e w' ⟨rfl, rfl⟩
      go_wp2_with fail
      go_ret
      exact ⟨by cases z <;> rfl, HB.out⟩
  · go_enter Try.func20, Try.ntmps20
    go_wp2_with fail
    go_ret
    exact ⟨rfl, HB.out⟩
end Go.Proofs.Ytcjobblhendkbaa.PRouLead

/- Layer 7: lists of fields, how they lie in memory. -/
namespace Go.Proofs.Ytcjobblhendkbaa.Flds
open Go.ChangeShapes Go.WideShapes Go.ChangeAt Go.RowKit LexPure Bytes Ret Rows1 FieldsPure Mem
set_option maxRecDepth 20000
def encF (f : HField) : List Value := [.string (ofL f.1), .string (ofL f.2)]
def encFs (l : List HField) : List Value := l.flatMap encF
theorem encFs_append (a b : List HField) : encFs (a ++ b) = encFs a ++ encFs b := by simp [encFs]
theorem encFs_at : ∀ (l : List HField) (j : Nat) (f : HField), l[j]? = some f → (encFs l)[j * 2]? = some (.string (ofL f.1)) ∧ (encFs l)[j * 2 + 1]? = some (.string (ofL f.2))
  | [], j, f, h => by simp at h
  | x :: l, 0, f, h => by
    have e : x = f := by simpa using h
    subst e
    simp [encFs, encF]
  | x :: l, j + 1, f, h => by
    have ih := encFs_at l j f (by simpa using h)
    have e1 : (j + 1) * 2 = j * 2 + 2 := by omega
    rw [e1]
    simpa [encFs, encF] using ih
/-- every name and value has so many bytes at most -/
def Few (G : List HField) : Prop := ∀ (j : Nat) (h : j < G.length), G[j].1.length ≤ 1048576 ∧ G[j].2.length ≤ 1048576
/-- every name and value lies within reach -/
def Far (G : List HField) : Prop := ∀ (j : Nat) (h : j < G.length), G[j].1.length ≤ 140737488351232 ∧ G[j].2.length ≤ 140737488351232
theorem Few.far {G : List HField} (h : Few G) : Far G := fun j hj => by have := h j hj; omega
theorem infoF : (Try.prog.info? 84).map (fun i => (i.zero, i.size, i.bytes)) = some (some (.agg #[.string ByteArray.empty, .string ByteArray.empty]), 2, 32) := by kernel_rfl
/-- a list of fields: how it looks and its cells -/
def FL (w : World) (v : Value) (G : List HField) : Prop := ∃ p cap, v = .slice p G.length cap ∧ G.length ≤ 4398046511104 ∧ (0 < G.length → ∃ g o, p = some ⟨g, o, none⟩ ∧ g < w.heap.size ∧ ∀ j (hj : j < G.length), w.cell? ⟨g, o + j * 2, none⟩ = some (.string (ofL G[j].1)) ∧ w.cell? ⟨g, o + j * 2 + 1, none⟩ = some (.string (ofL G[j].2)))
theorem FL.below {w w' : World} {v : Value} {G : List HField} (h : FL w v G) (hb : Below w.heap.size w w') : FL w' v G := by
  obtain ⟨p, cap, hv, hn, hc⟩ := h
  refine ⟨p, cap, hv, hn, fun h0 => ?_⟩
  obtain ⟨g, o, hp, hlt, hcell⟩ := hc h0
  exact ⟨g, o, hp, Nat.lt_of_lt_of_le hlt hb.size, fun j hj => ⟨(hb.cell (p := ⟨g, o + j * 2, none⟩) hlt).trans (hcell j hj).1, (hb.cell (p := ⟨g, o + j * 2 + 1, none⟩) hlt).trans (hcell j hj).2⟩⟩
theorem FL.drewN {w : World} {v : Value} {G : List HField} (h : FL w v G) (m : Nat) : FL (w.drewN m) v G := h
/-- a row of a call's own is a list of fields -/
theorem fl_of {w : World} {base : Nat} {v : Value} {G : List HField} (h : w.ownsRow base 84 2 v G.length (encFs G)) (hle : G.length ≤ 4398046511104) : FL w v G := by
  rcases h.2 with ⟨hv, hn⟩ | ⟨g, cap, cur, hv, hb, hg, hcap, rest⟩
  · exact ⟨none, 0, by rw [hv, hn], hle, fun h0 => by omega⟩
  · refine ⟨_, cap, hv, hle, fun _ => ⟨g, 0, rfl, (Array.getElem?_eq_some_iff.1 hg).1, fun j hj => ?_⟩⟩
    have hc := h.cells (g := g) (by rw [hv]; rfl)
    obtain ⟨h1, h2⟩ := encFs_at G j G[j] (List.getElem?_eq_getElem hj)
    have a1 := hc _ _ h1
    have a2 := hc _ _ h2
    have e : ∀ i : Nat, (⟨g, 0, none⟩ : Addr).add i = ⟨g, i, none⟩ := fun i => by unfold Addr.add; split <;> simp_all
    rw [e] at a1 a2
    rw [Nat.zero_add]
    exact ⟨a1, a2⟩
end Go.Proofs.Ytcjobblhendkbaa.Flds

/- An argument that is a list of fields, of bulk at most 1048576. -/
namespace Go.Proofs.Ytcjobblhendkbaa.FArg
open Go.ChangeShapes Go.WideShapes Go.ChangeAt Go.RowKit Go.Deep LexPure Bytes Ret Rows1 FieldsPure Flds
set_option maxRecDepth 20000
theorem plain_cell {w : World} {a : Addr} {v : Value} (h : w.cell? a = some v) : a = ⟨a.block, a.off, none⟩ := by
  obtain ⟨b, o, e⟩ := a
  cases e with
  | none => rfl
  | some e =>
    have := World.cell?_spot h
    cases this
theorem add_plain (b o i : Nat) : (⟨b, o, none⟩ : Addr).add i = ⟨b, o + i, none⟩ := by unfold Addr.add; split <;> simp_all
theorem bulk_pos {H : Type} (d : DataW H) : 1 ≤ Rows.uptoBulk d := by
  cases d with
  | lit l => cases l <;> simp [Rows.uptoBulk]
  | _ => simp [Rows.uptoBulk]
theorem bulkAll_len {H : Type} : ∀ l : List (DataW H), l.length ≤ Rows.uptoBulkAll l
  | [] => by simp [Rows.uptoBulkAll]
  | d :: r => by
    have h1 := bulk_pos d
    have h2 := bulkAll_len r
    rw [Rows.uptoBulkAll, List.length_cons]
    omega
theorem bulkAll_mem {H : Type} : ∀ (l : List (DataW H)) (d : DataW H), d ∈ l → Rows.uptoBulk d ≤ Rows.uptoBulkAll l
  | [], _, h => by cases h
  | x :: r, d, h => by
    rw [Rows.uptoBulkAll]
    rcases List.mem_cons.1 h with rfl | h
    · omega
    · have := bulkAll_mem r d h
      omega
/-- a list's value is nil, or it has an address -/
def Nice (v : Value) (n : Nat) : Prop := v = .slice none 0 0 ∨ ∃ a cap, v = .slice (some a) n cap
theorem fields_core {H : Type} {enc : TypeId × Value → H} {W : World} {v : Value} {d : DataW H} {p : List MemPlace} {fuel : Nat}
    (hf : DataW.trod enc Try.prog W 0 (fun _ => true) true fuel 27 [v] = some (d, p)) (hb : Rows.uptoBulk d ≤ 1048576) :
    ∃ G, FL W v G ∧ Few G ∧ G.length ≤ 1048576 ∧ Nice v G.length := by
  have he : Try.prog.underlying 84 = some (.struct #[(Try.prog.fieldsOf 84)[0]!, (Try.prog.fieldsOf 84)[1]!]) := by kernel_rfl
  rcases open_slice_pairs Try.underlying27 he (by kernel_rfl) (by kernel_rfl) (by kernel_rfl) (by kernel_rfl) (by kernel_rfl) hf with ⟨hc, hx⟩ | ⟨a, len, cap, m, n, V0, V1, D0, D1, P0, P1, hc, _, hlc, hcm, hm, hx, hi⟩
  · obtain rfl : v = .slice none 0 0 := by simpa using hc
    exact ⟨[], ⟨none, 0, rfl, Nat.zero_le _, fun h => absurd h (by simp)⟩, fun j hj => absurd hj (by simp), Nat.zero_le _, .inl rfl⟩
  · obtain rfl : v = .slice (some a) len cap := by simpa using hc
    injection hx with hd hp
    have hlm : len ≤ m := by rw [hm, if_pos rfl]; exact hlc
    have hS : ∀ i, i < m → ∃ s t : ByteArray, V0 i = .string s ∧ V1 i = .string t ∧ D0 i = .lit (.string s.data.toList) ∧ D1 i = .lit (.string t.data.toList) := fun i him => by
      obtain ⟨_, _, t0, t1⟩ := hi i him
      have u0 : Try.prog.underlying (Try.prog.fieldsOf 84)[0]!.type = some .string := by kernel_rfl
      have u1 : Try.prog.underlying (Try.prog.fieldsOf 84)[1]!.type = some .string := by kernel_rfl
      obtain ⟨s, hs, hs2, _⟩ := DataW.trod_string u0 t0
      obtain ⟨t, ht, ht2, _⟩ := DataW.trod_string u1 t1
      exact ⟨s, t, by simpa using hs, by simpa using ht, by simpa using congrArg Prod.fst hs2, by simpa using congrArg Prod.fst ht2⟩
    rw [hd, Rows.uptoBulk] at hb
    have hlen := bulkAll_len ((List.range len).map fun i => DataW.agg [D0 i, D1 i])
    rw [List.length_map, List.length_range] at hlen
    have hget : ∀ i : Nat, i < len → ∃ f : HField, V0 i = .string (ofL f.1) ∧ V1 i = .string (ofL f.2) ∧ f.1.length ≤ 1048576 ∧ f.2.length ≤ 1048576 := fun i hil => by
      obtain ⟨s, t, hs, ht, hs2, ht2⟩ := hS i (by omega)
      have hb2 := bulkAll_mem ((List.range len).map fun i => DataW.agg [D0 i, D1 i]) (.agg [D0 i, D1 i]) (List.mem_map.2 ⟨i, by simpa using hil, rfl⟩)
      rw [hs2, ht2] at hb2
      simp only [Rows.uptoBulk, Rows.uptoBulkAll] at hb2
      exact ⟨(toL s, toL t), by rw [hs, ofL_toL], by rw [ht, ofL_toL], by show s.data.toList.length ≤ _; omega, by show t.data.toList.length ≤ _; omega⟩
    let f : Nat → HField := fun i => if h : i < len then (hget i h).choose else ([], [])
    have hfs : ∀ i (h : i < len), V0 i = .string (ofL (f i).1) ∧ V1 i = .string (ofL (f i).2) ∧ (f i).1.length ≤ 1048576 ∧ (f i).2.length ≤ 1048576 := fun i h => by
      have := (hget i h).choose_spec
      simp only [f, dif_pos h]
      exact this
    refine ⟨(List.range len).map f, ⟨some a, cap, by simp, by simp; omega, fun h0 => ?_⟩, fun j hj => ?_, by simp; omega, .inr ⟨a, cap, by simp⟩⟩
    · rw [List.length_map, List.length_range] at h0
      obtain ⟨c0, _⟩ := hi 0 (by omega)
      have ha := plain_cell c0
      have hae : a = ⟨a.block, a.off, none⟩ := by
        obtain ⟨b, o, e⟩ := a
        cases e with
        | none => rfl
        | some e => simp [Addr.add] at ha
      have hblk := World.block_lt_of_cell? _ _ c0
      obtain ⟨b, o, e⟩ := a
      injection hae with _ _ e3
      subst e3
      refine ⟨b, o, rfl, by simpa [Addr.add] using hblk, fun j hj => ?_⟩
      rw [List.length_map, List.length_range] at hj
      obtain ⟨c1, c2, _⟩ := hi j (by omega)
      obtain ⟨v0, v1, _, _⟩ := hfs j hj
      rw [v0] at c1
      rw [v1] at c2
      simp only [List.getElem_map, List.getElem_range]
      rw [add_plain] at c1 c2
      exact ⟨c1, by rw [Nat.add_assoc]; exact c2⟩
    · rw [List.length_map, List.length_range] at hj
      simp only [List.getElem_map, List.getElem_range]
      exact (hfs j hj).2.2
theorem fields_arg {H : Type} {enc : TypeId × Value → H} {W : World} {base : Nat} {v : Value} {d : DataW H} {p : List MemPlace} (hv : Value.okWide Try.prog W .any base 27 v)
    (h : DataW.Trod enc Try.prog W 0 (fun _ => true) true 27 v d p) (hb : Rows.uptoBulk d ≤ 1048576) :
    ∃ G, FL W v G ∧ Few G ∧ G.length ≤ 1048576 ∧ Nice v G.length := by
  obtain ⟨a0, len, cap, rfl⟩ := okWide_slice Try.underlying27 hv
  obtain ⟨fuel, hf⟩ := h
  exact fields_core (by simpa [Value.cells] using hf) hb
/-- the same where each string and each slice takes what memory holds: the first form -/
theorem fields_arg_wide {H : Type} {enc : TypeId × Value → H} {W : World} {base : Nat} {v : Value} {d : DataW H} {p : List MemPlace} (hv : Value.okWide Try.prog W .any base 27 v)
    (h : DataW.Trod enc Try.prog W 0 (fun _ => true) true 27 v d p) (hb : (d.weights Try.prog 27).all (· ≤ reachBytes) = true) :
    ∃ G, FL W v G ∧ (∀ (j : Nat) (h : j < G.length), G[j].1.length ≤ 9223372036854775807 ∧ G[j].2.length ≤ 9223372036854775807) ∧ G.length ≤ 4398046510976 ∧ Nice v G.length := by
  obtain ⟨a0, len, cap, rfl⟩ := okWide_slice Try.underlying27 hv
  obtain ⟨fuel, hf⟩ := h
  have he : Try.prog.underlying 84 = some (.struct #[(Try.prog.fieldsOf 84)[0]!, (Try.prog.fieldsOf 84)[1]!]) := by kernel_rfl
  rcases open_slice_pairs Try.underlying27 he (by kernel_rfl) (by kernel_rfl) (by kernel_rfl) (by kernel_rfl) (by kernel_rfl) hf with ⟨hc, hx⟩ | ⟨a, len', cap', m, n, V0, V1, D0, D1, P0, P1, hc, _, hlc, hcm, hm, hx, hi⟩
  · have hc' : Value.slice a0 len cap = .slice none 0 0 := by simpa [Value.cells] using hc
    injection hc' with e1 e2 e3
    subst e1 e2 e3
    exact ⟨[], ⟨none, 0, rfl, Nat.zero_le _, fun h => absurd h (by simp)⟩, fun j hj => absurd hj (by simp), Nat.zero_le _, .inl rfl⟩
  · have hc' : Value.slice a0 len cap = .slice (some a) len' cap' := by simpa [Value.cells] using hc
    injection hc' with e1 e2 e3
    subst e1 e2 e3
    injection hx with hd hp
    have hlm : len ≤ m := by rw [hm, if_pos rfl]; exact hlc
    have hS : ∀ i, i < m → ∃ f : HField, V0 i = .string (ofL f.1) ∧ V1 i = .string (ofL f.2) ∧ f.1.length ≤ 9223372036854775807 ∧ f.2.length ≤ 9223372036854775807 := fun i him => by
      obtain ⟨_, _, t0, t1⟩ := hi i him
      have u0 : Try.prog.underlying (Try.prog.fieldsOf 84)[0]!.type = some .string := by kernel_rfl
      have u1 : Try.prog.underlying (Try.prog.fieldsOf 84)[1]!.type = some .string := by kernel_rfl
      obtain ⟨s, hs, _, ls⟩ := DataW.trod_string u0 t0
      obtain ⟨t, ht, _, lt⟩ := DataW.trod_string u1 t1
      unfold maxLen at ls lt
      exact ⟨(toL s, toL t), by rw [ofL_toL]; simpa using hs, by rw [ofL_toL]; simpa using ht, by rw [toL_length]; exact ls, by rw [toL_length]; exact lt⟩
    have hlen : len * 32 ≤ 140737488351232 := by
      rw [hd] at hb
      simp only [DataW.weights, Try.underlying27, List.all_cons, Bool.and_eq_true] at hb
      have h1 := of_decide_eq_true hb.1
      rw [show Try.prog.bytesOf 84 = 32 by kernel_rfl, List.length_map, List.length_range] at h1
      unfold reachBytes at h1
      omega
    let f : Nat → HField := fun i => if h : i < m then (hS i h).choose else ([], [])
    have hfs : ∀ i (h : i < m), V0 i = .string (ofL (f i).1) ∧ V1 i = .string (ofL (f i).2) ∧ (f i).1.length ≤ 9223372036854775807 ∧ (f i).2.length ≤ 9223372036854775807 := fun i h => by
      have := (hS i h).choose_spec
      simp only [f, dif_pos h]
      exact this
    refine ⟨(List.range len).map f, ⟨some a, cap, by simp, by simp; omega, fun h0 => ?_⟩, fun j hj => ?_, by simp; omega, .inr ⟨a, cap, by simp⟩⟩
    · rw [List.length_map, List.length_range] at h0
      obtain ⟨c0, _⟩ := hi 0 (by omega)
      have ha := plain_cell c0
      have hae : a = ⟨a.block, a.off, none⟩ := by
        obtain ⟨b, o, e⟩ := a
        cases e with
        | none => rfl
        | some e => simp [Addr.add] at ha
      have hblk := World.block_lt_of_cell? _ _ c0
      obtain ⟨b, o, e⟩ := a
      injection hae with _ _ e3
      subst e3
      refine ⟨b, o, rfl, by simpa [Addr.add] using hblk, fun j hj => ?_⟩
      rw [List.length_map, List.length_range] at hj
      obtain ⟨c1, c2, _⟩ := hi j (by omega)
      obtain ⟨v0, v1, _, _⟩ := hfs j (by omega)
      rw [v0] at c1
      rw [v1] at c2
      simp only [List.getElem_map, List.getElem_range]
      rw [add_plain] at c1 c2
      exact ⟨c1, by rw [Nat.add_assoc]; exact c2⟩
    · rw [List.length_map, List.length_range] at hj
      simp only [List.getElem_map, List.getElem_range]
      exact (hfs j (by omega)).2.2
theorem weightsAll_mem {H : Type} {P : Program} {e : TypeId} (q : Nat → Bool) : ∀ l : List (DataW H), (DataW.weightsAll P e l).all q = true → ∀ d ∈ l, (d.weights P e).all q = true
  | [], _, d, hd => by cases hd
  | x :: l, h, d, hd => by
    simp only [DataW.weightsAll, List.all_append, Bool.and_eq_true] at h
    rcases List.mem_cons.1 hd with rfl | hd
    · exact h.1
    · exact weightsAll_mem q l h.2 d hd
theorem fields_core_reach {H : Type} {enc : TypeId × Value → H} {W : World} {v : Value} {d : DataW H} {p : List MemPlace} {fuel : Nat}
    (hf : DataW.trod enc Try.prog W 0 (fun _ => true) true fuel 27 [v] = some (d, p)) (hb : (d.weights Try.prog 27).all (· ≤ reachBytes) = true) :
    ∃ G, FL W v G ∧ Far G ∧ G.length ≤ 4398046510976 ∧ Nice v G.length := by
  have he : Try.prog.underlying 84 = some (.struct #[(Try.prog.fieldsOf 84)[0]!, (Try.prog.fieldsOf 84)[1]!]) := by kernel_rfl
  rcases open_slice_pairs Try.underlying27 he (by kernel_rfl) (by kernel_rfl) (by kernel_rfl) (by kernel_rfl) (by kernel_rfl) hf with ⟨hc, hx⟩ | ⟨a, len, cap, m, n, V0, V1, D0, D1, P0, P1, hc, _, hlc, hcm, hm, hx, hi⟩
  · obtain rfl : v = .slice none 0 0 := by simpa using hc
    exact ⟨[], ⟨none, 0, rfl, Nat.zero_le _, fun h => absurd h (by simp)⟩, fun j hj => absurd hj (by simp), Nat.zero_le _, .inl rfl⟩
  · obtain rfl : v = .slice (some a) len cap := by simpa using hc
    injection hx with hd hp
    have hlm : len ≤ m := by rw [hm, if_pos rfl]; exact hlc
    have hall : ∀ i, i < len → ((DataW.agg [D0 i, D1 i]).weights Try.prog 84).all (· ≤ reachBytes) = true := fun i hil => by
      rw [hd] at hb
      simp only [DataW.weights, Try.underlying27, List.all_cons, Bool.and_eq_true, List.all_append] at hb
      exact weightsAll_mem _ _ hb.2.1 _ (List.mem_map.2 ⟨i, List.mem_range.2 hil, rfl⟩)
    have hS : ∀ i, i < m → ∃ f : HField, V0 i = .string (ofL f.1) ∧ V1 i = .string (ofL f.2) ∧ (i < len → f.1.length ≤ 140737488351232 ∧ f.2.length ≤ 140737488351232) := fun i him => by
      obtain ⟨_, _, t0, t1⟩ := hi i him
      have u0 : Try.prog.underlying (Try.prog.fieldsOf 84)[0]!.type = some .string := by kernel_rfl
      have u1 : Try.prog.underlying (Try.prog.fieldsOf 84)[1]!.type = some .string := by kernel_rfl
      obtain ⟨s, hs, hs2, _⟩ := DataW.trod_string u0 t0
      obtain ⟨t, ht, ht2, _⟩ := DataW.trod_string u1 t1
      have e0 : D0 i = .lit (.string s.data.toList) := by simpa using congrArg Prod.fst hs2
      have e1 : D1 i = .lit (.string t.data.toList) := by simpa using congrArg Prod.fst ht2
      refine ⟨(toL s, toL t), by rw [ofL_toL]; simpa using hs, by rw [ofL_toL]; simpa using ht, fun hil => ?_⟩
      have h := hall i hil
      rw [e0, e1] at h
      simp only [DataW.weights, he, List.map_cons, List.map_nil, DataW.weightsEach, List.all_append, List.all_cons, List.all_nil, Bool.and_true, Bool.and_eq_true] at h
      have h1 := of_decide_eq_true h.1
      have h2 := of_decide_eq_true h.2
      unfold reachBytes at h1 h2
      exact ⟨h1, h2⟩
    have hlen : len * 32 ≤ 140737488351232 := by
      rw [hd] at hb
      simp only [DataW.weights, Try.underlying27, List.all_cons, Bool.and_eq_true] at hb
      have h1 := of_decide_eq_true hb.1
      rw [show Try.prog.bytesOf 84 = 32 by kernel_rfl, List.length_map, List.length_range] at h1
      unfold reachBytes at h1
      omega
    let f : Nat → HField := fun i => if h : i < m then (hS i h).choose else ([], [])
    have hfs : ∀ i (h : i < m), V0 i = .string (ofL (f i).1) ∧ V1 i = .string (ofL (f i).2) ∧ (i < len → (f i).1.length ≤ 140737488351232 ∧ (f i).2.length ≤ 140737488351232) := fun i h => by
      have := (hS i h).choose_spec
      simp only [f, dif_pos h]
      exact this
    refine ⟨(List.range len).map f, ⟨some a, cap, by simp, by simp; omega, fun h0 => ?_⟩, fun j hj => ?_, by simp; omega, .inr ⟨a, cap, by simp⟩⟩
    · rw [List.length_map, List.length_range] at h0
      obtain ⟨c0, _⟩ := hi 0 (by omega)
      have ha := plain_cell c0
      have hae : a = ⟨a.block, a.off, none⟩ := by
        obtain ⟨b, o, e⟩ := a
        cases e with
        | none => rfl
        | some e => simp [Addr.add] at ha
      have hblk := World.block_lt_of_cell? _ _ c0
      obtain ⟨b, o, e⟩ := a
      injection hae with _ _ e3
      subst e3
      refine ⟨b, o, rfl, by simpa [Addr.add] using hblk, fun j hj => ?_⟩
      rw [List.length_map, List.length_range] at hj
      obtain ⟨c1, c2, _⟩ := hi j (by omega)
      obtain ⟨v0, v1, _⟩ := hfs j (by omega)
      rw [v0] at c1
      rw [v1] at c2
      simp only [List.getElem_map, List.getElem_range]
      rw [add_plain] at c1 c2
      exact ⟨c1, by rw [Nat.add_assoc]; exact c2⟩
    · rw [List.length_map, List.length_range] at hj
      simp only [List.getElem_map, List.getElem_range]
      exact (hfs j (by omega)).2.2 (by omega)
theorem fields_arg_reach {H : Type} {enc : TypeId × Value → H} {W : World} {base : Nat} {v : Value} {d : DataW H} {p : List MemPlace} (hv : Value.okWide Try.prog W .any base 27 v)
    (h : DataW.Trod enc Try.prog W 0 (fun _ => true) true 27 v d p) (hb : (d.weights Try.prog 27).all (· ≤ reachBytes) = true) :
    ∃ G, FL W v G ∧ Far G ∧ G.length ≤ 4398046510976 ∧ Nice v G.length := by
  obtain ⟨a0, len, cap, rfl⟩ := okWide_slice Try.underlying27 hv
  obtain ⟨fuel, hf⟩ := h
  exact fields_core_reach (by simpa [Value.cells] using hf) hb
end Go.Proofs.Ytcjobblhendkbaa.FArg

/- Layer 15 of the program: what it asks of package strings. -/
namespace Go.Proofs.Ytcjobblhendkbaa.PRouLib
open Go.ChangeShapes Go.WideShapes Go.ChangeAt Go.RowKit Bytes Ret LexPure
set_option maxRecDepth 20000
theorem lib_has (s p : ByteArray) (w : World) :
    Calls Try.prog 41 #[.string s, .string p] w fun e w' => e = .returned (.bool ((toL p).isPrefixOf (toL s))) ∧ w' = w :=
  Any.strings_HasPrefix Try.lays99 s p w
theorem lib_ends (s p : ByteArray) (hs : s.size ≤ 9223372036854775807) (w : World) :
    Calls Try.prog 42 #[.string s, .string p] w fun e w' => e = .returned (.bool ((toL p).isSuffixOf (toL s))) ∧ w' = w :=
  Any.strings_HasSuffix Try.lays100 s p w hs
theorem lib_cutp (s p : ByteArray) (w : World) :
    Calls Try.prog 22 #[.string s, .string p] w fun e w' => e = .returned (.tuple #[.string (ofL (if (toL p).isPrefixOf (toL s) then (toL s).drop p.size else toL s)), .bool ((toL p).isPrefixOf (toL s))]) ∧ w' = w := by
  have h := Any.strings_CutPrefix Try.lays103 s p w
  unfold Lib.trimPrefix Lib.hasPrefix at h
  rw [show p.data.toList.length = p.size from toL_length p] at h
  exact h
theorem lib_trimp (s p : ByteArray) (w : World) :
    Calls Try.prog 24 #[.string s, .string p] w fun e w' => e = .returned (.string (ofL (if (toL p).isPrefixOf (toL s) then (toL s).drop p.size else toL s))) ∧ w' = w := by
  have h := Any.strings_TrimPrefix Try.lays101 s p w
  unfold Lib.trimPrefix Lib.hasPrefix at h
  rw [show p.data.toList.length = p.size from toL_length p] at h
  exact h
theorem lib_trims (s p : ByteArray) (hs : s.size ≤ 9223372036854775807) (w : World) :
    Calls Try.prog 23 #[.string s, .string p] w fun e w' => e = .returned (.string (ofL (if (toL p).isSuffixOf (toL s) then (toL s).take (s.size - p.size) else toL s))) ∧ w' = w := by
  have h := Any.strings_TrimSuffix Try.lays102 s p w hs
  unfold Lib.trimSuffix Lib.hasSuffix at h
  rw [show p.data.toList.length = p.size from toL_length p, show s.data.toList.length = s.size from toL_length s] at h
  exact h
end Go.Proofs.Ytcjobblhendkbaa.PRouLib

/- Layer 15: the best domain so far. No program is named. -/
namespace Go.Proofs.Ytcjobblhendkbaa.PRouBest
open Bytes LexPure ConfPure RouteFind
set_option maxRecDepth 20000
set_option linter.unusedVariables false
/-- the domain fits a host that it need not be itself -/
def covB (d host : L) : Bool := d == [42] || wildF d host
def domI : Option Nat → Int
  | some i => i
  | none => -1
theorem Counts.more {host : L} {l : List L} {i : Nat} (h : Counts host l i) {d : L} (hd : rank15 d host ≤ rank15 (l.getD i []) host) : Counts host (l ++ [d]) i := by
  have e : ∀ j, j < l.length → (l ++ [d]).getD j [] = l.getD j [] := fun j hj => by
    rw [getD_at (by simp; omega), getD_at hj, List.getElem_append_left hj]
  refine ⟨by have := h.lt; simp; omega, by rw [e _ h.lt]; exact h.pos, fun x hx => ?_, fun j hj => ?_⟩
  · rw [e _ h.lt]
    rcases List.mem_append.1 hx with q | q
    · exact h.top x q
    · obtain rfl := List.mem_singleton.1 q
      exact hd
  · rw [e _ h.lt, e _ (Nat.lt_trans hj h.lt)]
    exact h.first j hj
theorem counts_last {host : L} {l : List L} {d : L} (h0 : 0 < rank15 d host) (h : ∀ x ∈ l, rank15 x host < rank15 d host) : Counts host (l ++ [d]) l.length := by
  have e : (l ++ [d]).getD l.length [] = d := by rw [getD_at (by simp)]; simp
  refine ⟨by simp, by rw [e]; exact h0, fun x hx => ?_, fun j hj => ?_⟩
  · rw [e]
    rcases List.mem_append.1 hx with q | q
    · exact Nat.le_of_lt (h x q)
    · obtain rfl := List.mem_singleton.1 q
      exact Nat.le_refl _
  · rw [e, getD_at (by simp; omega), List.getElem_append_left hj]
    exact h _ (List.getElem_mem hj)
theorem rank_cov {d host : L} (hne : d ≠ host) (h : covB d host = true) : rank15 d host = (if d.length ≤ 1 then 1 else 1 + d.length) ∧ 1 ≤ d.length := by
  unfold covB at h
  unfold rank15
  rw [if_neg (by simpa using hne)]
  by_cases hw : wildF d host = true
  · have := (wild_len hw).2
    rw [if_pos hw, if_neg (by omega)]
    exact ⟨rfl, by omega⟩
  · rw [if_neg hw]
    have e : (d == [42]) = true := by
      rcases Bool.or_eq_true _ _ |>.mp h with q | q
      · exact q
      · exact absurd q hw
    rw [if_pos e]
    obtain rfl : d = [42] := by simpa using e
    exact ⟨rfl, Nat.le_refl _⟩
theorem rank_uncov {d host : L} (hne : d ≠ host) (h : covB d host = false) : rank15 d host = 0 := by
  unfold covB at h
  rw [Bool.or_eq_false_iff] at h
  unfold rank15
  rw [if_neg (by simpa using hne), if_neg (by rw [h.2]; simp), if_neg (by rw [h.1]; simp)]
theorem cov_of {d host : L} (hne : d ≠ host) (h : 0 < rank15 d host) : covB d host = true := by
  cases hc : covB d host
  · rw [rank_uncov hne hc] at h; omega
  · rfl
theorem rank_le {d e host : L} (h1 : d ≠ host) (h2 : e ≠ host) (k1 : covB d host = true) (k2 : covB e host = true) : rank15 d host ≤ rank15 e host ↔ d.length ≤ e.length := by
  obtain ⟨a1, a2⟩ := rank_cov h1 k1
  obtain ⟨b1, b2⟩ := rank_cov h2 k2
  rw [a1, b1]
  split <;> split <;> omega
/-- behind the first k domains -/
structure Best (ds : List L) (host : L) (k : Nat) (b : Int) : Prop where
  ne : ∀ d ∈ ds.take k, d ≠ host
  is : (b = -1 ∧ ∀ d ∈ ds.take k, rank15 d host = 0) ∨ ∃ i : Nat, b = i ∧ i < k ∧ i < ds.length ∧ Counts host (ds.take k) i
theorem Best.start (ds : List L) (host : L) : Best ds host 0 (-1) := ⟨fun d h => by simp at h, .inl ⟨rfl, fun d h => by simp at h⟩⟩
section
variable {ds : List L} {host : L} {k : Nat} {b : Int}
theorem take_more (hk : k < ds.length) : ds.take (k + 1) = ds.take k ++ [ds[k]] := by rw [List.take_add_one, List.getElem?_eq_getElem hk]; rfl
theorem take_all (hk : k < ds.length) : ds = ds.take k ++ ds[k] :: ds.drop (k + 1) := by rw [List.getElem_cons_drop, List.take_append_drop]
theorem Best.hit (h : Best ds host k b) (hk : k < ds.length) (he : ds[k] = host) : dom15 ds host = some k := by
  apply dom_of
  have hr : rank15 ds[k] host = 2 + host.length := by rw [he]; exact rank_self host
  refine ⟨hk, by rw [getD_at hk, hr]; omega, fun d hd => by rw [getD_at hk, hr]; exact rank_top d host, fun j hj => ?_⟩
  rw [getD_at hk, hr, getD_at (Nat.lt_trans hj hk)]
  have h1 := rank_top ds[j] host
  rcases Nat.lt_or_ge (rank15 ds[j] host) (2 + host.length) with q | q
  · exact q
  · exact absurd (rank_own (Nat.le_antisymm h1 q)) (h.ne _ (by rw [List.mem_take_iff_getElem]; exact ⟨j, by omega, rfl⟩))
theorem Best.ne_step (h : Best ds host k b) (hk : k < ds.length) (he : ds[k] ≠ host) : ∀ d ∈ ds.take (k + 1), d ≠ host := fun d hd => by
  rw [take_more hk] at hd
  rcases List.mem_append.1 hd with q | q
  · exact h.ne d q
  · obtain rfl := List.mem_singleton.1 q
    exact he
theorem Best.skip (h : Best ds host k b) (hk : k < ds.length) (he : ds[k] ≠ host) (hc : covB ds[k] host = false) : Best ds host (k + 1) b := by
  refine ⟨h.ne_step hk he, ?_⟩
  have hr := rank_uncov he hc
  rcases h.is with ⟨h1, h2⟩ | ⟨i, h1, h2, h3, h4⟩
  · refine .inl ⟨h1, fun d hd => ?_⟩
    rw [take_more hk] at hd
    rcases List.mem_append.1 hd with q | q
    · exact h2 d q
    · obtain rfl := List.mem_singleton.1 q
      exact hr
  · refine .inr ⟨i, h1, by omega, h3, ?_⟩
    rw [take_more hk]
    exact Counts.more h4 (by rw [hr]; exact Nat.zero_le _)
theorem Best.first (h : Best ds host k (-1)) (hk : k < ds.length) (he : ds[k] ≠ host) (hc : covB ds[k] host = true) : Best ds host (k + 1) k := by
  refine ⟨h.ne_step hk he, .inr ⟨k, rfl, by omega, hk, ?_⟩⟩
  have hl : (ds.take k).length = k := by rw [List.length_take]; omega
  have hp : 0 < rank15 ds[k] host := by have := rank_cov he hc; rw [this.1]; split <;> omega
  rw [take_more hk]
  have := counts_last (l := ds.take k) hp (fun x hx => by
    rcases h.is with ⟨_, h2⟩ | ⟨i, h1, _⟩
    · rw [h2 x hx]; exact hp
    · omega)
  rwa [hl] at this
theorem Best.at_ {i : Nat} (h : Best ds host k (i : Int)) : i < k ∧ i < ds.length := by
  rcases h.is with ⟨h1, _⟩ | ⟨j, h1, h2, h3, _⟩
  · omega
  · obtain rfl : i = j := by omega
    exact ⟨h2, h3⟩
theorem Best.count {i : Nat} (h : Best ds host k (i : Int)) : Counts host (ds.take k) i := by
  rcases h.is with ⟨h1, _⟩ | ⟨j, h1, h2, h3, h4⟩
  · omega
  · obtain rfl : i = j := by omega
    exact h4
theorem Best.get {i : Nat} (h : Best ds host k (i : Int)) : (ds.take k).getD i [] = ds.getD i [] := by
  obtain ⟨h1, h2⟩ := h.at_
  rw [getD_at (by rw [List.length_take]; omega), getD_at h2, List.getElem_take]
theorem Best.cov {i : Nat} (h : Best ds host k (i : Int)) : ds.getD i [] ≠ host ∧ covB (ds.getD i []) host = true := by
  have hc := h.count
  have hm : (ds.take k).getD i [] ∈ ds.take k := by rw [getD_at hc.lt]; exact List.getElem_mem hc.lt
  have hn := h.ne _ hm
  have hp := hc.pos
  rw [h.get] at hn hp
  exact ⟨hn, cov_of hn hp⟩
theorem Best.longer {i : Nat} (h : Best ds host k (i : Int)) (hk : k < ds.length) (he : ds[k] ≠ host) (hc : covB ds[k] host = true) (hl : (ds.getD i []).length < ds[k].length) : Best ds host (k + 1) k := by
  obtain ⟨n1, c1⟩ := h.cov
  refine ⟨h.ne_step hk he, .inr ⟨k, rfl, by omega, hk, ?_⟩⟩
  have hlen : (ds.take k).length = k := by rw [List.length_take]; omega
  have hp : 0 < rank15 ds[k] host := by have := rank_cov he hc; rw [this.1]; split <;> omega
  have hlt : rank15 (ds.getD i []) host < rank15 ds[k] host := by
    rcases Nat.lt_or_ge (rank15 (ds.getD i []) host) (rank15 ds[k] host) with q | q
    · exact q
    · have := (rank_le he n1 hc c1).1 q; omega
  rw [take_more hk]
  have := counts_last (l := ds.take k) hp (fun x hx => by
    have := h.count.top x hx
    rw [h.get] at this
    omega)
  rwa [hlen] at this
theorem Best.keep {i : Nat} (h : Best ds host k (i : Int)) (hk : k < ds.length) (he : ds[k] ≠ host) (hc : covB ds[k] host = true) (hl : ¬ (ds.getD i []).length < ds[k].length) : Best ds host (k + 1) i := by
  obtain ⟨n1, c1⟩ := h.cov
  obtain ⟨a1, a2⟩ := h.at_
  refine ⟨h.ne_step hk he, .inr ⟨i, rfl, by omega, a2, ?_⟩⟩
  rw [take_more hk]
  refine Counts.more h.count ?_
  rw [h.get]
  exact (rank_le he n1 hc c1).2 (by omega)
theorem Best.done (h : Best ds host k b) (hk : ¬ k < ds.length) : b = domI (dom15 ds host) := by
  have e : ds.take k = ds := List.take_of_length_le (by omega)
  rcases h.is with ⟨h1, h2⟩ | ⟨i, h1, _, _, h4⟩
  · rw [e] at h2
    rw [dom_none h2, h1]; rfl
  · rw [e] at h4
    rw [dom_of h4, h1]; rfl
theorem Best.or (h : Best ds host k b) : b = -1 ∨ ∃ i : Nat, b = i := by
  rcases h.is with ⟨h1, _⟩ | ⟨i, h1, _⟩
  · exact .inl h1
  · exact .inr ⟨i, h1⟩
end
end Go.Proofs.Ytcjobblhendkbaa.PRouBest

/- Layer 15 of the program: covers, which domain fits a host that it need not be itself. -/
namespace Go.Proofs.Ytcjobblhendkbaa.PRouCov
open Go.ChangeShapes Go.WideShapes Go.ChangeAt Go.RowKit Bytes Ret LexPure ConfPure RouteFind PRouBest PRouLib
set_option maxRecDepth 20000
set_option linter.unusedVariables false
theorem cov_say (d host : L) : wildF d host = (([42] : L).isPrefixOf d && (([46] : L).isPrefixOf (d.drop 1) && ((d.drop 1).isSuffixOf host && decide ((d.drop 1).length < host.length)))) := by
  cases d with
  | nil => rfl
  | cons a d =>
    cases d with
    | nil =>
      unfold wildF starW
      rw [show List.take 2 [a] = [a] from rfl, show ([a] == ([42, 46] : L)) = false from by simp]
      simp
    | cons b t =>
      have e1 : (a :: b :: t).drop 1 = b :: t := rfl
      rw [e1]
      unfold wildF starW
      rw [show List.take 2 (a :: b :: t) = [a, b] from rfl, show (a :: b :: t).tail = b :: t from rfl]
      have e2 : ([42] : L).isPrefixOf (a :: b :: t) = ((42 : UInt8) == a) := by simp [List.isPrefixOf]
      have e3 : ([46] : L).isPrefixOf (b :: t) = ((46 : UInt8) == b) := by simp [List.isPrefixOf]
      have e4 : ([a, b] == ([42, 46] : L)) = (((42 : UInt8) == a) && ((46 : UInt8) == b)) := by
        rw [Bool.eq_iff_iff]
        simp only [beq_iff_eq, Bool.and_eq_true, List.cons.injEq, and_true]
        exact ⟨fun h => ⟨h.1.symm, h.2.symm⟩, fun h => ⟨h.1.symm, h.2.symm⟩⟩
      rw [e2, e3, e4, Bool.and_assoc]
      congr 2
      have hl : (a :: b :: t).length = (b :: t).length + 1 := rfl
      rw [hl, show (b :: t).length + 1 - 1 = (b :: t).length from rfl]
      generalize b :: t = E
      rw [Bool.eq_iff_iff]
      simp only [Bool.and_eq_true, decide_eq_true_eq, beq_iff_eq, List.isSuffixOf_iff_suffix]
      constructor
      · rintro ⟨h1, h2⟩
        exact ⟨⟨host.take (host.length - E.length), by conv => lhs; rhs; rw [← h2]
                                                       exact List.take_append_drop _ _⟩, by omega⟩
      · rintro ⟨⟨s, rfl⟩, h2⟩
        refine ⟨by omega, ?_⟩
        rw [List.length_append, Nat.add_sub_cancel, List.drop_left]
set_option maxHeartbeats 1600000 in
theorem pcovers_any (d h : ByteArray) (hh : h.size ≤ 9223372036854775807) (w : World) :
    Calls Try.prog 25 #[.string d, .string h] w fun e w' => e = .returned (.bool (covB (toL d) (toL h))) ∧ w' = w := by
  have HU := Lib.hid (cov_say (toL d) (toL h))
  unfold covB
  have q1 : (d.toList == [42]) = (toL d == [42]) := by rw [ByteArray.toList_eq]
  by_cases h1 : (toL d == [42]) = true
  · rw [h1] at q1 ⊢
    clear HU h1
    go_enter Try.func25, Try.ntmps25
    go_wp2_with fail
    go_ret
    exact ⟨rfl, rfl⟩
  replace h1 : (toL d == [42]) = false := by simpa using h1
  rw [h1] at q1 ⊢
  have HC := Lib.hid (fun w => lib_cutp d ⟨#[42]⟩ w)
  rw [show toL ⟨#[42]⟩ = [42] from rfl] at HC
  by_cases h2 : ([42] : L).isPrefixOf (toL d) = true
  · rw [h2, if_pos rfl] at HC
    rw [h2, Bool.true_and] at HU
    rw [HU.out]
    have HP := Lib.hid (fun w => lib_has (ofL ((toL d).drop 1)) ⟨#[46]⟩ w)
    rw [show toL ⟨#[46]⟩ = [46] from rfl, toL_ofL] at HP
    have HS := Lib.hid (fun w => lib_ends h (ofL ((toL d).drop 1)) hh w)
    rw [toL_ofL] at HS
    have hz : ((ofL ((toL d).drop 1)).size : Int) = (((toL d).drop 1).length : Int) := by rw [ofL_size]
    rw [show ((⟨#[42]⟩ : ByteArray).size) = 1 from rfl] at HC
    have hz2 : (decide (((toL d).drop 1).length < (toL h).length)) = decide ((ofL ((toL d).drop 1)).size < h.size) := by
      rw [toL_length, ofL_size]
    rw [hz2]
    generalize ([46] : L).isPrefixOf ((toL d).drop 1) = x at *
    generalize ((toL d).drop 1).isSuffixOf (toL h) = y at *
    generalize ofL ((toL d).drop 1) = E at *
    clear hz hz2 HU h1 h2
    obtain ⟨z, hz⟩ : ∃ z, z = decide (E.size < h.size) := ⟨_, rfl⟩
    rw [← hz]
    replace hz := hz.symm
    cases x
    · go_enter Try.func25, Try.ntmps25
      go_wp2_with fail
      refine (HC.out _).mono ?_
      rintro e w' ⟨rfl, rfl⟩
      go_wp2_with fail
      refine (HP.out _).mono ?_
      rintro e w' ⟨rfl, rfl⟩
      go_wp2_with fail
      go_ret
      exact ⟨rfl, rfl⟩
    · cases y
      · go_enter Try.func25, Try.ntmps25
        go_wp2_with fail
        refine (HC.out _).mono ?_
        rintro e w' ⟨rfl, rfl⟩
        go_wp2_with fail
        refine (HP.out _).mono ?_
        rintro e w' ⟨rfl, rfl⟩
        go_wp2_with fail
        refine (HS.out _).mono ?_
        rintro e w' ⟨rfl, rfl⟩
        go_wp2_with fail
        go_ret
        exact ⟨rfl, rfl⟩
      · go_enter Try.func25, Try.ntmps25
        go_wp2_with fail
        refine (HC.out _).mono ?_
        rintro e w' ⟨rfl, rfl⟩
        go_wp2_with fail
        refine (HP.out _).mono ?_
        rintro e w' ⟨rfl, rfl⟩
        go_wp2_with fail
        refine (HS.out _).mono ?_
        rintro e w' ⟨rfl, rfl⟩
        go_wp2_with fail
        go_ret
        exact ⟨rfl, rfl⟩
  · have hf : ([42] : L).isPrefixOf (toL d) = false := Bool.eq_false_iff.2 h2
    rw [hf, if_neg (by simp)] at HC
    rw [hf, Bool.false_and] at HU
    rw [HU.out]
    clear h1 h2 hf HU
    go_enter Try.func25, Try.ntmps25
    go_wp2_with fail
    refine (HC.out _).mono ?_
    rintro e w' ⟨rfl, rfl⟩
    go_wp2_with fail
    go_ret
    exact ⟨rfl, rfl⟩
end Go.Proofs.Ytcjobblhendkbaa.PRouCov

/- Layer 15 of the program: Domain. -/
namespace Go.Proofs.Ytcjobblhendkbaa.PRouDom
open Go.ChangeShapes Go.WideShapes Go.ChangeAt Go.RowKit Bytes Ret LexPure ConfPure ConfMem RouteFind PRouBest PRouCov Mem
set_option maxRecDepth 100000
set_option linter.unusedVariables false
set_option linter.unusedSimpArgs false
/-- what is asked of a config's value: three lists, and its vhosts -/
structure VF (w : World) (c : Conf) (vf vc vv : Value) : Prop where
  sf : ∃ p n cap, vf = .slice p n cap
  sc : ∃ p n cap, vc = .slice p n cap
  vh : Vhoss w vv c.vhosts
theorem VF.of_cf {w : World} {c : Conf} {vf vc vv : Value} (h : CF w vf vc vv c) : VF w c vf vc vv := by
  obtain ⟨p, cap, h1, _⟩ := h.filters.parts
  obtain ⟨p2, cap2, h2, _⟩ := h.clusters.parts
  exact ⟨⟨p, _, cap, h1⟩, ⟨p2, _, cap2, h2⟩, h.vhosts⟩
theorem VF.below {w w' : World} {c : Conf} {vf vc vv : Value} (h : VF w c vf vc vv) (hb : Below w.heap.size w w') : VF w' c vf vc vv := ⟨h.sf, h.sc, h.vh.below hb⟩
/-- the config's box -/
structure Db (w : World) (g : Nat) (c : Conf) (vf vc vv : Value) (W : World) : Prop where
  box : Has W g 26 (confV c vf vc vv)
  vh : Vhoss W vv c.vhosts
  below : Below g w W
section
variable {w W W' : World} {g : Nat} {c : Conf} {vf vc vv : Value}
theorem Db.start (h : Vhoss w vv c.vhosts) : Db w w.heap.size c vf vc vv (w.alloc (.cells (confV c vf vc vv) 26)) :=
  ⟨Has.new _ _ _, h.below ((Below.refl _ _).alloc (Nat.le_refl _) _), (Below.refl _ _).alloc (Nat.le_refl _) _⟩
theorem Db.call (x : Db w g c vf vc vv W) (hb : Below W.heap.size W W') : Db w g c vf vc vv W' :=
  ⟨x.box.below hb x.box.lt, x.vh.below hb, ⟨hb.os.trans x.below.os, hb.tape.trans x.below.tape, hb.output.trans x.below.output, Nat.le_trans x.below.size hb.size, fun i hi => (hb.block i (Nat.lt_trans hi x.box.lt)).trans (x.below.block i hi)⟩⟩
theorem Db.drewN (x : Db w g c vf vc vv W) (m : Nat) : Db w g c vf vc vv (W.drewN m) :=
  ⟨x.box.drewN m, x.vh, ⟨x.below.os, x.below.tape, x.below.output, x.below.size, x.below.block⟩⟩
end
theorem vdom_at {w : World} {p : Option Addr} {n cap : Nat} {G : List Vhos} (h : Vhoss w (.slice p n cap) G) (i : Nat) (hi : i < G.length) :
    ∃ g o hv, p = some ⟨g, o, none⟩ ∧ Routs w hv G[i].routes ∧ w.cell? ⟨g, o + i * 2, none⟩ = some (.string (ofL G[i].domain)) ∧ w.cell? ⟨g, o + i * 2 + 1, none⟩ = some hv := by
  obtain ⟨p2, c2, heq, _, hc⟩ := h.parts
  injection heq with e1 e2 e3
  obtain ⟨g, o, hp, _, hcell⟩ := hc (by omega)
  obtain ⟨hv, h1, c0, c1⟩ := hcell i hi
  exact ⟨g, o, hv, e1.trans hp, h1, c0, c1⟩
theorem vdom_cell {w : World} {g o n cap : Nat} {G : List Vhos} (h : Vhoss w (.slice (some ⟨g, o, none⟩) n cap) G) (i : Nat) (hi : i < G.length) : w.cell? ⟨g, o + i * 2, none⟩ = some (.string (ofL G[i].domain)) := by
  obtain ⟨g2, o2, _, hp, _, c0, _⟩ := vdom_at h i hi
  injection hp with hp
  injection hp with a1 a2
  subst a1 a2
  exact c0
theorem ret_int {a b : Int} (h : a = b) : Ending.returned (.int .i64 a) = .returned (.int .i64 b) := by rw [h]
set_option maxHeartbeats 6400000 in
theorem pdomain_any (c : Conf) (vf vc vv : Value) (h : ByteArray) (hh : h.size ≤ 9223372036854775807) (w : World) (hC : VF w c vf vc vv) :
    Calls Try.prog 11 #[.agg (confV c vf vc vv), .string h] w fun e w' => e = .returned (.int .i64 (domI (dom15 (c.vhosts.map (·.domain)) (toL h)))) ∧ Below w.heap.size w w' := by
  obtain ⟨⟨pf, nf, cf, rfl⟩, ⟨pc, nc, cc, rfl⟩, hV⟩ := hC
  obtain ⟨pv, cv, rfl, hn63, _⟩ := hV.parts
  have HB0 := Lib.hid (Db.start (c := c) (vf := .slice pf nf cf) (vc := .slice pc nc cc) hV)
  have HCov := Lib.hid (fun d w => pcovers_any d h hh w)
  have H0 : Hid (Best (c.vhosts.map (·.domain)) (toL h) 0 (-1)) := Lib.hid (Best.start _ _)
  obtain ⟨g, hg⟩ : ∃ g, g = w.heap.size := ⟨_, rfl⟩
  rw [← hg] at HB0
  have HG := Lib.hid hg
  clear hg hV hh
  unfold confV
  go_enter Try.func11, Try.ntmps11
  have B0 := HB0.out.box
  unfold confV at B0
  rw [HG.out] at B0
  have c8 := B0.cell 8
  clear B0
  go_wp2_with fail
  rw [← HG.out]
  have HB1 := HB0
  unfold confV at HB1
  generalize w.alloc (.cells #[.int .i64 c.conns, .int .i64 c.body, .int .i64 c.idle, .int .i64 c.grace, .int .i64 c.budget, .int .i64 c.seed, .slice pf nf cf, .slice pc nc cc, .slice pv c.vhosts.length cv] 26) = W0 at HB1 ⊢
  clear c8 HB0
  have HN := Lib.hid hn63
  go_loopw [5, 11] (fun v i wr => ∃ (k : Nat) (b : Int), k ≤ c.vhosts.length ∧ v = .int .i64 b ∧ i = .int .i64 k ∧ Hid (Best (c.vhosts.map (·.domain)) (toL h) k b) ∧ Hid (Db w g c (.slice pf nf cf) (.slice pc nc cc) (.slice pv c.vhosts.length cv) wr)) (fun _ i _ => c.vhosts.length - (intOf i).toNat)
  case atStart => exact ⟨0, -1, Nat.zero_le _, rfl, rfl, H0, HB1⟩
  case round =>
    obtain ⟨k, b, hk, rfl, rfl, HI, HJ⟩ := hrel
    clear H0 HB1
    by_cases hlt : k < c.vhosts.length
    · have hki : (k : Int) < (c.vhosts.length : Int) := by omega
      have hk0 : (0 : Int) ≤ (k : Int) := by omega
      obtain ⟨gs, os, hv, rfl, hrt, c0, c1⟩ := vdom_at HJ.out.vh k hlt
      have hge : ∀ h2 : k < (c.vhosts.map (·.domain)).length, (c.vhosts.map (·.domain))[k]'h2 = c.vhosts[k].domain := fun h2 => List.getElem_map ..
      obtain ⟨d, hd⟩ : ∃ d, d = c.vhosts[k].domain := ⟨_, rfl⟩
      rw [← hd] at c0 hge
      obtain ⟨pr, cr, rfl, _, _⟩ := hrt.parts
      have hnew : Has (wr.alloc (.cells #[.string (ofL d), .slice pr c.vhosts[k].routes.length cr] 36)) wr.heap.size 36 #[.string (ofL d), .slice pr c.vhosts[k].routes.length cr] := Has.new _ _ _
      have hdb := HJ.out.call ((Below.refl wr.heap.size wr).alloc (Nat.le_refl _) (.cells #[.string (ofL d), .slice pr c.vhosts[k].routes.length cr] 36))
      have HD := Lib.hid hd
      have HGE := Lib.hid hge
      have HK : Hid (k < (c.vhosts.map (·.domain)).length) := Lib.hid (by rw [List.length_map]; exact hlt)
      clear hd hge hrt
      have hq : ((ofL d).toList == h.toList) = (d == toL h) := by
        rw [ByteArray.toList_eq, ByteArray.toList_eq]
        show (toL (ofL d) == toL h) = _
        rw [toL_ofL]
      have HV := Lib.hid hnew
      have HX := Lib.hid hdb
      have v0 : (wr.alloc (.cells #[.string (ofL d), .slice pr c.vhosts[k].routes.length cr] 36)).cell? ⟨wr.heap.size, 0, none⟩ = some (.string (ofL d)) := hnew.cell 0
      have c8 : (wr.alloc (.cells #[.string (ofL d), .slice pr c.vhosts[k].routes.length cr] 36)).cell? ⟨g, 8, none⟩ = some (.slice (some ⟨gs, os, none⟩) c.vhosts.length cv) := by
        have := hdb.box
        unfold confV at this
        exact this.cell 8
      clear hnew hdb HJ
      by_cases he : d = toL h
      · have hq2 : ((ofL d).toList == h.toList) = true := by rw [hq]; simpa using he
        have HR := Lib.hid (HI.out.hit HK.out ((HGE.out HK.out).trans he))
        clear hq he HI
        go_wp2_with fail
        go_ret
        exact ⟨ret_int (by rw [HR.out]; rfl), HG.out ▸ HX.out.below⟩
      · have hq2 : ((ofL d).toList == h.toList) = false := by rw [hq]; simpa using he
        have HNE : Hid ((c.vhosts.map (·.domain))[k]'HK.out ≠ toL h) := Lib.hid (by rw [HGE.out HK.out]; exact he)
        have HC2 := Lib.hid (fun w => HCov.out (ofL d) w)
        rw [toL_ofL] at HC2
        clear hq he
        cases hcv : covB d (toL h)
        · have HS := Lib.hid (HI.out.skip HK.out HNE.out (by rw [HGE.out HK.out]; exact hcv))
          rw [hcv] at HC2
          clear hcv HI
          go_wp2_with fail
          go_quiet ((go_at_call 25; exact Calls.quiet_of_same (HC2.out _)))
          go_wp2_with fail
          go_roundw
          case rel => exact ⟨k + 1, b, by omega, rfl, by go_num, HS, Lib.hid (HX.out.drewN _)⟩
          case measure => simp [intOf]; omega
        · rw [hcv] at HC2
          have HCV : Hid (covB ((c.vhosts.map (·.domain))[k]'HK.out) (toL h) = true) := Lib.hid (by rw [HGE.out HK.out]; exact hcv)
          clear hcv
          rcases HI.out.or with rfl | ⟨i, rfl⟩
          · have HS := Lib.hid (HI.out.first HK.out HNE.out HCV.out)
            clear HI
            go_wp2_with fail
            go_quiet ((go_at_call 25; exact Calls.quiet_of_same (HC2.out _)))
            go_wp2_with fail
            go_roundw
            case rel => exact ⟨k + 1, k, by omega, rfl, by go_num, HS, Lib.hid (HX.out.drewN _)⟩
            case measure => simp [intOf]; omega
          · have hi1 : i < c.vhosts.length := by have := HI.out.at_.2; rwa [List.length_map] at this
            have hii : (i : Int) < (c.vhosts.length : Int) := by omega
            have hi0 : (0 : Int) ≤ (i : Int) := by omega
            have hne : ((i : Int) == -1) = false := beq_eq_false_iff_ne.2 (by omega)
            have d0 : (wr.alloc (.cells #[.string (ofL d), .slice pr c.vhosts[k].routes.length cr] 36)).cell? ⟨gs, os + i * 2, none⟩ = some (.string (ofL c.vhosts[i].domain)) := vdom_cell HX.out.vh i hi1
            have hgi2 : (c.vhosts.map (·.domain)).getD i [] = c.vhosts[i].domain := by rw [getD_at (by rw [List.length_map]; exact hi1), List.getElem_map]
            obtain ⟨e, he⟩ : ∃ e, e = c.vhosts[i].domain := ⟨_, rfl⟩
            rw [← he] at d0 hgi2
            have HGI2 := Lib.hid hgi2
            clear he hgi2 hi1
            by_cases hl : (ofL e).size < (ofL d).size
            · have HS := Lib.hid (HI.out.longer HK.out HNE.out HCV.out (by rw [HGI2.out, HGE.out HK.out]; rwa [ofL_size, ofL_size] at hl))
              have l1 : decide ((ofL e).size < (ofL d).size) = true := decide_eq_true hl
              have l2 : decide (((ofL e).size : Int) < ((ofL d).size : Int)) = true := decide_eq_true (by omega)
              clear HI hl
              go_wp2_with fail
              go_quiet ((go_at_call 25; exact Calls.quiet_of_same (HC2.out _)))
              go_wp2_with fail
              go_roundw
              case rel => exact ⟨k + 1, k, by omega, rfl, by go_num, HS, Lib.hid (HX.out.drewN _)⟩
              case measure => simp [intOf]; omega
            · have HS := Lib.hid (HI.out.keep HK.out HNE.out HCV.out (by rw [HGI2.out, HGE.out HK.out]; rwa [ofL_size, ofL_size] at hl))
              have l1 : decide ((ofL e).size < (ofL d).size) = false := decide_eq_false hl
              have l2 : decide (((ofL e).size : Int) < ((ofL d).size : Int)) = false := decide_eq_false (by omega)
              clear HI hl
              go_wp2_with fail
              go_quiet ((go_at_call 25; exact Calls.quiet_of_same (HC2.out _)))
              go_wp2_with fail
              go_roundw
              case rel => exact ⟨k + 1, i, by omega, rfl, by go_num, HS, Lib.hid (HX.out.drewN _)⟩
              case measure => simp [intOf]; omega
    · have HR := Lib.hid (HI.out.done (by rw [List.length_map]; exact hlt))
      have hki : ¬ (k : Int) < (c.vhosts.length : Int) := by omega
      clear HI
      go_wp2_with fail
      go_ret
      exact ⟨ret_int HR.out, HG.out ▸ HJ.out.below⟩
end Go.Proofs.Ytcjobblhendkbaa.PRouDom

/- Layer 15's laws in their first form: an argument that is a config, whose vhosts are looked at, and one that is a route. -/
namespace Go.Proofs.Ytcjobblhendkbaa.RouArg
open Go.ChangeShapes Go.WideShapes Go.ChangeAt Go.RowKit Go.Deep LexPure Bytes Ret Rows1 ConfPure ConfMem RowsArg ConfArg PRouLead PRouDom
set_option maxRecDepth 100000
/-- a config's vhosts, their lists and how long they are -/
structure RV (W : World) (vv : Value) (G : List Vhos) (hv : Nat → Value) : Prop where
  row : RowsAt W vv G.length 2 (fun i j => (vhosV (G.getD i zVhos) (hv i)).getD j undef)
  nice : Nice vv G.length
  len : G.length * 40 ≤ 140737488351232
  rows : ∀ i, i < G.length → Routs W (hv i) (G.getD i zVhos).routes ∧ Nice (hv i) (G.getD i zVhos).routes.length ∧ (G.getD i zVhos).routes.length * 160 ≤ 140737488351232
  path : ∀ x ∈ G, ∀ r ∈ x.routes, r.path.length ≤ 9223372036854775807
theorem RV.vh {W : World} {vv : Value} {G : List Vhos} {hv : Nat → Value} (h : RV W vv G hv) : Vhoss W vv G := ⟨hv, h.row, fun i hi => (h.rows i hi).1⟩
theorem RV.below {W W' : World} {vv : Value} {G : List Vhos} {hv : Nat → Value} (h : RV W vv G hv) (hb : Below W.heap.size W W') : RV W' vv G hv := ⟨h.row.below hb, h.nice, h.len, fun i hi => ⟨(h.rows i hi).1.below hb, (h.rows i hi).2⟩, h.path⟩
section
variable {H : Type} {enc : TypeId × Value → H} {W : World}
theorem slice_weights {t e : TypeId} {n k : Nat} {Y : Nat → Nat → DataW H × List MemPlace} {sp : List (DataW H)} (ht : Try.prog.underlying t = some (.slice e)) (h : ((DataW.slice ((List.range n).map fun i => DataW.agg ((List.range k).map fun j => (Y i j).1)) sp).weights Try.prog t).all (· ≤ reachBytes) = true) :
    n * Try.prog.bytesOf e ≤ 140737488351232 ∧ ∀ i, i < n → ((DataW.agg ((List.range k).map fun j => (Y i j).1)).weights Try.prog e).all (· ≤ reachBytes) = true := by
  simp only [DataW.weights, ht, List.all_cons, Bool.and_eq_true, List.all_append] at h
  refine ⟨?_, fun i hi => FArg.weightsAll_mem _ _ h.2.1 _ (List.mem_map.2 ⟨i, List.mem_range.2 hi, rfl⟩)⟩
  have h1 := of_decide_eq_true h.1
  rw [List.length_map, List.length_range] at h1
  unfold reachBytes at h1
  rw [Nat.add_mul] at h1
  omega
theorem rrout_elem {N : Nat} {V : Nat → Value} {Y : Nat → DataW H × List MemPlace} (hrd : ∀ (j : Nat) (f : Field), (Try.prog.fieldsOf 39)[j]? = some f → DataW.trod enc Try.prog W 0 (fun _ => true) true N f.type [V j] = some (Y j)) :
    ∃ x : Rout, (∀ j, j < 13 → V j = (routV x).getD j undef) ∧ x.path.length ≤ 9223372036854775807 := by
  have hl : (Try.prog.fieldsOf 39).size = 13 := by kernel_rfl
  have hq : ∀ i, i < 13 → (Try.prog.fieldsOf 39)[i]? = some (Try.prog.fieldsOf 39)[i]! := fun i hi => by
    rw [getElem!_pos _ i (by rw [hl]; exact hi)]
    exact Array.getElem?_eq_getElem _
  obtain ⟨b0, e0, x0⟩ := DataW.trod_bool (show Try.prog.underlying (Try.prog.fieldsOf 39)[0]!.type = some .bool by kernel_rfl) (hrd 0 _ (hq 0 (by decide)))
  obtain ⟨s1, e1, x1, l1⟩ := DataW.trod_string (show Try.prog.underlying (Try.prog.fieldsOf 39)[1]!.type = some .string by kernel_rfl) (hrd 1 _ (hq 1 (by decide)))
  obtain ⟨s2, e2, x2, l2⟩ := DataW.trod_string (show Try.prog.underlying (Try.prog.fieldsOf 39)[2]!.type = some .string by kernel_rfl) (hrd 2 _ (hq 2 (by decide)))
  obtain ⟨s3, e3, x3, l3⟩ := DataW.trod_string (show Try.prog.underlying (Try.prog.fieldsOf 39)[3]!.type = some .string by kernel_rfl) (hrd 3 _ (hq 3 (by decide)))
  obtain ⟨s4, e4, x4, l4⟩ := DataW.trod_string (show Try.prog.underlying (Try.prog.fieldsOf 39)[4]!.type = some .string by kernel_rfl) (hrd 4 _ (hq 4 (by decide)))
  obtain ⟨n5, e5, x5, w5⟩ := DataW.trod_int (show Try.prog.underlying (Try.prog.fieldsOf 39)[5]!.type = some (.int .i64) by kernel_rfl) (hrd 5 _ (hq 5 (by decide)))
  obtain ⟨s6, e6, x6, l6⟩ := DataW.trod_string (show Try.prog.underlying (Try.prog.fieldsOf 39)[6]!.type = some .string by kernel_rfl) (hrd 6 _ (hq 6 (by decide)))
  obtain ⟨n7, e7, x7, w7⟩ := DataW.trod_int (show Try.prog.underlying (Try.prog.fieldsOf 39)[7]!.type = some (.int .i64) by kernel_rfl) (hrd 7 _ (hq 7 (by decide)))
  obtain ⟨s8, e8, x8, l8⟩ := DataW.trod_string (show Try.prog.underlying (Try.prog.fieldsOf 39)[8]!.type = some .string by kernel_rfl) (hrd 8 _ (hq 8 (by decide)))
  obtain ⟨s9, e9, x9, l9⟩ := DataW.trod_string (show Try.prog.underlying (Try.prog.fieldsOf 39)[9]!.type = some .string by kernel_rfl) (hrd 9 _ (hq 9 (by decide)))
  obtain ⟨n10, e10, x10, w10⟩ := DataW.trod_int (show Try.prog.underlying (Try.prog.fieldsOf 39)[10]!.type = some (.int .i64) by kernel_rfl) (hrd 10 _ (hq 10 (by decide)))
  obtain ⟨n11, e11, x11, w11⟩ := DataW.trod_int (show Try.prog.underlying (Try.prog.fieldsOf 39)[11]!.type = some (.int .i64) by kernel_rfl) (hrd 11 _ (hq 11 (by decide)))
  obtain ⟨b12, e12, x12⟩ := DataW.trod_bool (show Try.prog.underlying (Try.prog.fieldsOf 39)[12]!.type = some .bool by kernel_rfl) (hrd 12 _ (hq 12 (by decide)))
  refine ⟨⟨b0, toL s1, toL s2, toL s3, toL s4, n5, toL s6, n7, toL s8, toL s9, n10, n11, b12⟩, fun j hj => ?_, by unfold maxLen at l1; rw [toL_length]; exact l1⟩
  have hj2 : j = 0 ∨ j = 1 ∨ j = 2 ∨ j = 3 ∨ j = 4 ∨ j = 5 ∨ j = 6 ∨ j = 7 ∨ j = 8 ∨ j = 9 ∨ j = 10 ∨ j = 11 ∨ j = 12 := by omega
  rcases hj2 with rfl | rfl | rfl | rfl | rfl | rfl | rfl | rfl | rfl | rfl | rfl | rfl | rfl
  · simpa [routV] using e0
  · show V 1 = .string (ofL (toL s1))
    rw [ofL_toL]; simpa using e1
  · show V 2 = .string (ofL (toL s2))
    rw [ofL_toL]; simpa using e2
  · show V 3 = .string (ofL (toL s3))
    rw [ofL_toL]; simpa using e3
  · show V 4 = .string (ofL (toL s4))
    rw [ofL_toL]; simpa using e4
  · simpa [routV] using e5
  · show V 6 = .string (ofL (toL s6))
    rw [ofL_toL]; simpa using e6
  · simpa [routV] using e7
  · show V 8 = .string (ofL (toL s8))
    rw [ofL_toL]; simpa using e8
  · show V 9 = .string (ofL (toL s9))
    rw [ofL_toL]; simpa using e9
  · simpa [routV] using e10
  · simpa [routV] using e11
  · simpa [routV] using e12
theorem rrouts_core {v : Value} {d : DataW H} {p : List MemPlace} {fuel : Nat} (hf : DataW.trod enc Try.prog W 0 (fun _ => true) true fuel 34 [v] = some (d, p)) (hb : (d.weights Try.prog 34).all (· ≤ reachBytes) = true) :
    ∃ G, Routs W v G ∧ Nice v G.length ∧ G.length * 160 ≤ 140737488351232 ∧ ∀ x ∈ G, x.path.length ≤ 9223372036854775807 := by
  have he : Try.prog.underlying 39 = some (.struct (Try.prog.fieldsOf 39)) := by kernel_rfl
  obtain ⟨n, V, Y, N, hR, hN, hrd, hd⟩ := rows_core (k := 13) Try.underlying34 he (by kernel_rfl) (by kernel_rfl) (by kernel_rfl) (by decide) hf
  have hB : n * 160 ≤ 140737488351232 := by
    rcases hd with ⟨_, rfl⟩ | ⟨sp, rfl⟩
    · omega
    · have := (slice_weights Try.underlying34 hb).1
      rwa [show Try.prog.bytesOf 39 = 160 by kernel_rfl] at this
  obtain ⟨G, rfl, hG⟩ := gather zRout (fun i hi => rrout_elem (hrd i hi))
  refine ⟨G, hR.congr (fun i hi j hj => (hG i hi).1 j hj), hN, hB, fun x hx => ?_⟩
  obtain ⟨i, hi, rfl⟩ := mem_getD (z := zRout) hx
  exact (hG i hi).2
theorem rvhos_elem {N : Nat} {V : Nat → Value} {Y : Nat → DataW H × List MemPlace} (hrd : ∀ (j : Nat) (f : Field), (Try.prog.fieldsOf 36)[j]? = some f → DataW.trod enc Try.prog W 0 (fun _ => true) true N f.type [V j] = some (Y j))
    (hb : ((DataW.agg ((List.range 2).map fun j => (Y j).1)).weights Try.prog 36).all (· ≤ reachBytes) = true) :
    ∃ x : Vhos, ∃ h, (∀ j, j < 2 → V j = (vhosV x h).getD j undef) ∧ (Routs W h x.routes ∧ Nice h x.routes.length ∧ x.routes.length * 160 ≤ 140737488351232) ∧ ∀ r ∈ x.routes, r.path.length ≤ 9223372036854775807 := by
  have he : Try.prog.underlying 36 = some (.struct (Try.prog.fieldsOf 36)) := by kernel_rfl
  have hl : (Try.prog.fieldsOf 36).size = 2 := by kernel_rfl
  have hq : ∀ i, i < 2 → (Try.prog.fieldsOf 36)[i]? = some (Try.prog.fieldsOf 36)[i]! := fun i hi => by
    rw [getElem!_pos _ i (by rw [hl]; exact hi)]
    exact Array.getElem?_eq_getElem _
  have k0 := hrd 0 _ (hq 0 (by decide))
  obtain ⟨s0, e0, x0, _⟩ := DataW.trod_string (show Try.prog.underlying (Try.prog.fieldsOf 36)[0]!.type = some .string by kernel_rfl) k0
  have k1 := hrd 1 _ (hq 1 (by decide))
  have ht1 : (Try.prog.fieldsOf 36)[1]!.type = 34 := by kernel_rfl
  rw [ht1] at k1
  have hw : ((Y 1).1.weights Try.prog 34).all (· ≤ reachBytes) = true := by
    simp only [DataW.weights, he] at hb
    exact LawKit.weights_get _ _ 1 34 _ hb (by
      rw [List.getElem?_map, Array.getElem?_toList, hq 1 (by decide)]
      exact congrArg some ht1) rfl
  obtain ⟨G1, hT, hN, hlen, hG⟩ := rrouts_core (d := (Y 1).1) (p := (Y 1).2) k1 hw
  refine ⟨⟨toL s0, G1⟩, _, fun j hj => ?_, ⟨hT, hN, hlen⟩, hG⟩
  have hj2 : j = 0 ∨ j = 1 := by omega
  rcases hj2 with rfl | rfl
  · show V 0 = .string (ofL (toL s0))
    rw [ofL_toL]; simpa using e0
  · rfl
theorem rvhoss_core {v : Value} {d : DataW H} {p : List MemPlace} {fuel : Nat} (hf : DataW.trod enc Try.prog W 0 (fun _ => true) true fuel 24 [v] = some (d, p)) (hb : (d.weights Try.prog 24).all (· ≤ reachBytes) = true) :
    ∃ G hv, RV W v G hv := by
  have he : Try.prog.underlying 36 = some (.struct (Try.prog.fieldsOf 36)) := by kernel_rfl
  obtain ⟨n, V, Y, N, hR, hN, hrd, hd⟩ := rows_core (k := 2) Try.underlying24 he (by kernel_rfl) (by kernel_rfl) (by kernel_rfl) (by decide) hf
  have hB : n * 40 ≤ 140737488351232 ∧ ∀ i, i < n → ((DataW.agg ((List.range 2).map fun j => (Y i j).1)).weights Try.prog 36).all (· ≤ reachBytes) = true := by
    rcases hd with ⟨_, rfl⟩ | ⟨sp, rfl⟩
    · exact ⟨by omega, fun i hi => absurd hi (by omega)⟩
    · have := slice_weights Try.underlying24 hb
      rwa [show Try.prog.bytesOf 36 = 40 by kernel_rfl] at this
  obtain ⟨G, rfl, hG⟩ := gather zVhos (fun i hi => rvhos_elem (hrd i hi) (hB.2 i hi))
  obtain ⟨hv, hG⟩ := Classical.axiomOfChoice (show ∀ i, ∃ h, i < G.length → _ from fun i => by
    by_cases hi : i < G.length
    · obtain ⟨h, hh⟩ := hG i hi
      exact ⟨h, fun _ => hh⟩
    · exact ⟨undef, fun h => absurd h hi⟩)
  refine ⟨G, hv, hR.congr (fun i hi j hj => (hG i hi).1 j hj), hN, hB.1, fun i hi => (hG i hi).2.1, fun x hx => ?_⟩
  obtain ⟨i, hi, rfl⟩ := mem_getD (z := zVhos) hx
  exact (hG i hi).2.2
/-- what is read as a list is one -/
theorem slice_form {t e : TypeId} {v : Value} {d : DataW H} {p : List MemPlace} {fuel : Nat} (ht : Try.prog.underlying t = some (.slice e)) (hf : DataW.trod enc Try.prog W 0 (fun _ => true) true fuel t [v] = some (d, p)) : ∃ p n cap, v = .slice p n cap := by
  rcases open_slice ht hf with ⟨h0, _⟩ | ⟨a, len, cap2, m, n2, D, Pl, hcs, hb, hl, hm, hmm, hx, hi⟩
  · exact ⟨none, 0, 0, by simpa using h0⟩
  · exact ⟨some a, len, cap2, by simpa using hcs⟩
theorem rconf_arg {base : Nat} {v : Value} {d : DataW H} {p : List MemPlace} (hv : Value.okWide Try.prog W .any base 26 v)
    (h : DataW.Trod enc Try.prog W 0 (fun _ => true) true 26 v d p) (hb : (d.weights Try.prog 26).all (· ≤ reachBytes) = true) :
    ∃ (c : Conf) (vf vc vv : Value) (hw : Nat → Value), v = .agg (confV c vf vc vv) ∧ VF W c vf vc vv ∧ RV W vv c.vhosts hw := by
  have he : Try.prog.underlying 26 = some (.struct (Try.prog.fieldsOf 26)) := by kernel_rfl
  have hC : Try.prog.cellsOf 26 = 9 := by kernel_rfl
  have hone := hone_of (show oneCellFields Try.prog (Try.prog.fieldsOf 26) = true by kernel_rfl)
  obtain ⟨cs, rfl, hsz⟩ := okWide_struct he hv
  obtain ⟨l⟩ := cs
  match l, hsz.trans hC with
  | [c0, c1, c2, c3, c4, c5, c6, c7, c8], _ =>
    obtain ⟨fuel, hf⟩ := h
    obtain ⟨xs, n, _, hx, _, hlen, hg⟩ := DataW.trod_struct he hf
    have hl6 : (Try.prog.fieldsOf 26).size = 9 := by kernel_rfl
    match xs, hlen.trans hl6 with
    | [y0, y1, y2, y3, y4, y5, y6, y7, y8], _ =>
      have key : ∀ i (hi : i < 9), DataW.trod enc Try.prog W 0 (fun _ => true) true n (Try.prog.fieldsOf 26)[i]!.type [[c0, c1, c2, c3, c4, c5, c6, c7, c8][i]] = some [y0, y1, y2, y3, y4, y5, y6, y7, y8][i] := fun i hi => by
        have hq : (Try.prog.fieldsOf 26)[i]? = some (Try.prog.fieldsOf 26)[i]! := by
          rw [getElem!_pos _ i (by rw [hl6]; exact hi)]
          exact Array.getElem?_eq_getElem _
        have h1 := hg i _ hq
        obtain ⟨o1, k1⟩ := hone i _ hq
        rw [o1, k1] at h1
        have h2 : ((Value.agg ⟨[c0, c1, c2, c3, c4, c5, c6, c7, c8]⟩).cells.toList.drop i).take 1 = [[c0, c1, c2, c3, c4, c5, c6, c7, c8][i]] := by
          rw [show (Value.agg ⟨[c0, c1, c2, c3, c4, c5, c6, c7, c8]⟩).cells.toList = [c0, c1, c2, c3, c4, c5, c6, c7, c8] from rfl, List.drop_eq_getElem_cons (by simpa using hi)]
          rfl
        rw [h2] at h1
        rw [h1, List.getElem?_eq_getElem (by simpa using hi)]
      obtain ⟨n0, e0, x0, w0⟩ := DataW.trod_int (show Try.prog.underlying (Try.prog.fieldsOf 26)[0]!.type = some (.int .i64) by kernel_rfl) (key 0 (by decide))
      obtain ⟨n1, e1, x1, w1⟩ := DataW.trod_int (show Try.prog.underlying (Try.prog.fieldsOf 26)[1]!.type = some (.int .i64) by kernel_rfl) (key 1 (by decide))
      obtain ⟨n2, e2, x2, w2⟩ := DataW.trod_int (show Try.prog.underlying (Try.prog.fieldsOf 26)[2]!.type = some (.int .i64) by kernel_rfl) (key 2 (by decide))
      obtain ⟨n3, e3, x3, w3⟩ := DataW.trod_int (show Try.prog.underlying (Try.prog.fieldsOf 26)[3]!.type = some (.int .i64) by kernel_rfl) (key 3 (by decide))
      obtain ⟨n4, e4, x4, w4⟩ := DataW.trod_int (show Try.prog.underlying (Try.prog.fieldsOf 26)[4]!.type = some (.int .i64) by kernel_rfl) (key 4 (by decide))
      obtain ⟨n5, e5, x5, w5⟩ := DataW.trod_int (show Try.prog.underlying (Try.prog.fieldsOf 26)[5]!.type = some (.int .i64) by kernel_rfl) (key 5 (by decide))
      have k6 := key 6 (by decide)
      rw [show (Try.prog.fieldsOf 26)[6]!.type = 22 by kernel_rfl] at k6
      have k7 := key 7 (by decide)
      rw [show (Try.prog.fieldsOf 26)[7]!.type = 23 by kernel_rfl] at k7
      have k8 := key 8 (by decide)
      have ht8 : (Try.prog.fieldsOf 26)[8]!.type = 24 := by kernel_rfl
      rw [ht8] at k8
      have hd : d = .agg [y0.1, y1.1, y2.1, y3.1, y4.1, y5.1, y6.1, y7.1, y8.1] := by simpa using congrArg Prod.fst hx
      rw [hd] at hb
      have hw8 : (y8.1.weights Try.prog 24).all (· ≤ reachBytes) = true := by
        simp only [DataW.weights, he] at hb
        exact LawKit.weights_get _ _ 8 24 _ hb (by
          rw [List.getElem?_map, Array.getElem?_toList, Array.getElem?_eq_getElem (by rw [hl6]; decide)]
          rw [getElem!_pos _ 8 (by rw [hl6]; decide)] at ht8
          exact congrArg some ht8) rfl
      obtain ⟨Gv, hw, Fv⟩ := rvhoss_core (d := y8.1) (p := y8.2) k8 hw8
      refine ⟨⟨n0, n1, n2, n3, n4, n5, [], [], Gv⟩, c6, c7, c8, hw, ?_, ⟨slice_form Try.underlying22 (d := y6.1) (p := y6.2) k6, slice_form Try.underlying23 (d := y7.1) (p := y7.2) k7, Fv.vh⟩, Fv⟩
      unfold confV
      obtain rfl : c0 = .int .i64 n0 := by simpa using e0
      obtain rfl : c1 = .int .i64 n1 := by simpa using e1
      obtain rfl : c2 = .int .i64 n2 := by simpa using e2
      obtain rfl : c3 = .int .i64 n3 := by simpa using e3
      obtain rfl : c4 = .int .i64 n4 := by simpa using e4
      obtain rfl : c5 = .int .i64 n5 := by simpa using e5
      rfl
theorem rroute_arg {base : Nat} {v : Value} {d : DataW H} {p : List MemPlace} (hv : Value.okWide Try.prog W .any base 39 v)
    (h : DataW.Trod enc Try.prog W 0 (fun _ => true) true 39 v d p) : ∃ r : Rout, v = .agg (routA r) ∧ r.path.length ≤ 9223372036854775807 := by
  have he : Try.prog.underlying 39 = some (.struct (Try.prog.fieldsOf 39)) := by kernel_rfl
  have hC : Try.prog.cellsOf 39 = 13 := by kernel_rfl
  have hone := hone_of (show oneCellFields Try.prog (Try.prog.fieldsOf 39) = true by kernel_rfl)
  obtain ⟨cs, rfl, hsz⟩ := okWide_struct he hv
  obtain ⟨l⟩ := cs
  match l, hsz.trans hC with
  | [c0, c1, c2, c3, c4, c5, c6, c7, c8, c9, c10, c11, c12], _ =>
    obtain ⟨fuel, hf⟩ := h
    obtain ⟨xs, n, _, hx, _, hlen, hg⟩ := DataW.trod_struct he hf
    have hl6 : (Try.prog.fieldsOf 39).size = 13 := by kernel_rfl
    match xs, hlen.trans hl6 with
    | [y0, y1, y2, y3, y4, y5, y6, y7, y8, y9, y10, y11, y12], _ =>
      have key : ∀ i (hi : i < 13), DataW.trod enc Try.prog W 0 (fun _ => true) true n (Try.prog.fieldsOf 39)[i]!.type [[c0, c1, c2, c3, c4, c5, c6, c7, c8, c9, c10, c11, c12][i]] = some [y0, y1, y2, y3, y4, y5, y6, y7, y8, y9, y10, y11, y12][i] := fun i hi => by
        have hq : (Try.prog.fieldsOf 39)[i]? = some (Try.prog.fieldsOf 39)[i]! := by
          rw [getElem!_pos _ i (by rw [hl6]; exact hi)]
          exact Array.getElem?_eq_getElem _
        have h1 := hg i _ hq
        obtain ⟨o1, k1⟩ := hone i _ hq
        rw [o1, k1] at h1
        have h2 : ((Value.agg ⟨[c0, c1, c2, c3, c4, c5, c6, c7, c8, c9, c10, c11, c12]⟩).cells.toList.drop i).take 1 = [[c0, c1, c2, c3, c4, c5, c6, c7, c8, c9, c10, c11, c12][i]] := by
          rw [show (Value.agg ⟨[c0, c1, c2, c3, c4, c5, c6, c7, c8, c9, c10, c11, c12]⟩).cells.toList = [c0, c1, c2, c3, c4, c5, c6, c7, c8, c9, c10, c11, c12] from rfl, List.drop_eq_getElem_cons (by simpa using hi)]
          rfl
        rw [h2] at h1
        rw [h1, List.getElem?_eq_getElem (by simpa using hi)]
      obtain ⟨b0, e0, x0⟩ := DataW.trod_bool (show Try.prog.underlying (Try.prog.fieldsOf 39)[0]!.type = some .bool by kernel_rfl) (key 0 (by decide))
      obtain ⟨s1, e1, x1, l1⟩ := DataW.trod_string (show Try.prog.underlying (Try.prog.fieldsOf 39)[1]!.type = some .string by kernel_rfl) (key 1 (by decide))
      obtain ⟨s2, e2, x2, l2⟩ := DataW.trod_string (show Try.prog.underlying (Try.prog.fieldsOf 39)[2]!.type = some .string by kernel_rfl) (key 2 (by decide))
      obtain ⟨s3, e3, x3, l3⟩ := DataW.trod_string (show Try.prog.underlying (Try.prog.fieldsOf 39)[3]!.type = some .string by kernel_rfl) (key 3 (by decide))
      obtain ⟨s4, e4, x4, l4⟩ := DataW.trod_string (show Try.prog.underlying (Try.prog.fieldsOf 39)[4]!.type = some .string by kernel_rfl) (key 4 (by decide))
      obtain ⟨n5, e5, x5, w5⟩ := DataW.trod_int (show Try.prog.underlying (Try.prog.fieldsOf 39)[5]!.type = some (.int .i64) by kernel_rfl) (key 5 (by decide))
      obtain ⟨s6, e6, x6, l6⟩ := DataW.trod_string (show Try.prog.underlying (Try.prog.fieldsOf 39)[6]!.type = some .string by kernel_rfl) (key 6 (by decide))
      obtain ⟨n7, e7, x7, w7⟩ := DataW.trod_int (show Try.prog.underlying (Try.prog.fieldsOf 39)[7]!.type = some (.int .i64) by kernel_rfl) (key 7 (by decide))
      obtain ⟨s8, e8, x8, l8⟩ := DataW.trod_string (show Try.prog.underlying (Try.prog.fieldsOf 39)[8]!.type = some .string by kernel_rfl) (key 8 (by decide))
      obtain ⟨s9, e9, x9, l9⟩ := DataW.trod_string (show Try.prog.underlying (Try.prog.fieldsOf 39)[9]!.type = some .string by kernel_rfl) (key 9 (by decide))
      obtain ⟨n10, e10, x10, w10⟩ := DataW.trod_int (show Try.prog.underlying (Try.prog.fieldsOf 39)[10]!.type = some (.int .i64) by kernel_rfl) (key 10 (by decide))
      obtain ⟨n11, e11, x11, w11⟩ := DataW.trod_int (show Try.prog.underlying (Try.prog.fieldsOf 39)[11]!.type = some (.int .i64) by kernel_rfl) (key 11 (by decide))
      obtain ⟨b12, e12, x12⟩ := DataW.trod_bool (show Try.prog.underlying (Try.prog.fieldsOf 39)[12]!.type = some .bool by kernel_rfl) (key 12 (by decide))
      refine ⟨⟨b0, toL s1, toL s2, toL s3, toL s4, n5, toL s6, n7, toL s8, toL s9, n10, n11, b12⟩, ?_, by unfold maxLen at l1; rw [toL_length]; exact l1⟩
      unfold routA
      obtain rfl : c0 = .bool b0 := by simpa using e0
      obtain rfl : c1 = .string s1 := by simpa using e1
      obtain rfl : c2 = .string s2 := by simpa using e2
      obtain rfl : c3 = .string s3 := by simpa using e3
      obtain rfl : c4 = .string s4 := by simpa using e4
      obtain rfl : c5 = .int .i64 n5 := by simpa using e5
      obtain rfl : c6 = .string s6 := by simpa using e6
      obtain rfl : c7 = .int .i64 n7 := by simpa using e7
      obtain rfl : c8 = .string s8 := by simpa using e8
      obtain rfl : c9 = .string s9 := by simpa using e9
      obtain rfl : c10 = .int .i64 n10 := by simpa using e10
      obtain rfl : c11 = .int .i64 n11 := by simpa using e11
      obtain rfl : c12 = .bool b12 := by simpa using e12
      simp only [ofL_toL]
end
end Go.Proofs.Ytcjobblhendkbaa.RouArg

/- Layer 15's laws: vhosts in a row of a call's own. No function is named. -/
namespace Go.Proofs.Ytcjobblhendkbaa.RouRow
open Go.ChangeShapes Go.WideShapes Go.ChangeAt Go.RowKit Bytes LexPure ConfPure ConfMem ConfAt RowsArg Mem RowKeep ConfOwn ConfCF Texts RouArg
set_option maxRecDepth 20000
set_option linter.unusedVariables false
/-- a slice that is built whole -/
theorem owns_new (w : World) (t : TypeId) (base k n : Nat) (cs : Array Value) (hb : base ≤ w.heap.size) (hm : n ≤ maxLen) (hn : cs.size = n * k) : (w.alloc (.cells cs t)).ownsRow base t k (.slice (some ⟨w.heap.size, 0, none⟩) n n) n cs.toList :=
  ⟨by simpa using hn, .inr ⟨w.heap.size, n, cs, rfl, hb, heap_alloc_new w _, Nat.le_refl _, hm, hn, by rw [List.take_of_length_le (by simp [hn])]⟩⟩
theorem vhoss_of {w : World} {base : Nat} {v : Value} {VL : List (Vhos × Value)} (h : w.ownsRow base VT 2 v VL.length (VL.flatMap (fun p => vhosV p.1 p.2))) (hr : ∀ p ∈ VL, Routs w p.2 p.1.routes) : Vhoss w v (VL.map (·.1)) := by
  refine ⟨fun i => (VL.getD i (zVhos, undef)).2, ?_, fun i hi => ?_⟩
  · have := rows_of (fun p : Vhos × Value => vhosV p.1 p.2) (fun _ => rfl) VL h (V := fun i j => (vhosV ((VL.map (·.1)).getD i zVhos) (VL.getD i (zVhos, undef)).2).getD j undef) (fun i hi j hj => by simp [List.getD, List.getElem?_eq_getElem hi]) (row_len h)
    rwa [List.length_map]
  · rw [List.length_map] at hi
    have e1 : VL.getD i (zVhos, undef) = VL[i] := by simp [List.getD, List.getElem?_eq_getElem hi]
    have e2 : (VL.map (·.1)).getD i zVhos = VL[i].1 := by simp [List.getD, List.getElem?_eq_getElem hi]
    dsimp only
    rw [e1, e2]
    exact hr _ (List.getElem_mem hi)
theorem routs_nil (w : World) : Routs w (.slice none 0 0) [] := ⟨none, 0, rfl, Nat.zero_le _, fun h => absurd h (by simp)⟩
/-- a config in a box that a law holds -/
structure Cb (w : World) (g : Nat) (c : Conf) (vf vc vv : Value) (W : World) : Prop where
  box : Has W g CT (confV c vf vc vv)
  vh : Vhoss W vv c.vhosts
  below : Below w.heap.size w W
theorem Cb.call {w W W' : World} {g : Nat} {c : Conf} {vf vc vv : Value} (x : Cb w g c vf vc vv W) (hb : Below W.heap.size W W') : Cb w g c vf vc vv W' := ⟨x.box.below hb x.box.lt, x.vh.below hb, below_chain x.below hb⟩
end Go.Proofs.Ytcjobblhendkbaa.RouRow

/- Layer 4, the document's own Lower. -/
namespace Go.Proofs.Ytcjobblhendkbaa.RLower
open Go.ChangeShapes Go.WideShapes Go.ChangeAt Go.RowKit LexPure Bytes Ret Rows1
set_option maxRecDepth 20000
theorem infoB : (Try.prog.info? 5).map (fun i => (i.zero, i.size, i.bytes)) = some (some (.int .u8 0), 1, 1) := by kernel_rfl
/-- what is gathered so far -/
def LInv (w : World) (s : ByteArray) (k : Nat) (v : Value) (wr : World) : Prop :=
  wr.ownsRow w.heap.size 5 1 v k (bvs (lower ((toL s).take k))) ∧ Below w.heap.size w wr
theorem small_at {b : UInt8} : (65 ≤ (b.toNat : Int) ∧ (b.toNat : Int) ≤ 90 ∧ (small b).toNat = (b.toNat : Int) - 65 + 97) ∨ (((b.toNat : Int) < 65 ∨ (65 ≤ (b.toNat : Int) ∧ 90 < (b.toNat : Int))) ∧ small b = b) := by
  have := all_bytes (p := fun b => decide ((65 ≤ (b.toNat : Int) ∧ (b.toNat : Int) ≤ 90 ∧ ((small b).toNat : Int) = (b.toNat : Int) - 65 + 97) ∨ (((b.toNat : Int) < 65 ∨ (65 ≤ (b.toNat : Int) ∧ 90 < (b.toNat : Int))) ∧ small b = b))) (by decide +kernel) b
  simpa only [decide_eq_true_eq] using this
theorem rlower_any (s : ByteArray) (hs : s.size ≤ 140737488351232) (w : World) :
    Calls Try.prog 44 #[.string s] w fun e w' => e = .returned (.string (ofL (lower (toL s)))) ∧ Below w.heap.size w w' := by
  obtain ⟨i0, hi, hz0, hz1, hz2⟩ := info_parts infoB
  go_enter Try.func44, Try.ntmps44
  go_wp2_with fail
  go_loopw [3, 4] (fun v i wr => ∃ k : Nat, k ≤ s.size ∧ i = .int .i64 k ∧ Hid (LInv w s k v wr)) (fun _ i _ => s.size - (intOf i).toNat)
  case atStart => exact ⟨0, Nat.zero_le _, rfl, Lib.hid ⟨World.ownsRow_nil _ _ _ _, Below.refl _ _⟩⟩
  case round =>
    obtain ⟨k, hk, rfl, HI⟩ := hrel
    obtain ⟨hrow, hbw⟩ := HI.out
    by_cases hlt : k < s.size
    · have hki : (k : Int) < (s.size : Int) := by omega
      have HT : Hid (lower ((toL s).take (k + 1)) = lower ((toL s).take k) ++ [small s[k]]) := Lib.hid (by
        rw [toL_take_succ s k hlt]
        unfold lower
        rw [List.map_append]
        rfl)
      rcases small_at (b := s[k]) with ⟨h1, h2, h3⟩ | ⟨h1, h2⟩
      · have HV : Hid (bv (small s[k]) = .int .u8 ((s[k].toNat : Int) - 65 + 97)) := Lib.hid (by unfold bv; rw [h3])
        go_wp2_with (at_builtin; refine wpList_append_own _ rfl _ _ 64 rfl w.heap.size 5 i0 (.int .u8 0) 1 1 Try.underlying64 hi hz0 hz1 hz2 rfl (by decide) _ _ _ rfl (hrow.alloc _) ⟨wr.heap.size, 0, none⟩ 1 1 [.int .u8 ((s[k].toNat : Int) - 65 + 97)] rfl rfl (cell_one_new _ _ _) (fun x hx => by simp at hx; subst hx; rfl) (by unfold maxLen; omega) (by omega) (by have := hbw.size; simp; omega) ?_; intro v' w3 hown' hgrow3 hnil3)
        have HI3 : Hid (LInv w s (k + 1) v' w3) := Lib.hid ⟨by rw [HT.out, bvs_append]; have h := hown'; rw [← HV.out] at h; exact h, Below.grown (hbw.alloc hbw.size _) hgrow3 (by have := hbw.size; simp; omega) (fun j hj => (hrow.lt _ hj).1)⟩
        clear hown' hgrow3 hnil3
        go_wp2_with fail
        go_roundw
        case rel => exact ⟨k + 1, by omega, by go_num, HI3⟩
        case measure => simp [intOf]; omega
      · rcases h1 with h1 | ⟨h1, h3⟩
        all_goals
          have HV : Hid (bv (small s[k]) = .int .u8 (s[k].toNat : Int)) := Lib.hid (by rw [h2]; rfl)
          go_wp2_with (at_builtin; refine wpList_append_own _ rfl _ _ 64 rfl w.heap.size 5 i0 (.int .u8 0) 1 1 Try.underlying64 hi hz0 hz1 hz2 rfl (by decide) _ _ _ rfl (hrow.alloc _) ⟨wr.heap.size, 0, none⟩ 1 1 [.int .u8 (s[k].toNat : Int)] rfl rfl (cell_one_new _ _ _) (fun x hx => by simp at hx; subst hx; rfl) (by unfold maxLen; omega) (by omega) (by have := hbw.size; simp; omega) ?_; intro v' w3 hown' hgrow3 hnil3)
          have HI3 : Hid (LInv w s (k + 1) v' w3) := Lib.hid ⟨by rw [HT.out, bvs_append]; have h := hown'; rw [← HV.out] at h; exact h, Below.grown (hbw.alloc hbw.size _) hgrow3 (by have := hbw.size; simp; omega) (fun j hj => (hrow.lt _ hj).1)⟩
          clear hown' hgrow3 hnil3
          go_wp2_with fail
          go_roundw
          case rel => exact ⟨k + 1, by omega, by go_num, HI3⟩
          case measure => simp [intOf]; omega
    · have HC := own_string (P := Try.prog) hrow 64 9 Try.underlying64 Try.underlying5 Try.underlying9
      rw [toL_take_all s (by omega)] at HC
      clear hrow HI
      go_wp2_with fail
      go_ret
      exact ⟨rfl, hbw⟩
end Go.Proofs.Ytcjobblhendkbaa.RLower

/- Layer 7, the document's own alike. -/
namespace Go.Proofs.Ytcjobblhendkbaa.RAlike7
open Go.ChangeShapes Go.WideShapes Go.ChangeAt Go.RowKit LexPure Bytes Ret RLower Mem
set_option maxRecDepth 20000
end Go.Proofs.Ytcjobblhendkbaa.RAlike7

/- Layer 7, the document's own Get. -/
namespace Go.Proofs.Ytcjobblhendkbaa.R7Get
open Go.ChangeShapes Go.WideShapes Go.ChangeAt Go.RowKit LexPure Bytes Ret FieldsPure Flds RAlike7 Mem
set_option maxRecDepth 20000
theorem getV_cons (f : HField) (l : List HField) (n : List UInt8) : getV (f :: l) n = if hit n f then f.2 else getV l n := by
  unfold getV
  rw [List.find?_cons]
  cases hit n f <;> rfl
theorem getN_cons (f : HField) (l : List HField) (n : List UInt8) : getN (f :: l) n = if hit n f then getN l n + 1 else getN l n := by
  unfold getN
  rw [List.countP_cons]
  cases hit n f <;> simp
end Go.Proofs.Ytcjobblhendkbaa.R7Get

/- Layer 4 of the program: small. -/
namespace Go.Proofs.Ytcjobblhendkbaa.PLsmall
open Go.ChangeShapes Go.WideShapes Go.ChangeAt Go.RowKit LexPure Bytes Ret
set_option maxRecDepth 20000
theorem small_cases (b : UInt8) : (65 ≤ (b.toNat : Int) ∧ (b.toNat : Int) ≤ 90 ∧ ((small b).toNat : Int) = (b.toNat : Int) - 65 + 97) ∨ (((b.toNat : Int) < 65 ∨ (65 ≤ (b.toNat : Int) ∧ 90 < (b.toNat : Int))) ∧ small b = b) := by
  have := all_bytes (p := fun b => decide ((65 ≤ (b.toNat : Int) ∧ (b.toNat : Int) ≤ 90 ∧ ((small b).toNat : Int) = (b.toNat : Int) - 65 + 97) ∨ (((b.toNat : Int) < 65 ∨ (65 ≤ (b.toNat : Int) ∧ 90 < (b.toNat : Int))) ∧ small b = b))) (by decide +kernel) b
  simpa only [decide_eq_true_eq] using this
theorem psmall_any (b : UInt8) (w : World) :
    Calls Try.prog 61 #[.int .u8 (b.toNat : Int)] w fun e w' => e = .returned (.int .u8 ((small b).toNat : Int)) ∧ w = w' := by
  have hub : (b.toNat : Int) ≤ 255 := by have := b.toNat_lt; omega
  rcases small_cases b with ⟨h1, h2, h3⟩ | ⟨h1 | ⟨h1, h2⟩, h3⟩
  · have H3 := Lib.hid h3
    clear h3
    generalize (b.toNat : Int) = c at *
    go_enter Try.func61, Try.ntmps61
    go_wp2_with fail
    go_ret
    exact ⟨by rw [H3.out]; rfl, rfl⟩
  · rw [h3]
    generalize (b.toNat : Int) = c at *
    go_enter Try.func61, Try.ntmps61
    go_wp2_with fail
    go_ret
    exact ⟨rfl, rfl⟩
  · rw [h3]
    generalize (b.toNat : Int) = c at *
    go_enter Try.func61, Try.ntmps61
    go_wp2_with fail
    go_ret
    exact ⟨rfl, rfl⟩
theorem psmall_same (b : UInt8) (w : World) :
    Calls Try.prog 61 #[.int .u8 (b.toNat : Int)] w fun e w' => e = .returned (.int .u8 ((small b).toNat : Int)) ∧ w' = w :=
  (psmall_any b w).mono fun _ _ ⟨h, k⟩ => ⟨h, k.symm⟩
end Go.Proofs.Ytcjobblhendkbaa.PLsmall

/- Layer 4 of the program: Alike. -/
namespace Go.Proofs.Ytcjobblhendkbaa.PAlike
open Go.ChangeShapes Go.WideShapes Go.ChangeAt Go.RowKit LexPure Bytes Ret PLsmall Mem
set_option maxRecDepth 20000
set_option maxHeartbeats 1600000 in
theorem palike_any (s t : ByteArray) (hs : s.size ≤ maxLen) (w : World) :
    Calls Try.prog 60 #[.string s, .string t] w fun e w' => e = .returned (.bool (alike (toL s) (toL t))) ∧ Below w.heap.size w w' := by
  unfold maxLen at hs
  by_cases hl : s.size = t.size
  · go_enter Try.func60, Try.ntmps60
    go_wp2_with fail
    have HB : Hid (∃ m, w = w.drewN m) := Lib.hid ⟨0, rfl⟩
    go_loopw [13] (fun i wr => ∃ k : Nat, k ≤ s.size ∧ i = .int .i64 k ∧ Hid (lower ((toL s).take k) = lower ((toL t).take k)) ∧ Hid (∃ m, wr = w.drewN m)) (fun i _ => s.size - (intOf i).toNat)
    case atStart => exact ⟨0, Nat.zero_le _, rfl, Lib.hid rfl, HB⟩
    case round =>
      obtain ⟨k, hk, rfl, ha, HM⟩ := hrel
      clear HB
      by_cases hlt : k < s.size
      · have hlt2 : k < t.size := by omega
        have hki : (k : Int) < (s.size : Int) := by omega
        have hki2 : (k : Int) < (t.size : Int) := by omega
        have HS := Lib.hid (toL_take_succ s k hlt)
        have HT := Lib.hid (toL_take_succ t k hlt2)
        have GS := Lib.hid (toL_get s k hlt)
        have GT := Lib.hid (toL_get t k hlt2)
        by_cases hm : small s[k] = small t[k]
        · have HA : Hid (lower ((toL s).take (k + 1)) = lower ((toL t).take (k + 1))) := Lib.hid (by
            rw [HS.out, HT.out]
            unfold lower
            rw [List.map_append, List.map_append]
            have h := ha.out
            unfold lower at h
            rw [h]
            simp [hm])
          have hx : ((small s[k]).toNat : Int) = ((small t[k]).toNat : Int) := by rw [hm]
          clear hm HS HT GS GT ha
          go_wp2_with fail
          go_quiet ((go_at_call 61; exact Calls.quiet_of_same (psmall_same _ _)))
          go_wp2_with fail
          go_roundw
          case rel => exact ⟨k + 1, by omega, by go_num, HA, Lib.hid (by obtain ⟨m, hm⟩ := HM.out; exact ⟨_, by rw [hm, World.drewN_drewN]⟩)⟩
          case measure => simp [intOf]; omega
        · have HV : Hid (alike (toL s) (toL t) = false) := Lib.hid (by
            unfold alike
            rw [beq_eq_false_iff_ne]
            intro h
            have h2 := congrArg (·[k]?) h
            unfold lower at h2
            simp only [List.getElem?_map, GS.out, GT.out, Option.map_some, Option.some.injEq] at h2
            exact hm h2)
          have hx : ¬ (((small s[k]).toNat : Int) = ((small t[k]).toNat : Int)) := fun h => hm (UInt8.toNat_inj.1 (by exact_mod_cast h))
          clear hm HS HT GS GT ha
          go_wp2_with fail
          go_quiet ((go_at_call 61; exact Calls.quiet_of_same (psmall_same _ _)))
          go_wp2_with fail
          go_ret
          obtain ⟨m, rfl⟩ := HM.out
          exact ⟨by rw [HV.out]; rfl, ⟨rfl, rfl, rfl, Nat.le_refl _, fun _ _ => rfl⟩⟩
      · have hall : (toL s).take k = toL s := toL_take_all s (by omega)
        have hall2 : (toL t).take k = toL t := toL_take_all t (by omega)
        have HV : Hid (alike (toL s) (toL t) = true) := Lib.hid (by
          have h := ha.out
          rw [hall, hall2] at h
          unfold alike
          rw [h]
          exact beq_self_eq_true _)
        clear ha hall hall2
        go_wp2_with fail
        go_ret
        obtain ⟨m, rfl⟩ := HM.out
        exact ⟨by rw [HV.out]; rfl, ⟨rfl, rfl, rfl, Nat.le_refl _, fun _ _ => rfl⟩⟩
  · have HV : Hid (alike (toL s) (toL t) = false) := Lib.hid (by
      unfold alike
      rw [beq_eq_false_iff_ne]
      intro h
      have := congrArg List.length h
      rw [lower_length, lower_length, toL_length, toL_length] at this
      exact hl this)
    have hx : ¬ ((s.size : Int) = (t.size : Int)) := by omega
    clear hl
    go_enter Try.func60, Try.ntmps60
    go_wp2_with fail
    go_ret
    exact ⟨by rw [HV.out]; rfl, ⟨rfl, rfl, rfl, Nat.le_refl _, fun _ _ => rfl⟩⟩
end Go.Proofs.Ytcjobblhendkbaa.PAlike

/- Layer 7 of the program, for lists of any size: values, the values of a name's fields, one after the other. -/
namespace Go.Proofs.Ytcjobblhendkbaa.PValsW
open Go.ChangeShapes Go.WideShapes Go.ChangeAt Go.RowKit LexPure Bytes Ret FieldsPure Flds R7Get PAlike Mem Go.Shelf
set_option maxRecDepth 20000
attribute [local go_sem] Oper.semAt_some
/-- every name and value is a text -/
def Wide (G : List HField) : Prop := ∀ (j : Nat) (h : j < G.length), G[j].1.length ≤ 9223372036854775807 ∧ G[j].2.length ≤ 9223372036854775807
/-- a value, as long as a value may be -/
def V : Type := { x : List UInt8 // x.length ≤ 9223372036854775807 }
def clamp (x : List UInt8) : V := ⟨x.take 9223372036854775807, by rw [List.length_take]; omega⟩
theorem clamp_val {x : List UInt8} (h : x.length ≤ 9223372036854775807) : (clamp x).1 = x := List.take_of_length_le h
def encV (x : V) : Array Value := #[.string (ofL x.1)]
/-- the values of a name -/
def vs (G : List HField) (n : List UInt8) : List V := (G.filter (hit n)).map (fun f => clamp f.2)
theorem vs_append (a b : List HField) (n : List UInt8) : vs (a ++ b) n = vs a n ++ vs b n := by simp [vs]
theorem vs_one (f : HField) (n : List UInt8) : vs [f] n = if hit n f then [clamp f.2] else [] := by
  unfold vs
  cases h : hit n f <;> simp [h]
theorem vs_len (G : List HField) (n : List UInt8) : (vs G n).length ≤ G.length := by
  unfold vs
  rw [List.length_map]
  exact List.length_filter_le _ _
/-- what a round keeps: what lay below n₀, and the name's box -/
def Kp (n₀ Bn : Nat) (nm : ByteArray) (A B : World) : Prop := Below n₀ A B ∧ (A.cell? ⟨Bn, 0, none⟩ = some (.string nm) → B.cell? ⟨Bn, 0, none⟩ = some (.string nm))
theorem kp_t {n₀ Bn : Nat} {nm : ByteArray} {A B C : World} (h : Kp n₀ Bn nm A B) (k : Kp n₀ Bn nm B C) : Kp n₀ Bn nm A C := ⟨h.1.trans k.1, fun x => k.2 (h.2 x)⟩
theorem kp_b {n₀ Bn : Nat} {nm : ByteArray} {w : World} (hn : n₀ ≤ w.heap.size) (hb : Bn < w.heap.size) (W : World) (l : Nat) (o o' : Obj) (hl : w.heap.size ≤ l) (h : W.heap[l]? = some o) (h1 : o.isCells = false) (h2 : o.isWalk = false) : Kp n₀ Bn nm W (W.putObj l o') :=
  ⟨belowK_b hn W l o o' hl h h1 h2, fun x => by
    have hne : l ≠ Bn := by omega
    have hb := World.block_lt_of_cell? _ _ x
    have := (Below.refl (Bn + 1) W).grown (grownBy_putObj' W l o') (by exact hb) (fun k e => by cases e; omega)
    exact (this.cell (p := ⟨Bn, 0, none⟩) (Nat.lt_succ_self _)).trans x⟩
/-- the list lies in a block below n₀ -/
def Under (n₀ : Nat) (w : World) (v : Value) (G : List HField) : Prop := ∃ p cap, v = .slice p G.length cap ∧ G.length ≤ 4398046511104 ∧ (0 < G.length → ∃ g o, p = some ⟨g, o, none⟩ ∧ g < n₀ ∧ ∀ j (hj : j < G.length), w.cell? ⟨g, o + j * 2, none⟩ = some (.string (ofL G[j].1)) ∧ w.cell? ⟨g, o + j * 2 + 1, none⟩ = some (.string (ofL G[j].2)))
theorem FL.under {w : World} {v : Value} {G : List HField} (h : FL w v G) : Under w.heap.size w v G := h
theorem Under.below {n₀ : Nat} {w w' : World} {v : Value} {G : List HField} (h : Under n₀ w v G) (hb : Below n₀ w w') : Under n₀ w' v G := by
  obtain ⟨p, cap, hv, hn, hc⟩ := h
  refine ⟨p, cap, hv, hn, fun h0 => ?_⟩
  obtain ⟨g, o, hp, hlt, hcell⟩ := hc h0
  exact ⟨g, o, hp, hlt, fun j hj => ⟨(hb.cell (p := ⟨g, o + j * 2, none⟩) hlt).trans (hcell j hj).1, (hb.cell (p := ⟨g, o + j * 2 + 1, none⟩) hlt).trans (hcell j hj).2⟩⟩
theorem grown_of_below {w w' : World} (h : Below w.heap.size w w') : w.grownBy w' none := ⟨h.os, h.tape, h.output, h.size, fun k hk _ => h.block k hk⟩
set_option maxHeartbeats 1600000 in
theorem pvalues_any (p : Option Addr) (len cap : Nat) (nm : ByteArray) (w : World) :
    Calls Try.prog 52 #[.slice p len cap, .string nm] w fun e w' => e = .returned (.func (.func 59) #[] #[.pointer (some ⟨w.heap.size, 0, none⟩), .pointer (some ⟨w.heap.size + 1, 0, none⟩)]) ∧ w' = (w.alloc (.cells #[.slice p len cap] 27)).alloc (.cells #[.string nm] 9) := by
  go_enter Try.func52, Try.ntmps52
  go_wp2_with fail
  go_ret
  exact ⟨rfl, rfl⟩
set_option maxHeartbeats 3200000 in
theorem vals_in (n l Bs Bn n₀ : Nat) (G : List HField) (hG : Wide G) (nm : ByteArray) (v : Value) (J Jx : List V → World → Prop) (W : World)
    (hJ : AbidesFrom W.heap.size J) (hn0 : n₀ ≤ W.heap.size)
    (hY : ∀ pre x W1, J pre W1 → pre.length < G.length → YieldAt Fence.wide (n - 1) Try.prog l (encV x) W1 fun e W' =>
      (e = .returned (.bool true) ∧ J (pre ++ [x]) W' ∧ Kp n₀ Bn nm W1 W') ∨ (e = .returned (.bool false) ∧ Jx (pre ++ [x]) W'))
    (hBs : W.cell? ⟨Bs, 0, none⟩ = some v) (hBn : W.cell? ⟨Bn, 0, none⟩ = some (.string nm)) (hL : Under n₀ W v G) (h0 : J [] W) :
    CallsIn Fence.wide n Try.prog 59 #[.func (.yield l) #[] #[], .pointer (some ⟨Bs, 0, none⟩), .pointer (some ⟨Bn, 0, none⟩)] W fun e W' => (∃ v, e = .returned v) ∧
      ((∃ ys, ys = vs G (toL nm) ∧ J ys W') ∨ (∃ pre, pre <+: vs G (toL nm) ∧ Jx pre W')) := by
  obtain ⟨p, cap, rfl, hle, hc⟩ := hL
  refine callsIn_of_wp Try.func59 rfl trivial ?_ rfl
  simp only [Try.ntmps59, List.size_toArray, List.length_cons, List.length_nil, Nat.reduceAdd, Nat.reduceSub, Array.replicate_succ, Array.replicate_zero, List.push_toArray, List.append_toArray, List.nil_append, List.cons_append]
  replace hc := Lib.hid hc
  replace hG := Lib.hid hG
  replace hJ := Lib.hid hJ
  replace hY := Lib.hid hY
  have H0 := Lib.hid h0
  clear h0
  gi_wp2
  clear hBs
  have HB0 : Hid (Below n₀ W W) := Lib.hid (Below.refl _ _)
  have HN0 := Lib.hid hBn
  clear hBn
  gi_loopw [8] (fun i wr => ∃ k : Nat, k ≤ G.length ∧ i = .int .i64 k ∧ Hid (J (vs (G.take k) (toL nm)) wr) ∧ Hid (Below n₀ W wr) ∧ Hid (wr.cell? ⟨Bn, 0, none⟩ = some (.string nm)))
    (fun i _ => G.length - (intOf i).toNat)
  case atStart => exact ⟨0, Nat.zero_le _, rfl, H0, HB0, HN0⟩
  case round =>
    obtain ⟨k, hk, rfl, HJ, HB, HN⟩ := hrel
    clear H0 HB0 HN0
    by_cases hlt : k < G.length
    · obtain ⟨g, o, rfl, hgl, hcell⟩ := hc.out (by omega)
      obtain ⟨c1, c2⟩ := hcell k hlt
      have hki : (k : Int) < (G.length : Int) := by omega
      obtain ⟨s1, s2⟩ := hG.out k hlt
      replace c1 := (HB.out.cell (p := ⟨g, o + k * 2, none⟩) hgl).trans c1
      replace c2 := (HB.out.cell (p := ⟨g, o + k * 2 + 1, none⟩) hgl).trans c2
      have hgw : n₀ ≤ wr.heap.size := Nat.le_trans hn0 HB.out.size
      have HA := Lib.hid (fun w => palike_any (ofL G[k].1) nm (by rw [ofL_size]; unfold maxLen; omega) w)
      rw [toL_ofL] at HA
      have HT : Hid (vs (G.take (k + 1)) (toL nm) = vs (G.take k) (toL nm) ++ if hit (toL nm) G[k] then [clamp G[k].2] else []) := Lib.hid (by rw [← vs_one, ← vs_append, List.take_add_one, List.getElem?_eq_getElem hlt]; rfl)
      have hn := HN.out
      have hbn := World.block_lt_of_cell? _ _ hn
      clear hcell
      cases hh : hit (toL nm) G[k]
      · rw [hh] at HT
        rw [show alike G[k].1 (toL nm) = false from hh] at HA
        clear hh
        gi_wp2_with fail
        refine ⟨trivial, fun h => (by cases h), ?_⟩
        refine (callsIn_wide.2 (HA.out _)).mono ?_
        rintro e w2 ⟨rfl, hb2⟩
        have hb3 := below_chain ((Below.refl wr.heap.size wr).alloc (Nat.le_refl _) (.cells #[.string (ofL G[k].1), .string (ofL G[k].2)] 84)) hb2
        have HJ2 : Hid (J (vs (G.take (k + 1)) (toL nm)) w2) := Lib.hid (by
          rw [HT.out, if_neg (by decide), List.append_nil]
          exact hJ.out _ _ _ none HJ.out (grown_of_below hb3) (fun _ e => by cases e))
        have HB2 : Hid (Below n₀ W w2) := Lib.hid (HB.out.trans (hb3.mono hgw))
        have HN2 : Hid (w2.cell? ⟨Bn, 0, none⟩ = some (.string nm)) := Lib.hid ((hb3.cell (p := ⟨Bn, 0, none⟩) hbn).trans hn)
        clear hb3 hb2 c1 c2 hn hbn HJ HB HN HT HA hY hJ
        gi_wp2_with fail
        refine ⟨fun _ h => (by cases h), ?_⟩
        gi_wp2
        go_roundw
        case rel => exact ⟨k + 1, by omega, by go_num, HJ2, HB2, HN2⟩
        case measure => simp [intOf]; omega
      · rw [hh] at HT
        rw [show alike G[k].1 (toL nm) = true from hh] at HA
        clear hh
        gi_wp2_with fail
        refine ⟨trivial, fun h => (by cases h), ?_⟩
        refine (callsIn_wide.2 (HA.out _)).mono ?_
        rintro e w2 ⟨rfl, hb2⟩
        have hbx := (Has.new wr 84 #[.string (ofL G[k].1), .string (ofL G[k].2)]).cell 1
        have hb3 := below_chain ((Below.refl wr.heap.size wr).alloc (Nat.le_refl _) (.cells #[.string (ofL G[k].1), .string (ofL G[k].2)] 84)) hb2
        have cv : w2.cell? ⟨wr.heap.size, 1, none⟩ = some (.string (ofL G[k].2)) := (hb2.cell (p := ⟨wr.heap.size, 1, none⟩) (by simp)).trans hbx
        have HJ2 : Hid (J (vs (G.take k) (toL nm)) w2) := Lib.hid (hJ.out _ _ _ none HJ.out (grown_of_below hb3) (fun _ e => by cases e))
        have HB2 : Hid (Below n₀ W w2) := Lib.hid (HB.out.trans (hb3.mono hgw))
        have HN2 : Hid (w2.cell? ⟨Bn, 0, none⟩ = some (.string nm)) := Lib.hid ((hb3.cell (p := ⟨Bn, 0, none⟩) hbn).trans hn)
        have hlen : (vs (G.take k) (toL nm)).length < G.length := by
          have h1 := vs_len (G.take k) (toL nm)
          have h2 := List.length_take_le k G
          omega
        obtain ⟨fn, tmps, assign, body, hy, hR⟩ := hY.out (vs (G.take k) (toL nm)) (clamp G[k].2) w2 HJ2.out hlen
        rw [show encV (clamp G[k].2) = #[.string (ofL G[k].2)] by unfold encV; rw [clamp_val s2]] at hy
        have HR := Lib.hid hR
        rw [if_pos trivial] at HT
        clear hR hb3 hb2 hbx c1 c2 hn hbn HJ HB HN HA hJ hlen HJ2
        gi_wp2_with fail
        refine ⟨fun h => (by cases h), ?_⟩
        refine HR.out.mono ?_
        rintro e W3 (⟨rfl, hJ3, hk3⟩ | ⟨rfl, hJx3⟩)
        · have HJ3 : Hid (J (vs (G.take (k + 1)) (toL nm)) W3) := Lib.hid (by rw [HT.out]; exact hJ3)
          have HB3 : Hid (Below n₀ W W3) := Lib.hid (HB2.out.trans hk3.1)
          have HN3 := Lib.hid (hk3.2 HN2.out)
          clear hJ3 hk3 HR HB2 HN2 HT cv hY
          gi_wp2
          go_roundw
          case rel => exact ⟨k + 1, by omega, by go_num, HJ3, HB3, HN3⟩
          case measure => simp [intOf]; omega
        · have HX : Hid (∃ pre, pre <+: vs G (toL nm) ∧ Jx pre W3) := Lib.hid ⟨_, ⟨vs (G.drop (k + 1)) (toL nm), by rw [← HT.out, ← vs_append, List.take_append_drop]⟩, hJx3⟩
          clear hJx3 HR HB2 HN2 HT cv hY
          gi_wp2
          refine bodyPost_ret (results_none rfl _ _ _) rfl ?_
          exact ⟨⟨_, rfl⟩, .inr HX.out⟩
    · have hall : G.take k = G := List.take_of_length_le (by omega)
      have HJE := HJ.out
      rw [hall] at HJE
      have HJH := Lib.hid HJE
      clear HJE HJ hall hY hJ
      gi_wp2
      go_end0
      exact ⟨⟨_, rfl⟩, .inl ⟨_, rfl, HJH.out⟩⟩
/-- the values, one after the other: all of them, or as many as a round let come -/
theorem vals_stops (n Bs Bn n₀ : Nat) (G : List HField) (hG : Wide G) (nm : ByteArray) (v : Value) (w : World) (hBs : Bs < w.heap.size) (hn0 : n₀ ≤ w.heap.size)
    (hc : w.cell? ⟨Bs, 0, none⟩ = some v) (hcn : w.cell? ⟨Bn, 0, none⟩ = some (.string nm)) (hL : Under n₀ w v G) :
    SeqStopsK Fence.wide n Try.prog 59 #[.pointer (some ⟨Bs, 0, none⟩), .pointer (some ⟨Bn, 0, none⟩)] encV (Kp n₀ Bn nm) (fun ys => ys = vs G (toL nm)) (fun pre => pre <+: vs G (toL nm)) G.length w :=
  fun l J Jx W hW hJ _ hY h0 =>
    vals_in n l Bs Bn n₀ G hG nm v J Jx W hJ (Nat.le_trans hn0 hW.size) hY ((hW.cell (p := ⟨Bs, 0, none⟩) hBs).trans hc) ((hW.cell (p := ⟨Bn, 0, none⟩) (World.block_lt_of_cell? _ _ hcn)).trans hcn) (hL.below (hW.mono hn0)) h0
end Go.Proofs.Ytcjobblhendkbaa.PValsW

/- Layer 7 of the program, for lists of any size: Get. -/
namespace Go.Proofs.Ytcjobblhendkbaa.PGetW
open Go.ChangeShapes Go.WideShapes Go.ChangeAt Go.RowKit LexPure Bytes Ret FieldsPure Flds R7Get PAlike PValsW Mem Go.Shelf
set_option maxRecDepth 100000
attribute [local go_sem] Oper.semAt_some
def firstV : List V → List UInt8
  | [] => []
  | x :: _ => x.1
theorem firstV_snoc (pre : List V) (x : V) : firstV (pre ++ [x]) = if pre.length = 0 then x.1 else firstV pre := by
  cases pre with
  | nil => rfl
  | cons => rfl
theorem vs_first (G : List HField) (hG : ∀ f ∈ G, f.2.length ≤ 9223372036854775807) (n : List UInt8) : firstV (vs G n) = getV G n ∧ (vs G n).length = getN G n := by
  induction G with
  | nil => exact ⟨rfl, rfl⟩
  | cons f G ih =>
    obtain ⟨h1, h2⟩ := ih (fun g hg => hG g (List.mem_cons_of_mem _ hg))
    rw [show f :: G = [f] ++ G from rfl, vs_append, vs_one, List.singleton_append, getV_cons, getN_cons]
    cases h : hit n f
    · simp only [Bool.false_eq_true, if_false, List.nil_append]
      exact ⟨h1, h2⟩
    · simp only [if_true, List.singleton_append, List.length_cons]
      exact ⟨clamp_val (hG f List.mem_cons_self), by rw [h2]⟩
theorem wide_all {G : List HField} (h : Wide G) : ∀ f ∈ G, f.1.length ≤ 9223372036854775807 ∧ f.2.length ≤ 9223372036854775807 := fun f hf => by
  obtain ⟨j, hj, rfl⟩ := List.mem_iff_getElem.1 hf
  exact h j hj
set_option maxHeartbeats 3200000 in
theorem pget_any (v : Value) (G : List HField) (nm : ByteArray) (hG : Wide G) (w : World) (hF : FL w v G) :
    Calls Try.prog 37 #[v, .string nm] w fun e w' => e = .returned (.tuple #[.string (ofL (getV G (toL nm))), .int .i64 (getN G (toL nm))]) ∧ Below w.heap.size w w' := by
  obtain ⟨hv1, hv2⟩ := vs_first G (fun f hf => (wide_all hG f hf).2) (toL nm)
  obtain ⟨p, cap, hvv, hle, _⟩ := id hF
  subst hvv
  have HF := Lib.hid hF
  have HG := Lib.hid hG
  have HV := Lib.hid hv1
  have HN := Lib.hid hv2
  clear hF hG hv1 hv2
  refine (callsIn_wide (n := 3)).1 ?_
  refine callsIn_of_wp_marks Try.func37 rfl trivial ?_ rfl
  simp only [Try.ntmps37, List.size_toArray, List.length_cons, List.length_nil, Nat.reduceAdd, Nat.reduceSub, Array.replicate_succ, Array.replicate_zero, List.push_toArray, List.append_toArray, List.nil_append, List.cons_append]
  gi_wp2_with fail
  refine ⟨trivial, ?_⟩
  refine (callsIn_wide.2 (pvalues_any _ _ _ nm _)).mono ?_
  rintro e w' ⟨rfl, rfl⟩
  gi_wp2
  have b0 := (((Boxed.new w 9 (.string ⟨#[]⟩)).alloc (.cells #[.int .i64 0] 3)).alloc (.cells #[.slice p G.length cap] 27)).alloc (.cells #[.string nm] 9)
  have b1 := ((Boxed.new (w.alloc (.cells #[.string ⟨#[]⟩] 9)) 3 (.int .i64 0)).alloc (.cells #[.slice p G.length cap] 27)).alloc (.cells #[.string nm] 9)
  have b2 := (Boxed.new ((w.alloc (.cells #[.string ⟨#[]⟩] 9)).alloc (.cells #[.int .i64 0] 3)) 27 (.slice p G.length cap)).alloc (.cells #[.string nm] 9)
  have b3 := Boxed.new (((w.alloc (.cells #[.string ⟨#[]⟩] 9)).alloc (.cells #[.int .i64 0] 3)).alloc (.cells #[.slice p G.length cap] 27)) 9 (.string nm)
  have hB0 : Below w.heap.size w ((((w.alloc (.cells #[.string ⟨#[]⟩] 9)).alloc (.cells #[.int .i64 0] 3)).alloc (.cells #[.slice p G.length cap] 27)).alloc (.cells #[.string nm] 9)) :=
    ((((Below.refl _ w).alloc (Nat.le_refl _) _).alloc (by simp) _).alloc (by simp; omega) _).alloc (by simp; omega) _
  have hsz : ((((w.alloc (.cells #[.string ⟨#[]⟩] 9)).alloc (.cells #[.int .i64 0] 3)).alloc (.cells #[.slice p G.length cap] 27)).alloc (.cells #[.string nm] 9)).heap.size = w.heap.size + 1 + 1 + 1 + 1 := by simp
  simp only [World.size_alloc] at b1 b2 b3
  generalize ((((w.alloc (.cells #[.string ⟨#[]⟩] 9)).alloc (.cells #[.int .i64 0] 3)).alloc (.cells #[.slice p G.length cap] 27)).alloc (.cells #[.string nm] 9)) = W0 at *
  have hU := (FL.under HF.out).below hB0
  clear HF
  refine wpIn_rangeFunc_ownG rfl (by omega) (gf := 59) (lb := #[.pointer (some ⟨w.heap.size + 1 + 1, 0, none⟩), .pointer (some ⟨w.heap.size + 1 + 1 + 1, 0, none⟩)]) rfl trivial (enters_of Try.func59 (by kernel_rfl) rfl)
    (vals_stops (3 - 1) (w.heap.size + 1 + 1) (w.heap.size + 1 + 1 + 1) w.heap.size G HG.out nm (.slice p G.length cap) W0 b2.lt (by omega) b2.cell b3.cell hU) kp_t (kp_b (by omega) b3.lt) (Below.refl _ _) (fun _ => rfl)
    (fun pre W => Boxed W w.heap.size 9 (.string (ofL (firstV pre))) ∧ Boxed W (w.heap.size + 1) 3 (.int .i64 (pre.length : Nat)) ∧ Boxed W (w.heap.size + 1 + 1 + 1) 9 (.string nm) ∧ Below w.heap.size w W)
    (fun _ _ _ => False)
    (OwnFrom.and (Own.from (boxed_own _ _ _) _) (OwnFrom.and (Own.from (boxed_own _ _ (fun pre : List V => Value.int .i64 (pre.length : Nat))) _) (OwnFrom.and (Own.from (boxed_own _ _ (fun _ => Value.string nm)) _) (ownFrom_below (Nat.le_refl _) (by omega)))))
    (fun _ _ _ _ _ hs _ _ => hs)
    ⟨b0, b1, b3, hB0⟩
    (fun x => { tmps := #[.slice p G.length cap, .string nm, undef, undef, .string ⟨#[]⟩, .int .i64 0, .pointer (some ⟨w.heap.size, 0, none⟩), .pointer (some ⟨w.heap.size + 1, 0, none⟩), .string (ofL x.1), .slice p G.length cap, .string nm, .func (.func 59) #[] #[.pointer (some ⟨w.heap.size + 1 + 1, 0, none⟩), .pointer (some ⟨w.heap.size + 1 + 1 + 1, 0, none⟩)], .string (ofL x.1), undef, undef, undef, undef, undef, undef, undef], defers := [] }) ?assign ?body ?done ?stop
  case assign =>
    intro l x W K hK
    dsimp only [encV]
    gi_wp2
    exact hK
  case body =>
    rintro l pre x W ⟨h0, h1, h3, hB⟩ hlt
    have c0 := h0.cell
    have f0 := h0.frozen
    have c1 := h1.cell
    have f1 := h1.frozen
    have hfs := firstV_snoc pre x
    have hls : ((pre ++ [x]).length : Int) = (pre.length : Int) + 1 := by simp
    have hk : ∀ u : Value, KeepsFrom W0.heap.size W ((W.setCell ⟨w.heap.size, 0, none⟩ (.string (ofL x.1))).setCell ⟨w.heap.size + 1, 0, none⟩ u) ∧ Below w.heap.size W ((W.setCell ⟨w.heap.size, 0, none⟩ (.string (ofL x.1))).setCell ⟨w.heap.size + 1, 0, none⟩ u) := fun u =>
      ⟨((KeepsOthers.setCell _ _ _).trans (KeepsOthers.setCell _ _ _)).from _, ((Below.refl w.heap.size W).setCell (p := ⟨w.heap.size, 0, none⟩) (Nat.le_refl _) _).setCell (p := ⟨w.heap.size + 1, 0, none⟩) (by simp) _⟩
    have hk2 : ∀ u : Value, KeepsFrom W0.heap.size W (W.setCell ⟨w.heap.size + 1, 0, none⟩ u) ∧ Below w.heap.size W (W.setCell ⟨w.heap.size + 1, 0, none⟩ u) := fun u =>
      ⟨(KeepsOthers.setCell _ _ _).from _, (Below.refl w.heap.size W).setCell (p := ⟨w.heap.size + 1, 0, none⟩) (by simp) _⟩
    clear b0 b1 b2 b3 hU HG HV HN
    by_cases hz : pre.length = 0
    · rw [if_pos hz] at hfs
      have hz2 : (pre.length : Int) = 0 := by omega
      rw [hz2] at c1 hls
      clear hz2
      gi_wp2
      obtain ⟨k1, k2⟩ := hk (.int .i64 1)
      refine ⟨k1, ⟨k2, fun _ => ((h3.other (by omega) _).other (by omega) _).cell⟩, ?_, ?_, (h3.other (by omega) _).other (by omega) _, hB.trans k2⟩
      · rw [hfs]
        exact (h0.set _).other (by omega) _
      · rw [hls]
        exact (h1.other (by omega) _).set _
    · rw [if_neg hz] at hfs
      have hlt2 : (pre.length : Int) < 4398046511104 := by omega
      have hpos : (0 : Int) < (pre.length : Int) := by omega
      have hne : ((pre.length : Int) == 0) = false := beq_eq_false_iff_ne.2 (by omega)
      replace hls := Lib.hid hls
      replace hfs := Lib.hid hfs
      replace h1 := Lib.hid h1
      clear hz hlt
      generalize hm : (pre.length : Int) = m at *
      replace hm := Lib.hid hm
      gi_wp2
      obtain ⟨k1, k2⟩ := hk2 (.int .i64 (m + 1))
      refine ⟨k1, ⟨k2, fun _ => (h3.other (by omega) _).cell⟩, ?_, ?_, h3.other (by omega) _, hB.trans k2⟩
      · rw [hfs.out]
        exact h0.other (by omega) _
      · rw [hls.out]
        exact h1.out.set _
  case done =>
    rintro D ys W hD rfl ⟨h0, h1, h3, hB⟩ hK
    have c0 := h0.cell
    have c1 := h1.cell
    clear b0 b1 b2 b3 hU
    gi_wp2
    gi_quiet (fail)
    gi_wp2
    have hBd : Below w.heap.size w (W.drewN nq) := ⟨hB.os, hB.tape, hB.output, hB.size, hB.block⟩
    refine ⟨by simp, .inl ⟨_, _, rfl, run_takeDeferred (w := W.drewN nq) hK, ?_⟩⟩
    refine ⟨_, results_tmp2 rfl _ _ _, ?_, hBd.trans (belowK_b (w := w) (Nat.le_refl _) (W.drewN nq) D _ _ (by omega) hK rfl rfl)⟩
    rw [← HV.out, ← HN.out]
    rfl
  case stop =>
    rintro D c pre W _ _ h _
    exact h.elim
end Go.Proofs.Ytcjobblhendkbaa.PGetW
