/- Layer 5 of the program: resolved: dots resolved, piece by piece. -/
import Derived.Test.YtlhpjinajaociaaDoorPUnder
import Derived.Test.YtlhpjinajaociaaDoorRNormal
import Derived.Test.YtlhpjinajaociaaDoorJoinLays
import Derived.Outline
import Derived.LoopTactic
import Derived.Handy
import Derived.Maps.AppendAt
import Derived.Laws.DeepStrings4
namespace Go.Proofs.YtlhpjinajaociaaDoor.PResolved
open Go.ChangeShapes Go.WideShapes Go.ChangeAt Go.RowKit LexPure Bytes Ret PathPure PathForm Rows1 Texts RNormal CutsSplit PUnder Mem
theorem extra156 : Builder.Extra Tryd.prog Tryd.lays156_ren := {
  sizeBuilder := by kernel_rfl
  liesBuilder := by kernel_rfl
  t5 := Tryd.underlying5
  a5 := Tryd.isAgg5
  z5 := Tryd.sizeOf5
  v5 := Tryd.zeroValue5
  infoByte := by kernel_rfl
  cellsByte := by kernel_rfl
  sizeByte := by kernel_rfl
  neB5 := by decide }
theorem join_say (G : List (List UInt8)) : Lib.join G [47] = (join G).drop 1 := by
  cases G with
  | nil => rfl
  | cons x r =>
    rw [Lib.join_cons]
    have : Lib.joinTail [47] r = join r := by
      unfold Lib.joinTail join
      rw [List.flatMap_def]
      rfl
    rw [this]
    simp [join]
theorem map_ofL (G : List (List UInt8)) : (G.map ofL).map (·.data.toList) = G := by
  rw [List.map_map]
  conv => rhs; rw [← List.map_id G]
  exact List.map_congr_left (fun x _ => toL_ofL x)
theorem lib_join {w : World} {base : Nat} {v : Value} {G : List (List UInt8)} (h : w.ownsRow base 9 1 v G.length (Texts.strs G)) (hl : (join G).length ≤ 140737488355328) (hn : G.length ≤ 140737488355328) :
    Calls Tryd.prog 36 #[v, .string ⟨#[47]⟩] w fun e w' => e = .returned (.string (ofL ((join G).drop 1))) ∧ Below w.heap.size w w' := by
  obtain ⟨p, cap, hv, hcap, hc⟩ := row_cells h
  subst hv
  by_cases h0 : 0 < G.length
  · obtain ⟨g, rfl, _, hg, _, hcell⟩ := hc h0
    have H := Any.strings_Join Tryd.lays156 extra156 g 0 cap (G.map ofL) ⟨#[47]⟩ w (fun j x hx => by
      rw [List.getElem?_map] at hx
      cases hj : G[j]? with
      | none => rw [hj] at hx; cases hx
      | some y =>
        rw [hj] at hx
        have hx' : ofL y = x := by simpa using hx
        have hlt : j < G.length := (List.getElem?_eq_some_iff.1 hj).1
        rw [Nat.zero_add, hcell j hlt]
        simp [Texts.strs, hj, hx']) hg (by rw [List.length_map]; exact hn) (by rw [List.length_map]; exact hcap) (by
      rw [map_ofL, show (⟨#[47]⟩ : ByteArray).data.toList = [47] from rfl, join_say, List.length_drop]; omega)
    rw [map_ofL, show (⟨#[47]⟩ : ByteArray).data.toList = [47] from rfl, join_say, List.length_map] at H
    exact H
  · have hG : G = [] := List.length_eq_zero_iff.1 (by omega)
    subst hG
    refine (Any.strings_Join_none Tryd.lays156 extra156 p cap ⟨#[47]⟩ w).mono ?_
    rintro e w' ⟨rfl, rfl⟩
    exact ⟨rfl, Below.refl _ _⟩
theorem lib_cuts (s : ByteArray) (hs : s.size < 4294967281) (w : World) (hm : MaxInt w) :
    Calls Tryd.prog 35 #[.string s, .string ⟨#[47]⟩] w fun e w' => ∃ cap, e = .returned (.slice (some ⟨w.heap.size, 0, none⟩) (cuts (toL s)).length cap) ∧ (cuts (toL s)).length = cap ∧ w.heap.size < w'.heap.size ∧ (∀ j (hj : j < (cuts (toL s)).length), w'.cell? ⟨w.heap.size, j, none⟩ = some (.string (ofL (cuts (toL s))[j]))) ∧ Below w.heap.size w w' := by
  obtain ⟨m, hm⟩ := hm
  refine (Any.strings_Split Tryd.lays146 (by kernel_rfl) s ⟨#[47]⟩ m w hs hm (by decide)).mono ?_
  rintro e w' ⟨rfl, rfl⟩
  have hl : (Go.Lib.splitB ⟨#[47]⟩ 0 (Go.Lib.countB s ⟨#[47]⟩) s).map (·.data.toList) = cuts (toL s) := by
    rw [Go.Lib.splitB_data, show Go.Lib.countB s ⟨#[47]⟩ = s.data.toList.count 47 from Go.Lib.count_one 47 _]
    exact split_cuts _
  have hn : (cuts (toL s)).length = Go.Lib.countB s ⟨#[47]⟩ + 1 := by
    rw [← hl, List.length_map]
    exact Go.Lib.splitB_all ⟨#[47]⟩ (by decide) 0 _ s rfl
  generalize Go.Lib.splitB ⟨#[47]⟩ 0 (Go.Lib.countB s ⟨#[47]⟩) s = B at *
  refine ⟨_, by rw [hn], hn, by simp, fun j hj => ?_, (Below.refl _ _).alloc (Nat.le_refl _) _⟩
  have hB : (cuts (toL s))[j]? = (B[j]?).map (·.data.toList) := by rw [← hl, List.getElem?_map]
  rw [List.getElem?_eq_getElem hj] at hB
  cases hx : B[j]? with
  | none => rw [hx] at hB; cases hB
  | some x =>
    rw [hx] at hB
    have hq : (cuts (toL s))[j] = x.data.toList := by simpa using hB
    rw [World.cell?_alloc_at _ _ _ _ (by simp)]
    rw [hq, show ofL x.data.toList = x from toL_inj (toL_ofL _)]
    simp [hx]
theorem cuts_ne : ∀ s : List UInt8, cuts s ≠ []
  | [] => by simp [cuts]
  | c :: s => by
    rw [cuts_cons]
    split
    · simp
    · split <;> simp
theorem cuts_count (s : List UInt8) : (cuts s).length ≤ s.length + 1 := by
  induction s with
  | nil => simp [cuts]
  | cons c s ih =>
    rw [cuts_cons]
    split
    · simp only [List.length_cons]; omega
    · split
      · simp
      · rename_i h
        rw [h] at ih
        simp only [List.length_cons] at ih ⊢; omega
theorem cuts_short (s : List UInt8) : ∀ p ∈ cuts s, p.length ≤ s.length := by
  induction s with
  | nil => intro p hp; simp [cuts] at hp; subst hp; simp
  | cons c s ih =>
    intro p hp
    rw [cuts_cons] at hp
    split at hp
    · rcases List.mem_cons.1 hp with rfl | hp
      · simp
      · have := ih p hp; simp only [List.length_cons]; omega
    · split at hp
      · rcases List.mem_cons.1 hp with rfl | hp
        · simp
        · cases hp
      · rename_i q qs h
        rcases List.mem_cons.1 hp with rfl | hp
        · have := ih q (by rw [h]; exact List.mem_cons_self ..)
          simp only [List.length_cons]; omega
        · have := ih p (by rw [h]; exact List.mem_cons_of_mem _ hp)
          simp only [List.length_cons]; omega
/-- behind the first k pieces: G is kept -/
structure PI (w : World) (L : List (List UInt8)) (n k : Nat) (v : Value) (G : List (List UInt8)) (wr : World) : Prop where
  row : wr.ownsRow w.heap.size 9 1 v G.length (Texts.strs G)
  below : Below w.heap.size w wr
  all_ : keeps [] L = keeps G (L.drop k)
  few : G.length ≤ k
  short : ∀ e ∈ G, e.length ≤ n
/-- whether the piece that came last was not kept -/
def flag (L : List (List UInt8)) (k : Nat) : Bool := decide (0 < k) && endsOpen (L.take k)
theorem flag_next {L : List (List UInt8)} {k : Nat} (h : k < L.length) : flag L (k + 1) = (isDot L[k] || isUp L[k]) := by
  unfold flag endsOpen
  rw [List.take_add_one, List.getElem?_eq_getElem h, List.getLastD_eq_getLast?, List.getLast?_append]
  simp
theorem flag_all {L : List (List UInt8)} (h : L ≠ []) : flag L L.length = endsOpen L := by
  unfold flag
  rw [List.take_length, decide_eq_true (by cases L with | nil => exact absurd rfl h | cons => simp)]
  rfl
theorem four (X : List UInt8) : X = [] ∨ X = [46] ∨ X = [46, 46] ∨ (isDot X = false ∧ isUp X = false) := by
  by_cases h1 : X = []
  · exact .inl h1
  · by_cases h2 : X = [46]
    · exact .inr (.inl h2)
    · by_cases h3 : X = [46, 46]
      · exact .inr (.inr (.inl h3))
      · refine .inr (.inr (.inr ⟨?_, ?_⟩))
        · unfold isDot
          rw [Bool.or_eq_false_iff, beq_eq_false_iff_ne, Bool.eq_false_iff, ne_eq, List.isEmpty_iff]
          exact ⟨h1, h2⟩
        · unfold isUp
          rw [beq_eq_false_iff_ne]
          exact h3
def resS (L : List (List UInt8)) : ByteArray := match keeps [] L with
  | none => ⟨#[]⟩
  | some G => ofL (finish G L)
def resE (L : List (List UInt8)) : Int := if (keeps [] L).isSome then 0 else 50
theorem ret_norm2 {a b : ByteArray} {n m : Int} (h : a = b) (k : n = m) : Ending.returned (.tuple #[.string a, .int .i64 n]) = .returned (.tuple #[.string b, .int .i64 m]) := by rw [h, k]
set_option maxHeartbeats 4000000 in
theorem presolved_any (s : ByteArray) (hs : s.size ≤ 4194304) (t : List UInt8) (ht : toL s = 47 :: t) (w : World) (hm : MaxInt w) :
    Calls Tryd.prog 22 #[.string s] w fun e w' => e = .returned (.tuple #[.string (resS (cuts t)), .int .i64 (resE (cuts t))]) ∧ Below w.heap.size w w' := by
  obtain ⟨i0, hi, hz0, hz1, hz2⟩ := info_parts infoS
  have HSp := Lib.hid (lib_cuts s (by omega) w hm)
  have htl : t.length ≤ 4194304 := by
    have := toL_length s
    rw [ht] at this
    simp at this
    omega
  have hcc := cuts_count t
  have HSH := Lib.hid (cuts_short t)
  have HNE := Lib.hid (cuts_ne t)
  have hL0 : 1 ≤ (cuts t).length := by
    cases h : cuts t with
    | nil => exact absurd h (cuts_ne t)
    | cons => simp
  rw [ht, show cuts (47 :: t) = [] :: cuts t by rw [cuts_cons, if_pos (by decide)]] at HSp
  generalize cuts t = L at *
  clear ht hm
  go_enter Tryd.func22, Tryd.ntmps22
  go_wp2_with fail
  refine HSp.out.mono ?_
  rintro e w1 ⟨cap, rfl, hcap, hlt1, hcells, hb⟩
  have HCE := Lib.hid (fun j (hj : j < L.length) => hcells (j + 1) (by simp; omega))
  have hcp : L.length + 1 = cap := hcap
  clear HSp hcells hcap
  subst hcp
  have hI0 : Hid (∃ G, PI w1 L t.length 0 (.slice none 0 0) G w1) := Lib.hid ⟨[], World.ownsRow_nil _ _ _ _, Below.refl _ _, rfl, Nat.le_refl _, fun e he => by simp at he⟩
  have HBW := Lib.hid hb
  clear hb
  go_wp2_with fail
  go_loopw [4, 5, 13] (fun v o i wr => ∃ k : Nat, k ≤ L.length ∧ i = .int .i64 k ∧ o = .bool (flag L k) ∧ Hid (∃ G, PI w1 L t.length k v G wr)) (fun _ _ i _ => L.length - (intOf i).toNat)
  case atStart => exact ⟨0, Nat.zero_le _, rfl, rfl, hI0⟩
  case round =>
    clear hI0
    obtain ⟨k, hk, rfl, rfl, HI⟩ := hrel
    obtain ⟨G, I⟩ := HI.out
    clear HI
    have hbw := I.below
    have hfew := I.few
    have hrow := I.row
    have hs1 := hbw.size
    obtain ⟨pp, cap, rfl, hcap, _⟩ := row_cells I.row
    by_cases hlt : k < L.length
    · have hki : (k : Int) < (L.length : Int) := by omega
      have cx := (hbw.cell (p := ⟨w.heap.size, k + 1, none⟩) hlt1).trans (HCE.out k hlt)
      rw [show ([] :: L)[k + 1]'(by simp; omega) = L[k] from rfl, Nat.add_comm k 1] at cx
      have hXs : L[k].length ≤ t.length := HSH.out _ (List.getElem_mem hlt)
      have HFL := Lib.hid (flag_next hlt)
      have hdrop : L.drop k = L[k] :: L.drop (k + 1) := List.drop_eq_getElem_cons hlt
      have hall := I.all_
      rw [hdrop] at hall
      have HALL := Lib.hid hall
      have HSHO := Lib.hid I.short
      clear I hdrop hall
      generalize hX : L[k] = X at *
      clear hX
      have hET : (ofL X).toList = X := by rw [ByteArray.toList_eq]; exact toL_ofL X
      rcases four X with rfl | rfl | rfl | ⟨hd, hu⟩
      · have HF : Hid (flag L (k + 1) = true) := Lib.hid (by rw [HFL.out]; rfl)
        have HR : Hid (∃ G', PI w1 L t.length (k + 1) (.slice pp G.length cap) G' wr) := Lib.hid ⟨G, hrow, hbw, by rw [HALL.out, keeps, if_pos (by decide)], by omega, HSHO.out⟩
        have hEe : (ofL []).toList.isEmpty = true := by rw [hET]; rfl
        clear HALL HFL hrow hbw
        generalize ofL [] = E at *
        go_wp2_with fail
        go_roundw
        case rel => exact ⟨k + 1, by omega, by go_num, by rw [HF.out], HR⟩
        case measure => simp [intOf]; omega
      · have HF : Hid (flag L (k + 1) = true) := Lib.hid (by rw [HFL.out]; rfl)
        have HR : Hid (∃ G', PI w1 L t.length (k + 1) (.slice pp G.length cap) G' wr) := Lib.hid ⟨G, hrow, hbw, by rw [HALL.out, keeps, if_pos (by decide)], by omega, HSHO.out⟩
        clear HALL HFL hrow hbw
        generalize ofL [46] = E at *
        go_wp2_with fail
        go_roundw
        case rel => exact ⟨k + 1, by omega, by go_num, by rw [HF.out], HR⟩
        case measure => simp [intOf]; omega
      · have HF : Hid (flag L (k + 1) = true) := Lib.hid (by rw [HFL.out]; rfl)
        by_cases hG : G = []
        · have HNO : Hid (keeps [] L = none) := Lib.hid (by rw [HALL.out, keeps_up (by decide) (by decide), hG]; rfl)
          have hgl : ((G.length : Int) == 0) = true := by rw [hG]; rfl
          have HB : Hid (Below w.heap.size w wr) := Lib.hid (below_chain HBW.out hbw)
          clear HALL HFL hrow hbw
          generalize ofL [46, 46] = E at *
          go_wp2_with fail
          go_ret2
          refine ⟨ret_norm2 ?_ ?_, HB.out⟩
          · unfold resS; rw [HNO.out]
          · unfold resE; rw [HNO.out]; rfl
        · have hgl : ((G.length : Int) == 0) = false := beq_eq_false_iff_ne.2 (fun h => hG (List.length_eq_zero_iff.1 (by omega)))
          have hg0 : 1 ≤ G.length := by
            cases G with
            | nil => exact absurd rfl hG
            | cons => simp
          have hcutr := row_cut hrow (m := G.length - 1) (by omega)
          have hstr : (Texts.strs G).take (G.length - 1) = Texts.strs G.dropLast := by
            unfold Texts.strs
            rw [← List.map_take, List.dropLast_eq_take]
          rw [hstr] at hcutr
          have HR : Hid (∃ G', PI w1 L t.length (k + 1) (.slice pp (G.length - 1) cap) G' wr) := Lib.hid ⟨G.dropLast, by rw [List.length_dropLast]; exact hcutr, hbw, by rw [HALL.out, keeps_up (by decide) (by decide), if_neg (by simpa using hG)], by rw [List.length_dropLast]; omega, fun e he => HSHO.out e ((List.dropLast_sublist G).subset he)⟩
          clear HALL HFL hrow hbw hcutr hstr hG
          generalize ofL [46, 46] = E at *
          go_wp2_with fail
          go_roundw
          case rel => exact ⟨k + 1, by omega, by go_num, by rw [HF.out], HR⟩
          case measure => simp [intOf]; omega
      · have HF : Hid (flag L (k + 1) = false) := Lib.hid (by rw [HFL.out, hd, hu]; rfl)
        have HR : Hid (∀ v' w3, w3.ownsRow w1.heap.size 9 1 v' (G.length + 1) (Texts.strs G ++ [.string (ofL X)]) → Below w1.heap.size w1 w3 → ∃ G', PI w1 L t.length (k + 1) v' G' w3) := Lib.hid (fun v' w3 h1 h2 => ⟨G ++ [X], by rw [List.length_append, Texts.strs_append]; exact h1, h2, by rw [HALL.out, keeps_in hd hu], by rw [List.length_append]; simp; omega, fun e he => by
          rw [List.mem_append, List.mem_singleton] at he
          rcases he with he | rfl
          · exact HSHO.out e he
          · exact hXs⟩)
        have hd1 : (ofL X).toList.isEmpty = false ∧ ((ofL X).toList == [46]) = false := by
          rw [hET]
          unfold isDot at hd
          rw [Bool.or_eq_false_iff] at hd
          exact hd
        have hu1 : ((ofL X).toList == [46, 46]) = false := by
          rw [hET]
          exact hu
        have hne : ¬ (ofL X).toList = [] := fun h => by rw [h] at hd1; exact absurd hd1.1 (by decide)
        obtain ⟨hd1, hd2⟩ := hd1
        have hG9 : G.length ≤ 4194305 := by omega
        clear HALL HFL hd hu hET
        generalize ofL X = E at *
        go_wp2_with (at_builtin; refine wpList_append_own _ rfl _ _ 37 rfl w1.heap.size 9 i0 (.string ByteArray.empty) 1 16 Tryd.underlying37 hi hz0 hz1 hz2 rfl (by decide) _ _ _ rfl (hrow.alloc _) ⟨wr.heap.size, 0, none⟩ 1 1 [.string E] rfl rfl (cell_one_new _ _ _) (fun x hx => by simp at hx; subst hx; rfl) (by unfold maxLen; omega) (by omega) (by simp; omega) ?_; intro v' w3 hown' hgrow3 hnil3)
        have HR2 := Lib.hid (HR.out v' w3 hown' (Below.grown (hbw.alloc (by omega) _) hgrow3 (by simp; omega) (fun j hj => (hrow.lt _ hj).1)))
        clear hown' hgrow3 hnil3 HR hrow hbw
        go_wp2_with fail
        go_roundw
        case rel => exact ⟨k + 1, by omega, by go_num, by rw [HF.out], HR2⟩
        case measure => simp [intOf]; omega
    · have hkeep : keeps [] L = some G := by
        rw [I.all_, List.drop_of_length_le (by omega)]
        rfl
      have hkl : k = L.length := by omega
      subst hkl
      have HFA : Hid (flag L L.length = endsOpen L) := Lib.hid (flag_all HNE.out)
      have hjl := join_len I.short
      have hJ : (join G).length ≤ 17592202821632 := by
        have h1 : G.length * (t.length + 1) ≤ 4194305 * 4194305 := Nat.mul_le_mul (by omega) (by omega)
        omega
      have HJ := Lib.hid (fun (w2 : World) (h : w2.ownsRow w1.heap.size 9 1 (.slice pp G.length cap) G.length (Texts.strs G)) => lib_join h (by omega) (by omega))
      have HB : Hid (Below w.heap.size w wr) := Lib.hid (below_chain HBW.out hbw)
      have HRW := Lib.hid hrow
      have hsz : (ofL ((join G).drop 1)).size ≤ 17592202821632 := by rw [ofL_size, List.length_drop]; omega
      have HS1 : Hid (resS L = ofL (finish G L)) := Lib.hid (by unfold resS; rw [hkeep])
      have HS2 : Hid (resE L = 0) := Lib.hid (by unfold resE; rw [hkeep]; rfl)
      clear I hkeep hjl hrow hbw
      have hGl : G.length ≤ 4194305 := by omega
      by_cases hG : G = []
      · have hgl : ¬ (0 : Int) < (G.length : Int) := by rw [hG]; simp
        have HF1 : Hid (ofL (finish G L) = ⟨#[47]⟩ ++ ofL ((join G).drop 1)) := Lib.hid (by rw [hG]; rfl)
        rw [HFA.out]
        cases endsOpen L
        all_goals
          clear HFA hG hJ
          generalize ofL ((join G).drop 1) = E at *
          go_wp2_with fail
          refine (HJ.out _ HRW.out).mono ?_
          rintro e w2 ⟨rfl, hb2⟩
          have HB2 := Lib.hid (below_chain HB.out hb2)
          clear hb2 HJ HRW
          go_wp2_with fail
          go_ret2
          exact ⟨ret_norm2 (by rw [HS1.out, HF1.out]) HS2.out.symm, HB2.out⟩
      · have hg0 : 1 ≤ G.length := by
          cases G with
          | nil => exact absurd rfl hG
          | cons => simp
        have hgl : (0 : Int) < (G.length : Int) := by omega
        have hJJ : join G = 47 :: (join G).drop 1 := by
          cases G with
          | nil => exact absurd rfl hG
          | cons x r => simp [join]
        have HF1 : Hid (ofL (finish G L) = if endsOpen L then ⟨#[47]⟩ ++ ofL ((join G).drop 1) ++ ⟨#[47]⟩ else ⟨#[47]⟩ ++ ofL ((join G).drop 1)) := Lib.hid (by
          have he : G.isEmpty = false := by simpa using hG
          refine toL_inj ?_
          unfold finish
          rw [he, Bool.false_or]
          cases endsOpen L
          · simp only [Bool.false_eq_true, if_false, toL_append, toL_ofL]
            exact hJJ
          · simp only [if_true, toL_append, toL_ofL]
            conv => lhs; rw [hJJ]
            rfl)
        have hE2 : (ByteArray.mk #[47] ++ ofL ((join G).drop 1)).size ≤ 17592202821640 := by
          rw [ByteArray.size_append]
          have : (ByteArray.mk #[47]).size = 1 := rfl
          omega
        rw [HFA.out]
        cases ho : endsOpen L
        all_goals
          rw [ho] at HF1
          clear HFA hG hJ ho hJJ
          generalize ofL ((join G).drop 1) = E at *
          go_wp2_with fail
          refine (HJ.out _ HRW.out).mono ?_
          rintro e w2 ⟨rfl, hb2⟩
          have HB2 := Lib.hid (below_chain HB.out hb2)
          clear hb2 HJ HRW
          go_wp2_with fail
          go_ret2
          exact ⟨ret_norm2 (by rw [HS1.out, HF1.out]; rfl) HS2.out.symm, HB2.out⟩
end Go.Proofs.YtlhpjinajaociaaDoor.PResolved
