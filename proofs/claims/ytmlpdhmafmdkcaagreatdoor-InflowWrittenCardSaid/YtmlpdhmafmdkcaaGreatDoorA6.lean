/- Texts of this seat, one behind another: LexFlat, R7Has, PHas7, PUp11, PStat11, PFrCh, PFrRef, PFrHas, Held, FrBox, PFrEnc, PFrLens, PFrSized, PFrReq, PKeep9. -/
import Derived.Laws.EntriesVeiled
import Derived.Handy
import Derived.Deep.QuietTactic
import Derived.BigQuiet
import Derived.Lib.Hide
import Derived.Deep.RegionHeld3
import Derived.BigRegion
import Derived.Test.YtmlpdhmafmdkcaaGreatDoorA1
import Derived.Test.YtmlpdhmafmdkcaaGreatDoorA5
import Derived.Test.YtmlpdhmafmdkcaaGreatDoorA3
import Derived.Test.YtmlpdhmafmdkcaaGreatDoorA2
import Derived.Test.YtmlpdhmafmdkcaaGreatDoorA4
/- Elements joined again. No program is named. -/
namespace Go.Proofs.YtmlpdhmafmdkcaaGreatDoor.LexFlat
open LexPure Bytes LexList
/-- one element, dressed -/
def dress (e : List UInt8) : List UInt8 := [32, 44] ++ e ++ [9, 44]
def flat (G : List (List UInt8)) : List UInt8 := G.flatMap dress
theorem flat_snoc (G : List (List UInt8)) (e : List UInt8) : flat (G ++ [e]) = flat G ++ dress e := by simp [flat]
theorem trim_blank {e : List UInt8} (h : trim e = e) (hne : e.isEmpty = false) : trim (e ++ [9]) = e := by
  have h1 : ∀ c r, e = c :: r → blankB c = false := fun c r he => trim_head (s := e) c r (by rw [h]; exact he)
  have h2 : ∀ c r, e.reverse = c :: r → blankB c = false := fun c r he => trim_last (s := e) c r (by rw [h]; exact he)
  unfold trim
  have e1 : (e ++ [9]).dropWhile blankB = e ++ [9] := dropWhile_id (fun c r he => by
    cases e with
    | nil => simp at hne
    | cons d t => simp only [List.cons_append, List.cons.injEq] at he; rw [← he.1]; exact h1 d t rfl)
  rw [e1, List.reverse_append, List.reverse_singleton, List.singleton_append, List.dropWhile_cons, if_pos (by decide), dropWhile_id h2, List.reverse_reverse]
theorem elements_dress {e r : List UInt8} (h : trim e = e) (hne : e.isEmpty = false) (hc : noComma e = true) : elements (dress e ++ r) = e :: elements r := by
  have e1 : dress e ++ r = [32] ++ 44 :: ((e ++ [9]) ++ 44 :: r) := by simp [dress]
  have hc2 : noComma (e ++ [9]) = true := noComma_snoc hc (by decide)
  rw [e1, elements_cut (p := [32]) (by decide), elements_cut hc2]
  have o1 : one [32] = [] := by decide
  have o2 : one (e ++ [9]) = [e] := by unfold one; rw [trim_blank h hne, hne]; rfl
  rw [o1, o2]
  rfl
theorem elements_flat : ∀ {G : List (List UInt8)}, (∀ e ∈ G, e.isEmpty = false ∧ trim e = e ∧ noComma e = true) → elements (flat G) = G
  | [], _ => by decide
  | e :: G, h => by
    have h0 := h e (by simp)
    show elements (dress e ++ flat G) = _
    rw [elements_dress h0.2.1 h0.1 h0.2.2, elements_flat (fun x hx => h x (by simp [hx]))]
theorem pieces_count : ∀ s : List UInt8, (pieces s).length ≤ s.length + 1
  | [] => by simp [pieces]
  | c :: s => by
    have := pieces_count s
    rw [pieces]
    split
    · simp; omega
    · split
      · simp
      · rename_i p ps hp
        rw [hp] at this
        simp at this ⊢
        omega
theorem pieces_short : ∀ {s p : List UInt8}, p ∈ pieces s → p.length ≤ s.length
  | [], p, h => by
    simp only [pieces, List.mem_singleton] at h
    subst h
    simp
  | c :: s, p, h => by
    rw [pieces] at h
    split at h
    · rw [List.mem_cons] at h
      rcases h with rfl | h
      · simp
      · have := pieces_short h
        simp
        omega
    · split at h
      · rw [List.mem_singleton] at h
        subst h
        simp
      · rename_i q qs hp
        rw [List.mem_cons] at h
        rcases h with rfl | h
        · have := pieces_short (s := s) (p := q) (by rw [hp]; simp)
          simp
          omega
        · have := pieces_short (s := s) (p := p) (by rw [hp]; simp [h])
          simp
          omega
theorem elements_count (s : List UInt8) : (elements s).length ≤ s.length + 1 := by
  have h1 := List.length_filter_le (fun e : List UInt8 => !e.isEmpty) ((pieces s).map trim)
  rw [List.length_map] at h1
  have := pieces_count s
  unfold elements
  omega
theorem elements_short {s e : List UInt8} (h : e ∈ elements s) : e.length ≤ s.length := by
  unfold elements at h
  rw [List.mem_filter, List.mem_map] at h
  obtain ⟨⟨p, hp, rfl⟩, _⟩ := h
  have h1 := trim_length p
  have h2 := pieces_short hp
  omega
theorem flat_length {n : Nat} : ∀ {G : List (List UInt8)}, (∀ e ∈ G, e.length ≤ n) → (flat G).length ≤ G.length * (n + 4)
  | [], _ => by simp [flat]
  | e :: G, h => by
    have h0 := h e (by simp)
    have h1 := flat_length (G := G) (fun x hx => h x (by simp [hx]))
    show (dress e ++ flat G).length ≤ _
    rw [List.length_append, List.length_cons, Nat.add_mul, Nat.one_mul]
    have : (dress e).length = e.length + 4 := by simp [dress]
    omega
theorem pieces_total : ∀ s : List UInt8, (pieces s).flatten.length ≤ s.length
  | [] => by simp [pieces]
  | c :: s => by
    have := pieces_total s
    rw [pieces]
    split
    · simp at this ⊢; omega
    · split
      · simp
      · rename_i p ps hp
        rw [hp] at this
        simp at this ⊢
        omega
theorem flat_total : ∀ L : List (List UInt8), (flat ((L.map trim).filter (fun e => !e.isEmpty))).length ≤ L.flatten.length + 4 * L.length
  | [] => by simp [flat]
  | p :: L => by
    have ih := flat_total L
    have ht := trim_length p
    rw [List.map_cons, List.filter_cons]
    split
    · show (dress (trim p) ++ flat _).length ≤ _
      rw [List.length_append]
      have : (dress (trim p)).length = (trim p).length + 4 := by simp [dress]
      simp only [List.flatten_cons, List.length_append, List.length_cons]
      omega
    · simp only [List.flatten_cons, List.length_append, List.length_cons]
      omega
theorem elements_total (s : List UInt8) : (flat (elements s)).length ≤ 5 * s.length + 4 := by
  have h1 := flat_total (pieces s)
  have h2 := pieces_total s
  have h3 := pieces_count s
  unfold elements
  omega
theorem flat_take (G : List (List UInt8)) (k : Nat) : (flat (G.take k)).length ≤ (flat G).length := by
  have h : flat G = flat (G.take k) ++ flat (G.drop k) := by
    unfold flat
    rw [← List.flatMap_append, List.take_append_drop]
  rw [h, List.length_append]
  omega
end Go.Proofs.YtmlpdhmafmdkcaaGreatDoor.LexFlat

/- Layer 7, the document's own Has. -/
namespace Go.Proofs.YtmlpdhmafmdkcaaGreatDoor.R7Has
open Go.ChangeShapes Go.WideShapes Go.ChangeAt Go.RowKit LexPure Bytes Ret Rows1 Texts FieldsPure Flds RAlike7 R7Get KeptRow R7Elements LexFlat Mem
set_option maxRecDepth 20000
theorem elems_short (G : List HField) (n : List UInt8) (hG : Few G) : ∀ (j : Nat) (h : j < (elems G n).length), (elems G n)[j].length ≤ 1048576 := by
  intro j h
  have hm := List.getElem_mem h
  unfold elems at hm
  obtain ⟨f, hf, he⟩ := List.mem_flatMap.1 hm
  obtain ⟨i, hi, rfl⟩ := List.mem_iff_getElem.1 (List.mem_filter.1 hf).1
  exact Nat.le_trans (elements_short he) (hG i hi).2
end Go.Proofs.YtmlpdhmafmdkcaaGreatDoor.R7Has

/- Layer 7 of the program: Has. -/
namespace Go.Proofs.YtmlpdhmafmdkcaaGreatDoor.PHas7
open Go.ChangeShapes Go.WideShapes Go.ChangeAt Go.RowKit LexPure Bytes Ret Rows1 Texts FieldsPure Flds R7Get KeptRow R7Elements PAlike PLib PElements PVals PGet PElems7 LexFlat Mem Go.Shelf
set_option maxRecDepth 100000
attribute [local go_sem] Oper.semAt_some
set_option maxHeartbeats 1600000 in
theorem phas1_any (a x : ByteArray) (ha : a.size ≤ maxLen) (bx : Nat) (w : World) (hx : w.cell? ⟨bx, 0, none⟩ = some (.string x)) :
    Calls Tryz.prog 79 #[.string a, .pointer (some ⟨bx, 0, none⟩)] w fun e w' => e = .returned (.bool (alike (toL a) (toL x))) ∧ Below w.heap.size w w' := by
  have HA := Lib.hid (fun w => palike_any a x ha w)
  go_enter Tryz.func79, Tryz.ntmps79
  go_wp2_with fail
  refine (HA.out _).mono ?_
  rintro e w2 ⟨rfl, hb2⟩
  have HB := Lib.hid hb2
  clear hb2 hx
  go_wp2_with fail
  go_ret
  exact ⟨rfl, HB.out⟩
def anyV (l : List V) (x : List UInt8) : Bool := l.any (fun v => (elements v.1).any (fun e => alike e x))
theorem anyV_snoc (pre : List V) (v : V) (x : List UInt8) : anyV (pre ++ [v]) x = (anyV pre x || (elements v.1).any (fun e => alike e x)) := by simp [anyV]
theorem anyV_elems (l : List V) (x : List UInt8) : anyV l x = (elemsV l).any (fun e => alike e x) := by
  unfold anyV elemsV
  rw [List.any_flatMap]
theorem anyV_prefix {pre l : List V} {x : List UInt8} (h : pre <+: l) (ha : anyV pre x = true) : anyV l x = true := by
  obtain ⟨r, rfl⟩ := h
  unfold anyV at *
  rw [List.any_append, ha]
  rfl
theorem elements_few (s : List UInt8) (h : s.length ≤ 1048576) : (elements s).length ≤ 1048577 := by have := elements_len s; omega
theorem grown_row {w w' : World} (h : Below w.heap.size w w') (row : Option Nat) : w.grownBy w' row := ⟨h.os, h.tape, h.output, h.size, fun k hk _ => h.block k hk⟩
theorem Boxed.low {W W' : World} {B : Nat} {t : TypeId} {v : Value} (h : Boxed W B t v) (hb : Below W.heap.size W W') : Boxed W' B t v := h.kept (grown_row hb none) (by simp)
set_option maxHeartbeats 3200000 in
theorem phas_any (v : Value) (G : List HField) (nm x : ByteArray) (hG : Few G) (w : World) (hm : MaxInt w) (hF : FL w v G) :
    Calls Tryz.prog 60 #[v, .string nm, .string x] w fun e w' => e = .returned (.bool (hasE G (toL nm) (toL x))) ∧ Below w.heap.size w w' := by
  have HV : Hid (hasE G (toL nm) (toL x) = anyV (vs G (toL nm)) (toL x)) := Lib.hid (by rw [anyV_elems, elemsV_vs G (fun f hf => (few_all hG f hf).2) (toL nm)]; rfl)
  obtain ⟨p, cap, hvv, hle, _⟩ := id hF
  subst hvv
  have HF := Lib.hid hF
  have HG := Lib.hid hG
  have HM := Lib.hid hm
  clear hF hG hm
  refine (callsIn_wide (n := 3)).1 ?_
  refine callsIn_of_wp_marks Tryz.func60 rfl trivial ?_ rfl
  simp only [Tryz.ntmps60, List.size_toArray, List.length_cons, List.length_nil, Nat.reduceAdd, Nat.reduceSub, Array.replicate_succ, Array.replicate_zero, List.push_toArray, List.append_toArray, List.nil_append, List.cons_append]
  gi_wp2_with fail
  refine ⟨trivial, ?_⟩
  refine (callsIn_wide.2 (pvalues_any _ _ _ nm _)).mono ?_
  rintro e w' ⟨rfl, rfl⟩
  gi_wp2
  have bE := ((((Boxed.new w 9 (.string x)).alloc (.cells #[.bool false] 4)).alloc (.cells #[.func (.func 79) #[] #[.pointer (some ⟨w.heap.size, 0, none⟩)]] 38)).alloc (.cells #[.slice p G.length cap] 29)).alloc (.cells #[.string nm] 9)
  have bR := (((Boxed.new (w.alloc (.cells #[.string x] 9)) 4 (.bool false)).alloc (.cells #[.func (.func 79) #[] #[.pointer (some ⟨w.heap.size, 0, none⟩)]] 38)).alloc (.cells #[.slice p G.length cap] 29)).alloc (.cells #[.string nm] 9)
  have bF := ((Boxed.new ((w.alloc (.cells #[.string x] 9)).alloc (.cells #[.bool false] 4)) 38 (.func (.func 79) #[] #[.pointer (some ⟨w.heap.size, 0, none⟩)])).alloc (.cells #[.slice p G.length cap] 29)).alloc (.cells #[.string nm] 9)
  have b2 := (Boxed.new (((w.alloc (.cells #[.string x] 9)).alloc (.cells #[.bool false] 4)).alloc (.cells #[.func (.func 79) #[] #[.pointer (some ⟨w.heap.size, 0, none⟩)]] 38)) 29 (.slice p G.length cap)).alloc (.cells #[.string nm] 9)
  have b3 := Boxed.new ((((w.alloc (.cells #[.string x] 9)).alloc (.cells #[.bool false] 4)).alloc (.cells #[.func (.func 79) #[] #[.pointer (some ⟨w.heap.size, 0, none⟩)]] 38)).alloc (.cells #[.slice p G.length cap] 29)) 9 (.string nm)
  have hB0 : Below w.heap.size w (((((w.alloc (.cells #[.string x] 9)).alloc (.cells #[.bool false] 4)).alloc (.cells #[.func (.func 79) #[] #[.pointer (some ⟨w.heap.size, 0, none⟩)]] 38)).alloc (.cells #[.slice p G.length cap] 29)).alloc (.cells #[.string nm] 9)) :=
    (((((Below.refl _ w).alloc (Nat.le_refl _) _).alloc (by simp) _).alloc (by simp; omega) _).alloc (by simp; omega) _).alloc (by simp; omega) _
  have hsz : (((((w.alloc (.cells #[.string x] 9)).alloc (.cells #[.bool false] 4)).alloc (.cells #[.func (.func 79) #[] #[.pointer (some ⟨w.heap.size, 0, none⟩)]] 38)).alloc (.cells #[.slice p G.length cap] 29)).alloc (.cells #[.string nm] 9)).heap.size = w.heap.size + 1 + 1 + 1 + 1 + 1 := by simp
  simp only [World.size_alloc] at bR bF b2 b3
  generalize (((((w.alloc (.cells #[.string x] 9)).alloc (.cells #[.bool false] 4)).alloc (.cells #[.func (.func 79) #[] #[.pointer (some ⟨w.heap.size, 0, none⟩)]] 38)).alloc (.cells #[.slice p G.length cap] 29)).alloc (.cells #[.string nm] 9)) = W0 at *
  have hU := (FL.under HF.out).below hB0
  clear HF
  refine wpIn_rangeFunc_ownG rfl (by omega) (gf := 76) (lb := #[.pointer (some ⟨w.heap.size + 1 + 1 + 1, 0, none⟩), .pointer (some ⟨w.heap.size + 1 + 1 + 1 + 1, 0, none⟩)]) rfl trivial (enters_of Tryz.func76 (by kernel_rfl) rfl)
    (vals_stops (3 - 1) (w.heap.size + 1 + 1 + 1) (w.heap.size + 1 + 1 + 1 + 1) w.heap.size G HG.out nm (.slice p G.length cap) W0 b2.lt (by omega) b2.cell b3.cell hU) kp_t (kp_b (by omega) b3.lt) (Below.refl _ _) (fun _ => rfl)
    (fun pre W => anyV pre (toL x) = false ∧ Boxed W w.heap.size 9 (.string x) ∧ Boxed W (w.heap.size + 1) 4 (.bool false) ∧ Boxed W (w.heap.size + 1 + 1) 38 (.func (.func 79) #[] #[.pointer (some ⟨w.heap.size, 0, none⟩)]) ∧ Boxed W (w.heap.size + 1 + 1 + 1 + 1) 9 (.string nm) ∧ Below w.heap.size w W)
    (fun c pre W => (c = .ret ∧ anyV pre (toL x) = true) ∧ Boxed W (w.heap.size + 1) 4 (.bool true) ∧ Below w.heap.size w W)
    (OwnFrom.and (ownFrom_pure _ _) (OwnFrom.and (Own.from (boxed_own _ _ (fun _ => Value.string x)) _) (OwnFrom.and (Own.from (boxed_own _ _ (fun _ => Value.bool false)) _) (OwnFrom.and (Own.from (boxed_own _ _ (fun _ => Value.func (.func 79) #[] #[.pointer (some ⟨w.heap.size, 0, none⟩)])) _) (OwnFrom.and (Own.from (boxed_own _ _ (fun _ => Value.string nm)) _) (ownFrom_below (Nat.le_refl _) (by omega)))))))
    (fun _ => OwnFrom.and (ownFrom_pure _ _) (OwnFrom.and (Own.from (boxed_own _ _ (fun _ => Value.bool true)) _) (ownFrom_below (Nat.le_refl _) (by omega))))
    ⟨rfl, bE, bR, bF, b3, hB0⟩
    (fun y => { tmps := #[.slice p G.length cap, .string nm, .string x, undef, undef, .pointer (some ⟨w.heap.size, 0, none⟩), .pointer (some ⟨w.heap.size + 1, 0, none⟩), .pointer (some ⟨w.heap.size + 1 + 1, 0, none⟩), .string (ofL y.1), .func (.func 79) #[] #[.pointer (some ⟨w.heap.size, 0, none⟩)], .slice p G.length cap, .string nm, .func (.func 76) #[] #[.pointer (some ⟨w.heap.size + 1 + 1 + 1, 0, none⟩), .pointer (some ⟨w.heap.size + 1 + 1 + 1 + 1, 0, none⟩)], .string (ofL y.1), undef, undef, undef, undef], defers := [] }) ?assign ?body ?done ?stop
  case assign =>
    intro l y W K hK
    dsimp only [encV]
    gi_wp2
    exact hK
  case body =>
    rintro l pre y W ⟨ha, hE, hR, hFn, h3, hB⟩ hlt
    clear bE bR bF b2 b3 hU HG HV
    have hmx : Tryz.prog.follows .mixedOrders = true := by kernel_rfl
    have hcf := hFn.cell
    have hEl : Calls Tryz.prog 81 #[.string (ofL y.1)] W.drew fun e w' => ∃ v, e = .returned v ∧ Texts w' v (elements y.1) ∧ Below W.heap.size W w' := by
      have h := pelements_any (ofL y.1) (by rw [ofL_size]; have := y.2; omega) W.drew (HM.out.below (hB.trans ⟨rfl, rfl, rfl, Nat.le_refl _, fun _ _ => rfl⟩))
      rw [toL_ofL] at h
      refine h.mono ?_
      rintro e w' ⟨v, rfl, hr, hb⟩
      exact ⟨v, rfl, texts_of hr, ⟨hb.os, hb.tape, hb.output, hb.size, hb.block⟩⟩
    replace hEl := Lib.hid hEl
    have hCo : ∀ w' v3, Below W.heap.size W w' → Texts w' v3 (elements y.1) → Calls Tryz.prog 80 #[v3, .func (.func 79) #[] #[.pointer (some ⟨w.heap.size, 0, none⟩)]] w' fun e w2 => e = .returned (.bool ((elements y.1).any (fun e => alike e (toL x)))) ∧ Below w'.heap.size w' w2 := fun w' v3 hb hT => by
      have hc := (Boxed.low hE hb).cell
      have hbx := World.block_lt_of_cell? _ _ hc
      exact PFindT.contains_any 79 w.heap.size (enters_of Tryz.func79 (by kernel_rfl) rfl) (fun e => alike e (toL x)) v3 (elements y.1) (by have := elements_few y.1 y.2; omega) w' hT (fun j hj W3 hW3 => by
        have h := phas1_any (ofL (elements y.1)[j]) x (by rw [ofL_size]; have := elements_short (List.getElem_mem hj); have := y.2; unfold maxLen; omega) w.heap.size W3 ((hW3.cell (p := ⟨w.heap.size, 0, none⟩) hbx).trans hc)
        rw [toL_ofL] at h
        exact h)
    replace hCo := Lib.hid hCo
    have hsn := Lib.hid (anyV_snoc pre y (toL x))
    have hfin : ∀ w', Below W.heap.size W w' → KeepsFrom W0.heap.size W w' ∧ Below w.heap.size W w' ∧ Boxed w' w.heap.size 9 (.string x) ∧ Boxed w' (w.heap.size + 1) 4 (.bool false) ∧ Boxed w' (w.heap.size + 1 + 1) 38 (.func (.func 79) #[] #[.pointer (some ⟨w.heap.size, 0, none⟩)]) ∧ Boxed w' (w.heap.size + 1 + 1 + 1 + 1) 9 (.string nm) := fun w' hb =>
      ⟨KeepsFrom.of_grownBy (grown_row hb none) (fun j e => by cases e), hb.mono hB.size, Boxed.low hE hb, Boxed.low hR hb, Boxed.low hFn hb, Boxed.low h3 hb⟩
    replace hfin := Lib.hid hfin
    gi_wp2
    refine wpIn_region_any hmx ?_
    change wpAnyIn _ _ _ _ _ _ _ _ _ (World.drew _)
    refine wpAnyIn_ready (rs := [0, 2]) (by kernel_rfl) (by simp) (AllReadyIn.cons rfl (fun K hK => ?_) (AllReadyIn.cons rfl (fun K hK => ?_) AllReadyIn.nil))
    · go_simp
      refine hK _ _ ?_
      clear hK K
      refine wpAnyIn_ready (rs := [1, 2]) (by kernel_rfl) (by simp) (AllReadyIn.cons rfl (fun K hK => ?_) (AllReadyIn.cons rfl (fun K hK => ?_) AllReadyIn.nil))
      · go_simp
        refine ⟨trivial, ?_⟩
        refine (CallsIn.inRound l (callsIn_wide.2 hEl.out)).mono ?_
        rintro e w' ⟨v3, rfl, hT3, hb3⟩
        refine hK _ _ ?_
        clear hK K
        have hcf3 := (Boxed.low hFn hb3).cell
        have hCo3 := Lib.hid (hCo.out w' v3 hb3 hT3)
        obtain ⟨p3, cap3, rfl, _⟩ := hT3
        refine wpAnyIn_ready (rs := [2]) (by kernel_rfl) (by simp) (AllReadyIn.cons rfl (fun K hK => ?_) AllReadyIn.nil)
        go_simp
        refine hK _ _ ?_
        clear hK K
        refine wpAnyIn_ready (rs := [3]) (by kernel_rfl) (by simp) (AllReadyIn.cons rfl (fun K hK => ?_) AllReadyIn.nil)
        go_simp
        refine ⟨trivial, ?_⟩
        refine (CallsIn.inRound l (callsIn_wide.2 hCo3.out)).mono ?_
        rintro e w6 ⟨rfl, hb6⟩
        refine hK _ _ ?_
        clear hK K
        have hb7 := below_chain hb3 hb6
        have HR := Lib.hid (hfin.out w6 hb7)
        have hcr := (hfin.out w6 hb7).2.2.2.1.cell
        have hfr := (hfin.out w6 hb7).2.2.2.1.frozen
        clear hb3 hb6 hcf3 hCo3 hcf hb7 hR hE hFn h3
        refine wpAnyIn_done (by kernel_rfl) ?_ _
        cases hq : (elements y.1).any (fun e => alike e (toL x))
        · rw [hq, ha] at hsn
          gi_wp2
          obtain ⟨r1, r2, r3, r4, r5, r6⟩ := HR.out
          exact ⟨r1, ⟨r2, fun _ => r6.cell⟩, hsn.out, r3, r4, r5, r6, hB.trans r2⟩
        · rw [hq, Bool.or_true] at hsn
          gi_wp2
          obtain ⟨r1, r2, r3, r4, r5, r6⟩ := HR.out
          exact ⟨r1.trans ((KeepsOthers.setCell _ _ _).from _), ⟨rfl, hsn.out⟩, r4.set _, (hB.trans r2).setCell (p := ⟨w.heap.size + 1, 0, none⟩) (by simp) _⟩
      · go_simp
        refine hK _ _ ?_
        clear hK K
        refine wpAnyIn_ready (rs := [1]) (by kernel_rfl) (by simp) (AllReadyIn.cons rfl (fun K hK => ?_) AllReadyIn.nil)
        go_simp
        refine ⟨trivial, ?_⟩
        refine (CallsIn.inRound l (callsIn_wide.2 hEl.out)).mono ?_
        rintro e w' ⟨v3, rfl, hT3, hb3⟩
        refine hK _ _ ?_
        clear hK K
        have hcf3 := (Boxed.low hFn hb3).cell
        have hCo3 := Lib.hid (hCo.out w' v3 hb3 hT3)
        obtain ⟨p3, cap3, rfl, _⟩ := hT3
        refine wpAnyIn_ready (rs := [3]) (by kernel_rfl) (by simp) (AllReadyIn.cons rfl (fun K hK => ?_) AllReadyIn.nil)
        go_simp
        refine ⟨trivial, ?_⟩
        refine (CallsIn.inRound l (callsIn_wide.2 hCo3.out)).mono ?_
        rintro e w6 ⟨rfl, hb6⟩
        refine hK _ _ ?_
        clear hK K
        have hb7 := below_chain hb3 hb6
        have HR := Lib.hid (hfin.out w6 hb7)
        have hcr := (hfin.out w6 hb7).2.2.2.1.cell
        have hfr := (hfin.out w6 hb7).2.2.2.1.frozen
        clear hb3 hb6 hcf3 hCo3 hcf hb7 hR hE hFn h3
        refine wpAnyIn_done (by kernel_rfl) ?_ _
        cases hq : (elements y.1).any (fun e => alike e (toL x))
        · rw [hq, ha] at hsn
          gi_wp2
          obtain ⟨r1, r2, r3, r4, r5, r6⟩ := HR.out
          exact ⟨r1, ⟨r2, fun _ => r6.cell⟩, hsn.out, r3, r4, r5, r6, hB.trans r2⟩
        · rw [hq, Bool.or_true] at hsn
          gi_wp2
          obtain ⟨r1, r2, r3, r4, r5, r6⟩ := HR.out
          exact ⟨r1.trans ((KeepsOthers.setCell _ _ _).from _), ⟨rfl, hsn.out⟩, r4.set _, (hB.trans r2).setCell (p := ⟨w.heap.size + 1, 0, none⟩) (by simp) _⟩
    · go_simp
      refine hK _ _ ?_
      clear hK K
      refine wpAnyIn_ready (rs := [0]) (by kernel_rfl) (by simp) (AllReadyIn.cons rfl (fun K hK => ?_) AllReadyIn.nil)
      go_simp
      refine hK _ _ ?_
      clear hK K
      refine wpAnyIn_ready (rs := [1]) (by kernel_rfl) (by simp) (AllReadyIn.cons rfl (fun K hK => ?_) AllReadyIn.nil)
      go_simp
      refine ⟨trivial, ?_⟩
      refine (CallsIn.inRound l (callsIn_wide.2 hEl.out)).mono ?_
      rintro e w' ⟨v3, rfl, hT3, hb3⟩
      refine hK _ _ ?_
      clear hK K
      have hcf3 := (Boxed.low hFn hb3).cell
      have hCo3 := Lib.hid (hCo.out w' v3 hb3 hT3)
      obtain ⟨p3, cap3, rfl, _⟩ := hT3
      refine wpAnyIn_ready (rs := [3]) (by kernel_rfl) (by simp) (AllReadyIn.cons rfl (fun K hK => ?_) AllReadyIn.nil)
      go_simp
      refine ⟨trivial, ?_⟩
      refine (CallsIn.inRound l (callsIn_wide.2 hCo3.out)).mono ?_
      rintro e w6 ⟨rfl, hb6⟩
      refine hK _ _ ?_
      clear hK K
      have hb7 := below_chain hb3 hb6
      have HR := Lib.hid (hfin.out w6 hb7)
      have hcr := (hfin.out w6 hb7).2.2.2.1.cell
      have hfr := (hfin.out w6 hb7).2.2.2.1.frozen
      clear hb3 hb6 hcf3 hCo3 hcf hb7 hR hE hFn h3
      refine wpAnyIn_done (by kernel_rfl) ?_ _
      cases hq : (elements y.1).any (fun e => alike e (toL x))
      · rw [hq, ha] at hsn
        gi_wp2
        obtain ⟨r1, r2, r3, r4, r5, r6⟩ := HR.out
        exact ⟨r1, ⟨r2, fun _ => r6.cell⟩, hsn.out, r3, r4, r5, r6, hB.trans r2⟩
      · rw [hq, Bool.or_true] at hsn
        gi_wp2
        obtain ⟨r1, r2, r3, r4, r5, r6⟩ := HR.out
        exact ⟨r1.trans ((KeepsOthers.setCell _ _ _).from _), ⟨rfl, hsn.out⟩, r4.set _, (hB.trans r2).setCell (p := ⟨w.heap.size + 1, 0, none⟩) (by simp) _⟩
  case done =>
    rintro D ys W hD rfl ⟨ha, hE, hR, hFn, h3, hB⟩ hK
    have hcr := hR.cell
    have hfr := hR.frozen
    clear bE bR bF b2 b3 hU HG
    gi_wp2
    have hK' := (KeepsOthers.setCell W ⟨w.heap.size + 1, 0, none⟩ (.bool false)).same D _ hK rfl
    have hBd : Below w.heap.size w (W.setCell ⟨w.heap.size + 1, 0, none⟩ (.bool false)) := hB.setCell (p := ⟨w.heap.size + 1, 0, none⟩) (by simp) _
    refine ⟨by simp, .inl ⟨_, _, rfl, run_takeDeferred hK', ?_⟩⟩
    have hc5 := cell_kept (hR.set (.bool false)).cell (grownBy_putObj' _ D (.deferred none)) (fun r e => by cases e; exact ⟨_, hK', rfl⟩)
    refine ⟨.bool false, ?_, by rw [HV.out, ha], hBd.trans (belowK_b (w := w) (Nat.le_refl _) _ D _ _ (by omega) hK' rfl rfl)⟩
    simp [results, Tryz.f60, go_sem, hc5]
  case stop =>
    rintro D c pre W hD hSp ⟨⟨rfl, ha⟩, hR, hB⟩ hK
    have hfull := anyV_prefix hSp ha
    clear bE bR bF b2 b3 hU HG
    gi_wp2
    refine ⟨by simp, .inl ⟨_, _, rfl, run_takeDeferred hK, ?_⟩⟩
    have hc5 := cell_kept hR.cell (grownBy_putObj' _ D (.deferred none)) (fun r e => by cases e; exact ⟨_, hK, rfl⟩)
    refine ⟨.bool true, ?_, by rw [HV.out, hfull], hB.trans (belowK_b (w := w) (Nat.le_refl _) W D _ _ (by omega) hK rfl rfl)⟩
    simp [results, Tryz.f60, go_sem, hc5]
end Go.Proofs.YtmlpdhmafmdkcaaGreatDoor.PHas7

/- Layer 11 of the program: upgradeOf. -/
namespace Go.Proofs.YtmlpdhmafmdkcaaGreatDoor.PUp11
open Go.ChangeShapes Go.WideShapes Go.ChangeAt Go.RowKit LexPure Bytes Ret Rows1 Texts FieldsPure Flds HeadPure HBox TargetPure InflowPure InJudge R7Has PElems7 PHas7 PLower PLib Mem
set_option maxRecDepth 20000
theorem ret_s {a b : ByteArray} (h : a = b) : Ending.returned (.string a) = .returned (.string b) := by rw [h]
theorem text_at (m : ByteArray) (l : List UInt8) : (m.toList == l) = decide (toL m = l) := by
  rw [ByteArray.toList_eq, show m.data.toList = toL m from rfl]
  by_cases h : toL m = l
  · rw [decide_eq_true h, h]; exact beq_self_eq_true _
  · rw [decide_eq_false h]; exact beq_eq_false_iff_ne.2 h
def aCONN : List UInt8 := [67, 111, 110, 110, 101, 99, 116, 105, 111, 110]
theorem low_cn : lower aCONN = lower CONNECTION := by decide
set_option maxHeartbeats 3200000 in
theorem pup11_any (h : H8) (v : Value) (hmin : 0 ≤ h.minor) (hG : Few h.fields) (hle : h.fields.length ≤ 1048576) (w : World) (hF : FL w v h.fields) (hm : MaxInt w) :
    Calls Tryz.prog 40 #[hv h v] w fun e w' => e = .returned (.string (ofL (up11 h 1))) ∧ Below w.heap.size w w' := by
  have hb1 := (Below.refl w.heap.size w).alloc (Nat.le_refl _) (.cells (hc h v) 31)
  have B0 : HBox (w.alloc (.cells (hc h v) 31)) w.heap.size h v := ⟨Has.new w _ _⟩
  have hsz : w.heap.size < (w.alloc (.cells (hc h v) 31)).heap.size := by simp
  have HM := Lib.hid (hm.below hb1)
  have HR := Lib.hid (pelems_any v h.fields ⟨#[85, 112, 103, 114, 97, 100, 101]⟩ hG hle _ HM.out (hF.below hb1))
  rw [show toL ⟨#[85, 112, 103, 114, 97, 100, 101]⟩ = aUPG from rfl, FrNames.elems_same low_u] at HR
  have HH := Lib.hid (fun w hm hF => phas_any v h.fields ⟨#[67, 111, 110, 110, 101, 99, 116, 105, 111, 110]⟩ ⟨#[117, 112, 103, 114, 97, 100, 101]⟩ hG w hm hF)
  rw [show toL ⟨#[117, 112, 103, 114, 97, 100, 101]⟩ = UPG from rfl, show toL ⟨#[67, 111, 110, 110, 101, 99, 116, 105, 111, 110]⟩ = aCONN from rfl, FrNames.hasE_same low_cn] at HH
  have hS := Lib.hid (elems_short h.fields UPG hG)
  obtain ⟨X, hX⟩ : ∃ X, X = up11 h 1 := ⟨_, rfl⟩
  rw [← hX]
  unfold up11 at hX
  have hF1 := Lib.hid (hF.below hb1)
  generalize elems h.fields UPG = E at *
  generalize hasE h.fields CONNECTION UPG = b at *
  have tm : ((ofL h.method).toList == [71, 69, 84]) = decide (h.method = GET) := by
    rw [text_at, toL_ofL]
    rfl
  unfold hc at hb1 B0 hsz HR hF1 HM
  unfold hv
  replace hb1 := Lib.hid hb1
  replace B0 := Lib.hid B0
  clear hF hm
  go_enter Tryz.func40, Tryz.ntmps40
  go_wp2_with fail
  generalize w.alloc (.cells #[.string (ofL h.method), .string (ofL h.target), .int .i64 h.status, .string (ofL h.reason), .int .i64 h.minor, v] 31) = W at *
  refine HR.out.mono ?_
  rintro e w2 ⟨v2, rfl, hrow, hb2⟩
  obtain ⟨p, cap, rfl, hle2, hcl⟩ := texts_of hrow
  replace hcl := Lib.hid hcl
  have hF2 := Lib.hid (hF1.out.below hb2)
  have HM2 := Lib.hid (HM.out.below hb2)
  have B2 := Lib.hid (B0.out.below hb2 hsz)
  have HB := Lib.hid (below_chain hb1.out hb2)
  obtain ⟨d0, d1, d2, d3, d4, d5⟩ := B2.out.cells
  clear HR hrow hb2 hb1 B0 B2 hF1 hsz HM
  rcases (show (¬ (h.method = GET ∧ 0 < h.minor ∧ E.length = 1) ∧ X = []) ∨ (h.method = GET ∧ 0 < h.minor ∧ (∃ x, E = [x] ∧ X = if b = true then lower x else [])) by
    by_cases c : h.method = GET ∧ 0 < h.minor ∧ E.length = 1
    · right
      obtain ⟨x, hx⟩ := List.length_eq_one_iff.1 c.2.2
      refine ⟨c.1, c.2.1, x, hx, ?_⟩
      rw [hX, hx]
      cases b
      · rw [if_neg (by rintro ⟨_, _, _, _, h⟩; cases h)]
        rfl
      · rw [if_pos ⟨c.1, c.2.1, by simp, by simp, by simp⟩]
        rfl
    · exact .inl ⟨c, by rw [hX, if_neg (fun x => c ⟨x.1, x.2.1, x.2.2.2.1⟩)]⟩) with ⟨c, hV⟩ | ⟨c1, c2, x, rfl, hV⟩
  · replace hV := Lib.hid hV
    clear hX HH hS hcl hF2 HM2
    by_cases c1 : h.method = GET
    · rw [decide_eq_true c1] at tm
      have tn : ((ofL h.method).toList != [71, 69, 84]) = false := by rw [bne, tm]; rfl
      by_cases c2 : 0 < h.minor
      · have c4 : ((E.length : Int) != 1) = true := bne_iff_ne.2 (fun h => c ⟨c1, c2, by omega⟩)
        have c5 : (h.minor == 0) = false := beq_eq_false_iff_ne.2 (by omega)
        have c4b : ((E.length : Int) == 1) = false := beq_eq_false_iff_ne.2 (fun h => c ⟨c1, c2, by omega⟩)
        clear c c1 c2 hmin
        go_wp2_with fail
        go_ret
        exact ⟨ret_s (by rw [hV.out]; rfl), HB.out⟩
      · have c5 : (h.minor == 0) = true := beq_iff_eq.2 (by omega)
        clear c c1 c2 hmin
        go_wp2_with fail
        go_ret
        exact ⟨ret_s (by rw [hV.out]; rfl), HB.out⟩
    · rw [decide_eq_false c1] at tm
      have tn : ((ofL h.method).toList != [71, 69, 84]) = true := by rw [bne, tm]; rfl
      clear c c1 hmin
      go_wp2_with fail
      go_ret
      exact ⟨ret_s (by rw [hV.out]; rfl), HB.out⟩
  · rw [decide_eq_true c1] at tm
    have tn : ((ofL h.method).toList != [71, 69, 84]) = false := by rw [bne, tm]; rfl
    have c5 : (h.minor == 0) = false := beq_eq_false_iff_ne.2 (by omega)
    obtain ⟨g, o, rfl, hgl, hcell⟩ := hcl.out (Nat.zero_lt_one)
    have cx : w2.cell? ⟨g, o, none⟩ = some (.string (ofL x)) := hcell 0 Nat.zero_lt_one
    have hs1 : x.length ≤ 1048576 := hS.out 0 Nat.zero_lt_one
    have HL := Lib.hid (fun w => plower_any (ofL x) (by rw [ofL_size]; unfold maxLen; omega) w)
    rw [toL_ofL] at HL
    rw [show ([x] : List (List UInt8)).length = 1 from rfl]
    clear hX hcl hcell hS hs1 hle2 c1 c2 hmin
    cases b
    · have HV : Hid (X = []) := Lib.hid hV
      clear hV HL
      go_wp2_with fail
      refine (HH.out _ HM2.out hF2.out).mono ?_
      rintro e w3 ⟨rfl, hb3⟩
      have HB3 := Lib.hid (below_chain HB.out hb3)
      clear HH hb3 HB cx d0 d1 d2 d3 d4 d5
      go_wp2_with fail
      go_ret
      exact ⟨ret_s (by rw [HV.out]; rfl), HB3.out⟩
    · have HV : Hid (X = lower x) := Lib.hid hV
      clear hV
      go_wp2_with fail
      refine (HH.out _ HM2.out hF2.out).mono ?_
      rintro e w3 ⟨rfl, hb3⟩
      have HB3 := Lib.hid (below_chain HB.out hb3)
      replace cx := (hb3.cell (p := ⟨g, o, none⟩) hgl).trans cx
      clear HH hb3 HB d0 d1 d2 d3 d4 d5
      go_wp2_with fail
      refine (HL.out _).mono ?_
      rintro e w4 ⟨rfl, hb4⟩
      have HB4 := Lib.hid (below_chain HB3.out hb4)
      clear HL hb4 HB3 cx
      go_wp2_with fail
      go_ret
      exact ⟨ret_s (by rw [HV.out]), HB4.out⟩
end Go.Proofs.YtmlpdhmafmdkcaaGreatDoor.PUp11

/- Layer 11, of the program: statusOf. -/
namespace Go.Proofs.YtmlpdhmafmdkcaaGreatDoor.PStat11
open Go.ChangeShapes Go.WideShapes Go.ChangeAt Go.RowKit Ret InflowPure
set_option maxRecDepth 20000
theorem ret_int {a b : Int} (h : a = b) : Ending.returned (.int .i64 a) = .returned (.int .i64 b) := by rw [h]
theorem pstatus11_any (e : Int) (w : World) :
    Calls Tryz.prog 20 #[.int .i64 e] w fun r w' => r = .returned (.int .i64 (status11 e)) ∧ w = w' := by
  obtain ⟨X, hX⟩ : ∃ X, X = status11 e := ⟨_, rfl⟩
  rw [← hX]
  unfold status11 at hX
  have q : ∀ k : Int, e ≠ k → (e == k) = false := fun k h => beq_eq_false_iff_ne.2 h
  rcases (show (e = 82 ∧ X = 414) ∨ ((e == 82) = false ∧ e = 83 ∧ X = 431) ∨ ((e == 82) = false ∧ (e == 83) = false ∧ e = 81 ∧ X = 505) ∨ ((e == 82) = false ∧ (e == 83) = false ∧ (e == 81) = false ∧ e = 91 ∧ X = 501) ∨ ((e == 82) = false ∧ (e == 83) = false ∧ (e == 81) = false ∧ (e == 91) = false ∧ e = 101 ∧ X = 413) ∨ ((e == 82) = false ∧ (e == 83) = false ∧ (e == 81) = false ∧ (e == 91) = false ∧ (e == 101) = false ∧ X = 400) by
    by_cases c1 : e = 82
    · exact .inl ⟨c1, by rw [hX, if_pos c1]⟩
    rw [if_neg c1] at hX
    by_cases c2 : e = 83
    · exact .inr (.inl ⟨q _ c1, c2, by rw [hX, if_pos c2]⟩)
    rw [if_neg c2] at hX
    by_cases c3 : e = 81
    · exact .inr (.inr (.inl ⟨q _ c1, q _ c2, c3, by rw [hX, if_pos c3]⟩))
    rw [if_neg c3] at hX
    by_cases c4 : e = 91
    · exact .inr (.inr (.inr (.inl ⟨q _ c1, q _ c2, q _ c3, c4, by rw [hX, if_pos c4]⟩)))
    rw [if_neg c4] at hX
    by_cases c5 : e = 101
    · exact .inr (.inr (.inr (.inr (.inl ⟨q _ c1, q _ c2, q _ c3, q _ c4, c5, by rw [hX, if_pos c5]⟩))))
    rw [if_neg c5] at hX
    exact .inr (.inr (.inr (.inr (.inr ⟨q _ c1, q _ c2, q _ c3, q _ c4, q _ c5, hX⟩))))) with ⟨rfl, hV⟩ | ⟨h1, rfl, hV⟩ | ⟨h1, h2, rfl, hV⟩ | ⟨h1, h2, h3, rfl, hV⟩ | ⟨h1, h2, h3, h4, rfl, hV⟩ | ⟨h1, h2, h3, h4, h5, hV⟩
  all_goals
    replace hV := Lib.hid hV
    clear hX q
    go_enter Tryz.func20, Tryz.ntmps20
    go_wp2_with fail
    go_ret
    exact ⟨ret_int hV.out.symm, rfl⟩
end Go.Proofs.YtmlpdhmafmdkcaaGreatDoor.PStat11

/- Layer 9 of the program: isChunked, refusal. -/
namespace Go.Proofs.YtmlpdhmafmdkcaaGreatDoor.PFrCh
open Go.ChangeShapes Go.WideShapes Go.ChangeAt Go.RowKit LexPure Bytes Ret Rows1 Texts FieldsPure HeadPure FramePure FrNames Flds R7Elements PAlike PLib PElems7 HBox Mem
set_option maxRecDepth 20000
theorem pchunk_any (s : ByteArray) (hs : s.size ≤ maxLen) (w : World) :
    Calls Tryz.prog 77 #[.string s] w fun e w' => e = .returned (.bool (lower (toL s) == CHUNKED)) ∧ Below w.heap.size w w' := by
  have HA := Lib.hid (palike_any s ⟨#[99, 104, 117, 110, 107, 101, 100]⟩ hs w)
  have he : alike (toL s) (toL ⟨#[99, 104, 117, 110, 107, 101, 100]⟩) = (lower (toL s) == CHUNKED) := rfl
  rw [he] at HA
  clear he
  generalize (lower (toL s) == CHUNKED) = b at *
  go_enter Tryz.func77, Tryz.ntmps77
  go_wp2_with fail
  refine HA.out.mono ?_
  rintro e w' ⟨rfl, hb⟩
  have HB := Lib.hid hb
  clear hb HA
  go_wp2_with fail
  go_ret
  exact ⟨rfl, HB.out⟩
/-- what a list of codings is refused with -/
def refN (E : List (List UInt8)) : Int := if codeN E = 2 then 91 else 90
theorem code_say (I : List (List UInt8)) (x : List UInt8) : codeN (I ++ [x]) = if lower x = CHUNKED ∧ I.all (fun y => !(lower y == CHUNKED)) = true then (if I = [] then 1 else 2) else 3 := by
  unfold codeN
  rw [List.reverse_append, List.reverse_singleton, List.singleton_append]
  simp only [List.all_reverse, List.reverse_eq_nil_iff]
theorem ref_bad (E : List (List UInt8)) (k : Nat) (hk : k < E.length) (h : (lower E[k] == CHUNKED) ≠ decide (k + 1 = E.length)) : refN E = 90 := by
  unfold refN
  rcases List.eq_nil_or_concat E with rfl | ⟨I, x, hE⟩
  · cases hk
  · rw [List.concat_eq_append] at hE
    subst hE
    rw [code_say, if_neg]
    intro hc
    by_cases hh : lower x = CHUNKED ∧ I.all (fun y => !(lower y == CHUNKED)) = true
    · have hl : (I ++ [x]).length = I.length + 1 := by simp
      by_cases hx : k = I.length
      · subst hx
        rw [List.getElem_concat_length rfl, hh.1, hl] at h
        simp at h
      · have hlt : k < I.length := by omega
        rw [List.getElem_append_left hlt, hl] at h
        have := List.all_eq_true.1 hh.2 I[k] (List.getElem_mem hlt)
        rw [show decide (k + 1 = I.length + 1) = false from decide_eq_false (by omega)] at h
        cases hq : (lower I[k] == CHUNKED)
        · exact h hq
        · rw [hq] at this
          cases this
    · rw [if_neg hh] at hc
      cases hc
theorem ref_good (E : List (List UInt8)) (h : ∀ k (hk : k < E.length), (lower E[k] == CHUNKED) = decide (k + 1 = E.length)) : refN E = if E.length < 2 then 90 else 91 := by
  unfold refN
  rcases List.eq_nil_or_concat E with rfl | ⟨I, x, hE⟩
  · rfl
  · rw [List.concat_eq_append] at hE
    subst hE
    have hx := h I.length (by simp)
    rw [List.getElem_concat_length rfl] at hx
    simp at hx
    have hall : I.all (fun y => !(lower y == CHUNKED)) = true := by
      rw [List.all_eq_true]
      intro y hy
      obtain ⟨j, hj, rfl⟩ := List.mem_iff_getElem.1 hy
      have h1 := h j (by simp; omega)
      rw [List.getElem_append_left hj] at h1
      rw [h1]
      simp
      omega
    rw [code_say, if_pos (And.intro hx hall)]
    cases I with
    | nil => simp
    | cons y I => simp
end Go.Proofs.YtmlpdhmafmdkcaaGreatDoor.PFrCh

/- Layer 9 of the program: refusal. -/
namespace Go.Proofs.YtmlpdhmafmdkcaaGreatDoor.PFrRef
open Go.ChangeShapes Go.WideShapes Go.ChangeAt Go.RowKit LexPure Bytes Ret Rows1 Texts FieldsPure HeadPure FramePure FrNames Flds R7Elements R7Has PAlike PLib PElems7 PFrCh HBox Mem
set_option maxRecDepth 20000
theorem ret_ref {a b : Int} (h : a = b) : Ending.returned (.int .i64 a) = .returned (.int .i64 b) := by rw [h]
/-- the first k are as they should be -/
def FitTo (E : List (List UInt8)) (n : Nat) : Prop := ∀ k (hk : k < E.length), k < n → (lower E[k] == CHUNKED) = decide (k + 1 = E.length)
set_option maxHeartbeats 1600000 in
theorem pref_any (h : H8) (v : Value) (hG : Few h.fields) (hle : h.fields.length ≤ 1048576) (w : World) (hF : FL w v h.fields) (hm : MaxInt w) :
    Calls Tryz.prog 58 #[hv h v] w fun e w' => e = .returned (.int .i64 (refN (elems h.fields TENC))) ∧ Below w.heap.size w w' := by
  have hb1 := (Below.refl w.heap.size w).alloc (Nat.le_refl _) (.cells (hc h v) 31)
  have HR := Lib.hid (pelems_any v h.fields ⟨#[84, 114, 97, 110, 115, 102, 101, 114, 45, 69, 110, 99, 111, 100, 105, 110, 103]⟩ hG hle _ (hm.below hb1) (hF.below hb1))
  have hS := Lib.hid (elems_short h.fields TENC hG)
  rw [show toL ⟨#[84, 114, 97, 110, 115, 102, 101, 114, 45, 69, 110, 99, 111, 100, 105, 110, 103]⟩ = aTENC from rfl, elems_same low_t] at HR
  obtain ⟨C, hC⟩ : ∃ C, C = refN (elems h.fields TENC) := ⟨_, rfl⟩
  rw [← hC]
  generalize elems h.fields TENC = E at *
  have hBad := Lib.hid (fun k hk h => hC.trans (ref_bad E k hk h))
  have hGood := Lib.hid (fun h => hC.trans (ref_good E h))
  clear hC
  unfold hc at hb1 HR
  unfold hv
  replace hb1 := Lib.hid hb1
  clear hF hm
  go_enter Tryz.func58, Tryz.ntmps58
  go_wp2_with fail
  generalize w.alloc (.cells #[.string (ofL h.method), .string (ofL h.target), .int .i64 h.status, .string (ofL h.reason), .int .i64 h.minor, v] 31) = W at *
  refine HR.out.mono ?_
  rintro e w2 ⟨v2, rfl, hrow, hb2⟩
  obtain ⟨p, cap, rfl, hle2, hc⟩ := texts_of hrow
  have HB0 := Lib.hid (below_chain hb1.out hb2)
  clear HR hrow hb2 hb1
  go_wp2_with fail
  go_loopw [11] (fun i wr => ∃ k : Nat, k ≤ E.length ∧ i = .int .i64 k ∧ Hid (FitTo E k) ∧ Hid (Below w2.heap.size w2 wr)) (fun i _ => E.length - (intOf i).toNat)
  case atStart => exact ⟨0, Nat.zero_le _, rfl, Lib.hid (fun k _ h => by omega), Lib.hid (Below.refl _ _)⟩
  case round =>
    obtain ⟨k, hk, rfl, ha, HBk⟩ := hrel
    by_cases hlt : k < E.length
    · have hki : (k : Int) < (E.length : Int) := by omega
      obtain ⟨g, o, rfl, hgl, hcell⟩ := hc (by omega)
      have c1 := (HBk.out.cell (p := ⟨g, o + k, none⟩) hgl).trans (hcell k hlt)
      have hs1 := hS.out k hlt
      have HL := Lib.hid (fun w => pchunk_any (ofL E[k]) (by rw [ofL_size]; unfold maxLen; omega) w)
      rw [toL_ofL] at HL
      have hB1 := Lib.hid (hBad.out k hlt)
      generalize hbb : (lower E[k] == CHUNKED) = b at *
      clear hc hcell hS hs1
      by_cases hd : k + 1 = E.length
      · have hq : ((k : Int) == (E.length : Int) - 1) = true := by rw [beq_iff_eq]; omega
        rw [decide_eq_true hd] at hB1
        go_wp2_with fail
        refine (HL.out _).mono ?_
        rintro e w3 ⟨rfl, hb3⟩
        have HB := Lib.hid (below_chain HBk.out hb3)
        clear hb3 HL c1
        cases b
        · have hV := Lib.hid (hB1.out (by decide))
          clear hd
          go_wp2_with fail
          go_ret
          exact ⟨ret_ref hV.out.symm, below_chain HB0.out HB.out⟩
        · have HA : Hid (FitTo E (k + 1)) := Lib.hid (fun j hj hl => by
            by_cases hx : j < k
            · exact ha.out j hj hx
            · have : j = k := by omega
              subst this
              rw [hbb, decide_eq_true hd])
          clear hd ha hB1 hbb
          go_wp2_with fail
          go_simp
          exact ⟨⟨k + 1, by omega, by omega, HA⟩, by simp [intOf]; omega⟩
      · have hq : ((k : Int) == (E.length : Int) - 1) = false := beq_eq_false_iff_ne.2 (by omega)
        rw [decide_eq_false hd] at hB1
        go_wp2_with fail
        refine (HL.out _).mono ?_
        rintro e w3 ⟨rfl, hb3⟩
        have HB := Lib.hid (below_chain HBk.out hb3)
        clear hb3 HL c1
        cases b
        · have HA : Hid (FitTo E (k + 1)) := Lib.hid (fun j hj hl => by
            by_cases hx : j < k
            · exact ha.out j hj hx
            · have : j = k := by omega
              subst this
              rw [hbb, decide_eq_false hd])
          clear hd ha hB1 hbb
          go_wp2_with fail
          go_simp
          exact ⟨⟨k + 1, by omega, by omega, HA⟩, by simp [intOf]; omega⟩
        · have hV := Lib.hid (hB1.out (by decide))
          clear hd
          go_wp2_with fail
          go_ret
          exact ⟨ret_ref hV.out.symm, below_chain HB0.out HB.out⟩
    · have hki : ¬ ((k : Int) < (E.length : Int)) := by omega
      have hV := Lib.hid (hGood.out (fun j hj => ha.out j hj (by omega)))
      have HB := Lib.hid (below_chain HB0.out HBk.out)
      clear ha hS hc hBad hGood HBk HB0
      by_cases h2 : E.length < 2
      · have h2i : (E.length : Int) < 2 := by omega
        have hV2 : Hid (C = 90) := Lib.hid (by rw [hV.out, if_pos h2])
        clear hV h2
        go_wp2_with fail
        go_ret
        exact ⟨ret_ref hV2.out.symm, HB.out⟩
      · have h2i : ¬ ((E.length : Int) < 2) := by omega
        have hV2 : Hid (C = 91) := Lib.hid (by rw [hV.out, if_neg h2])
        clear hV h2
        go_wp2_with fail
        go_ret
        exact ⟨ret_ref hV2.out.symm, HB.out⟩
end Go.Proofs.YtmlpdhmafmdkcaaGreatDoor.PFrRef

/- Layer 9 of the program: has. -/
namespace Go.Proofs.YtmlpdhmafmdkcaaGreatDoor.PFrHas
open Go.ChangeShapes Go.WideShapes Go.ChangeAt Go.RowKit LexPure Bytes Ret FieldsPure HeadPure Flds PGet HBox Mem
set_option maxRecDepth 20000
theorem pfrhas_any (h : H8) (v : Value) (nm : ByteArray) (hG : Few h.fields) (w : World) (hF : FL w v h.fields) :
    Calls Tryz.prog 56 #[hv h v, .string nm] w fun e w' => e = .returned (.bool (decide (0 < getN h.fields (toL nm)))) ∧ Below w.heap.size w w' := by
  have hb1 := (Below.refl w.heap.size w).alloc (Nat.le_refl _) (.cells (hc h v) 31)
  have HR := Lib.hid (pget_any v h.fields nm hG _ (hF.below hb1))
  generalize getN h.fields (toL nm) = n at *
  generalize ofL (getV h.fields (toL nm)) = g at *
  unfold hc at hb1 HR
  unfold hv
  replace hb1 := Lib.hid hb1
  go_enter Tryz.func56, Tryz.ntmps56
  go_wp2_with fail
  refine HR.out.mono ?_
  rintro e w' ⟨rfl, hb2⟩
  have HB := Lib.hid (below_chain hb1.out hb2)
  clear hb2 hb1 HR
  go_wp2_with fail
  go_ret
  exact ⟨rfl, HB.out⟩
end Go.Proofs.YtmlpdhmafmdkcaaGreatDoor.PFrHas

/- A variable or a parameter that holds a head, in a box made behind w. -/
namespace Go.Proofs.YtmlpdhmafmdkcaaGreatDoor.Held
open Go.ChangeShapes Go.WideShapes Go.ChangeAt Go.RowKit LexPure Bytes Ret Rows1 FieldsPure Flds HeadPure HBox KeptRow Mem
set_option maxRecDepth 20000
/-- box g, made behind w, holds head H with its list v -/
structure LB (w W : World) (g : Nat) (H : H8) (v : Value) : Prop where
  below : Below w.heap.size w W
  low : w.heap.size ≤ g
  box : HBox W g H v
  list : FL W v H.fields
  lt : g < W.heap.size
theorem LB.new {w W : World} {H : H8} {v : Value} (hb : Below w.heap.size w W) (hf : FL W v H.fields) : LB w (W.alloc (.cells (hc H v) 31)) W.heap.size H v :=
  ⟨hb.alloc hb.size _, hb.size, ⟨Has.new W _ _⟩, hf.below ((Below.refl _ _).alloc (Nat.le_refl _) _), by simp⟩
theorem LB.call {w W W' : World} {g : Nat} {H : H8} {v : Value} (h : LB w W g H v) (hb : Below W.heap.size W W') : LB w W' g H v :=
  ⟨below_chain h.below hb, h.low, h.box.below hb h.lt, h.list.below hb, Nat.lt_of_lt_of_le h.lt hb.size⟩
theorem LB.alloc {w W : World} {g : Nat} {H : H8} {v : Value} (h : LB w W g H v) (o : Obj) : LB w (W.alloc o) g H v := h.call ((Below.refl _ _).alloc (Nat.le_refl _) o)
/-- an answer with a row of its own is stored over -/
theorem LB.put {w W W' : World} {g : Nat} {H H' : H8} {v v' : Value} (h : LB w W g H v) (hb : Below W.heap.size W W') (hr : RowF W' W.heap.size v' H'.fields) : LB w (hput W' g H' v') g H' v' :=
  ⟨below_hput (below_chain h.below hb) h.low _ _, h.low, (h.box.below hb h.lt).put _ _, fl_of (row_hput hr.1 (g := g) h.lt H' v') (by have := hr.2; omega), by rw [size_hput]; exact Nat.lt_of_lt_of_le h.lt hb.size⟩
theorem LB.drewN {w W : World} {g : Nat} {H : H8} {v : Value} (h : LB w W g H v) (n : Nat) : LB w (W.drewN n) g H v :=
  ⟨below_drewN h.below n, h.low, ⟨h.box.has.drewN n⟩, h.list, h.lt⟩
end Go.Proofs.YtmlpdhmafmdkcaaGreatDoor.Held

/- Layer 9 of the program: a framing in memory, and how a call that answers one ends. -/
namespace Go.Proofs.YtmlpdhmafmdkcaaGreatDoor.FrBox
open Go.ChangeShapes Go.WideShapes Go.ChangeAt Go.RowKit LexPure Bytes FieldsPure HeadPure FramePure Flds HBox Mem
set_option maxRecDepth 20000
def rc (x : Int × Int) : Array Value := #[.int .i64 x.1, .int .i64 x.2]
def rv (x : Int × Int) : Value := .agg #[.int .i64 x.1, .int .i64 x.2]
structure RBox (w : World) (g : Nat) (x : Int × Int) : Prop where
  has : Has w g 65 (rc x)
def rput (W : World) (g : Nat) (x : Int × Int) : World := (W.setCell ⟨g, 0, none⟩ (.int .i64 x.1)).setCell ⟨g, 1, none⟩ (.int .i64 x.2)
theorem RBox.put {W : World} {g : Nat} {u : Int × Int} (h : RBox W g u) (x : Int × Int) : RBox (rput W g x) g x :=
  ⟨by have := (h.has.set_ 0 (.int .i64 x.1)).set_ 1 (.int .i64 x.2); unfold rput; simpa [rc] using this⟩
theorem rload {w : World} {g : Nat} {x : Int × Int} (h : RBox w g x) : (loadVar 65 ⟨g, 0, none⟩).run Tryz.prog w = .ok (rv x) w :=
  run_loadVar_row w g 65 65 _ _ _ h.has.at_ Tryz.underlying65 rfl (by kernel_rfl)
theorem RBox.cells {w : World} {g : Nat} {x : Int × Int} (h : RBox w g x) : w.cell? ⟨g, 0, none⟩ = some (.int .i64 x.1) ∧ w.cell? ⟨g, 1, none⟩ = some (.int .i64 x.2) := ⟨(h.has.cell 0).trans rfl, (h.has.cell 1).trans rfl⟩
theorem RBox.frees {w : World} {g : Nat} {x : Int × Int} (h : RBox w g x) : w.frozen? ⟨g, 0, none⟩ = false ∧ w.frozen? ⟨g, 1, none⟩ = false := ⟨h.has.free 0, h.has.free 1⟩
theorem RBox.below {w w' : World} {g B : Nat} {x : Int × Int} (h : RBox w g x) (hb : Below B w w') (hg : g < B) : RBox w' g x := ⟨h.has.below hb hg⟩
/-- the box of a call's answer, made behind w -/
structure RB (w W : World) (g : Nat) (x : Int × Int) : Prop where
  below : Below w.heap.size w W
  low : w.heap.size ≤ g
  box : RBox W g x
  lt : g < W.heap.size
theorem RB.new {w W : World} {x : Int × Int} (hb : Below w.heap.size w W) : RB w (W.alloc (.cells (rc x) 65)) W.heap.size x :=
  ⟨hb.alloc hb.size _, hb.size, ⟨Has.new W _ _⟩, by simp⟩
theorem RB.call {w W W' : World} {g : Nat} {x : Int × Int} (h : RB w W g x) (hb : Below W.heap.size W W') : RB w W' g x :=
  ⟨below_chain h.below hb, h.low, h.box.below hb h.lt, Nat.lt_of_lt_of_le h.lt hb.size⟩
theorem RB.put {w W : World} {g : Nat} {u : Int × Int} (h : RB w W g u) (x : Int × Int) : RB w (rput W g x) g x :=
  ⟨(h.below.setCell (p := ⟨g, 0, none⟩) h.low _).setCell (p := ⟨g, 1, none⟩) h.low _, h.low, h.box.put x, by have := h.lt; simpa [rput] using this⟩
theorem RB.drewN {w W : World} {g : Nat} {x : Int × Int} (h : RB w W g x) (n : Nat) : RB w (W.drewN n) g x :=
  ⟨below_drewN h.below n, h.low, ⟨h.box.has.drewN n⟩, h.lt⟩
/-- a framing and an error -/
def frv9 (r : Int × Int × Int) : Value := .tuple #[.agg #[.int .i64 r.1, .int .i64 r.2.1], .int .i64 r.2.2]
theorem end_rbox {W : World} {g : Nat} {a b v : Int} {r : Int × Int × Int} (hr : r = (a, b, v)) {tmps : Array Value} {p u : Tmp} (hp : tmps.getD p undef = .pointer (some ⟨g, 0, none⟩)) (hu : tmps.getD u undef = .int .i64 v) (h : RBox W g (a, b)) :
    (((asAddr (tmps.getD p undef)).run Tryz.prog W).andThen fun a w₁ => ((loadVar 65 a).run Tryz.prog w₁).andThen fun v w₂ => .ok (.tuple #[v, tmps.getD u undef]) w₂) = .ok (frv9 r) W := by
  rw [hp, hu, hr]
  have := rload h
  simp [asAddr, Result.andThen, this, frv9, rv]
end Go.Proofs.YtmlpdhmafmdkcaaGreatDoor.FrBox

/- Layer 9 of the program: encoded. -/
namespace Go.Proofs.YtmlpdhmafmdkcaaGreatDoor.PFrEnc
open Go.ChangeShapes Go.WideShapes Go.ChangeAt Go.RowKit LexPure Bytes Ret Rows1 Texts FieldsPure HeadPure FramePure FrNames Flds R7Elements R7Has PAlike PLib PElems7 PFrCh PFrHas HBox FrBox Held Mem
set_option maxRecDepth 20000
/-- where there is a coding -/
def enc9 (minor : Int) (G : List HField) (other : Int) : Int × Int × Int :=
  if minor = 0 ∨ 0 < getN G CLEN then (0, 0, 90) else if codeN (elems G TENC) = 1 then (3, 0, 0) else (0, 0, other)
set_option maxHeartbeats 1600000 in
theorem penc_any (h : H8) (v : Value) (other : Int) (hG : Few h.fields) (hle : h.fields.length ≤ 1048576) (w : World) (hF : FL w v h.fields) (hm : MaxInt w) :
    Calls Tryz.prog 57 #[hv h v, .int .i64 other] w fun e w' => e = .returned (frv9 (enc9 h.minor h.fields other)) ∧ Below w.heap.size w w' := by
  have L0 : LB w ((w.alloc (.cells (hc h v) 31)).alloc (.cells (rc (0, 0)) 65)) w.heap.size h v := (LB.new (Below.refl _ _) hF).alloc _
  have R0 : RB w ((w.alloc (.cells (hc h v) 31)).alloc (.cells (rc (0, 0)) 65)) (w.heap.size + 1) (0, 0) := by
    have := RB.new (w := w) (W := w.alloc (.cells (hc h v) 31)) (x := (0, 0)) ((Below.refl w.heap.size w).alloc (Nat.le_refl _) _)
    rwa [World.size_alloc] at this
  have HM := Lib.hid (hm.below L0.below)
  have HC := Lib.hid (fun w hF => pfrhas_any h v ⟨#[67, 111, 110, 116, 101, 110, 116, 45, 76, 101, 110, 103, 116, 104]⟩ hG w hF)
  rw [show toL ⟨#[67, 111, 110, 116, 101, 110, 116, 45, 76, 101, 110, 103, 116, 104]⟩ = aCLEN from rfl, getN_same low_l] at HC
  have HR := Lib.hid (fun w hm hF => pelems_any v h.fields ⟨#[84, 114, 97, 110, 115, 102, 101, 114, 45, 69, 110, 99, 111, 100, 105, 110, 103]⟩ hG hle w hm hF)
  have hS := Lib.hid (elems_short h.fields TENC hG)
  rw [show toL ⟨#[84, 114, 97, 110, 115, 102, 101, 114, 45, 69, 110, 99, 111, 100, 105, 110, 103]⟩ = aTENC from rfl, elems_same low_t] at HR
  obtain ⟨X, hX⟩ : ∃ X, X = enc9 h.minor h.fields other := ⟨_, rfl⟩
  rw [← hX]
  unfold enc9 at hX
  generalize elems h.fields TENC = E at *
  generalize getN h.fields CLEN = n at *
  clear hm hF
  by_cases m0 : h.minor = 0
  · replace hX := Lib.hid (show X = (0, 0, 90) by rw [hX, if_pos (.inl m0)])
    have RE := Lib.hid R0.box
    have RBw := Lib.hid R0.below
    unfold hc rc at RE RBw
    clear L0 R0 HM HC HR hS
    unfold hv
    go_enter Tryz.func57, Tryz.ntmps57
    go_wp2_with fail
    rw [m0] at RE RBw
    refine bodyPost_ret (v := frv9 X) ?_ rfl ⟨rfl, RBw.out⟩
    rw [results_cell_tmp rfl]
    exact end_rbox hX.out rfl rfl RE.out
  have m1 : (h.minor == 0) = false := beq_eq_false_iff_ne.2 m0
  unfold hc rc at L0 R0 HM
  obtain ⟨d0, d1, d2, d3, d4, d5⟩ := L0.box.cells
  have HC1 := Lib.hid (HC.out _ L0.list)
  replace L0 := Lib.hid L0
  replace R0 := Lib.hid R0
  unfold hv at HC1 ⊢
  clear HC
  go_enter Tryz.func57, Tryz.ntmps57
  go_wp2_with fail
  generalize (w.alloc (.cells #[.string (ofL h.method), .string (ofL h.target), .int .i64 h.status, .string (ofL h.reason), .int .i64 h.minor, v] 31)).alloc (.cells #[.int .i64 0, .int .i64 0] 65) = W at *
  refine HC1.out.mono ?_
  rintro e w2 ⟨rfl, hb2⟩
  replace HM := Lib.hid (HM.out.below hb2)
  replace L0 := Lib.hid (L0.out.call hb2)
  replace R0 := Lib.hid (R0.out.call hb2)
  clear HC1 hb2 d0 d1 d2 d3 d4 d5
  obtain ⟨d0, d1, d2, d3, d4, d5⟩ := L0.out.box.cells
  obtain ⟨c0, c1⟩ := R0.out.box.cells
  obtain ⟨z0, z1⟩ := R0.out.box.frees
  by_cases q1 : 0 < n
  · replace hX := Lib.hid (show X = (0, 0, 90) by rw [hX, if_pos (.inr q1)])
    have q2 : decide (0 < n) = true := decide_eq_true q1
    have RE := Lib.hid (R0.out.put (0, 0))
    rw [q2]
    clear q1 q2 HR hS HM
    go_wp2_with fail
    refine bodyPost_ret (v := frv9 X) ?_ rfl ⟨rfl, RE.out.below⟩
    rw [results_cell_tmp rfl]
    exact end_rbox hX.out rfl rfl RE.out.box
  replace hX := Lib.hid (show X = if codeN E = 1 then (3, 0, 0) else (0, 0, other) by rw [hX, if_neg (by rintro (h | h); exact m0 h; exact q1 h)])
  have q2 : decide (0 < n) = false := decide_eq_false q1
  rw [q2]
  clear q1 q2 m0
  have HR1 := Lib.hid (HR.out _ HM.out L0.out.list)
  clear HR HM
  go_wp2_with fail
  refine HR1.out.mono ?_
  rintro e w3 ⟨v2, rfl, hrow, hb3⟩
  obtain ⟨p, cap, rfl, hle2, hc⟩ := texts_of hrow
  replace hc := Lib.hid hc
  replace L0 := Lib.hid (L0.out.call hb3)
  replace R0 := Lib.hid (R0.out.call hb3)
  clear hrow hb3 HR1 d0 d1 d2 d3 d4 d5 c0 c1 z0 z1
  obtain ⟨c0, c1⟩ := R0.out.box.cells
  obtain ⟨z0, z1⟩ := R0.out.box.frees
  by_cases h1 : E.length = 1
  · obtain ⟨x, rfl⟩ := List.length_eq_one_iff.1 h1
    obtain ⟨g, o, rfl, hgl, hcell⟩ := hc.out (by rw [h1]; exact Nat.zero_lt_one)
    have cx : w3.cell? ⟨g, o, none⟩ = some (.string (ofL x)) := hcell 0 (by rw [h1]; exact Nat.zero_lt_one)
    have hs1 : x.length ≤ 1048576 := hS.out 0 (by rw [h1]; exact Nat.zero_lt_one)
    have HL := Lib.hid (fun w => pchunk_any (ofL x) (by rw [ofL_size]; unfold maxLen; omega) w)
    rw [toL_ofL] at HL
    have hX2 : Hid (X = if (lower x == CHUNKED) = true then (3, 0, 0) else (0, 0, other)) := Lib.hid (by
      rw [hX.out]
      by_cases hx : lower x = CHUNKED
      · rw [if_pos ((code_one [x]).2 ⟨x, rfl, hx⟩), if_pos (show (lower x == CHUNKED) = true by rw [hx]; exact beq_self_eq_true _)]
      · rw [if_neg (show ¬ (lower x == CHUNKED) = true by rw [beq_iff_eq]; exact hx), if_neg]
        intro hc
        obtain ⟨y, hy, hz⟩ := (code_one _).1 hc
        cases hy
        exact hx hz)
    rw [h1]
    generalize (lower x == CHUNKED) = b at *
    clear hX hcell hs1 hS hc hle2 h1
    go_wp2_with fail
    refine (HL.out _).mono ?_
    rintro e w4 ⟨rfl, hb4⟩
    replace R0 := Lib.hid (R0.out.call hb4)
    clear hb4 HL cx c0 c1 z0 z1 L0
    obtain ⟨c0, c1⟩ := R0.out.box.cells
    obtain ⟨z0, z1⟩ := R0.out.box.frees
    cases b
    · have hV : Hid (X = (0, 0, other)) := Lib.hid hX2.out
      have RE := Lib.hid (R0.out.put (0, 0))
      clear hX2 R0
      go_wp2_with fail
      refine bodyPost_ret (v := frv9 X) ?_ rfl ⟨rfl, RE.out.below⟩
      rw [results_cell_tmp rfl]
      exact end_rbox hV.out rfl rfl RE.out.box
    · have hV : Hid (X = (3, 0, 0)) := Lib.hid hX2.out
      have RE := Lib.hid (R0.out.put (3, 0))
      clear hX2 R0
      go_wp2_with fail
      refine bodyPost_ret (v := frv9 X) ?_ rfl ⟨rfl, RE.out.below⟩
      rw [results_cell_tmp rfl]
      exact end_rbox hV.out rfl rfl RE.out.box
  · have hV : Hid (X = (0, 0, other)) := Lib.hid (by
      rw [hX.out, if_neg]
      intro hc
      obtain ⟨y, hy, _⟩ := (code_one _).1 hc
      rw [hy] at h1
      exact h1 rfl)
    have q1 : ((E.length : Int) != 1) = true := bne_iff_ne.2 (by omega)
    have RE := Lib.hid (R0.out.put (0, 0))
    clear hX hc hS h1 L0 R0
    go_wp2_with fail
    refine bodyPost_ret (v := frv9 X) ?_ rfl ⟨rfl, RE.out.below⟩
    rw [results_cell_tmp rfl]
    exact end_rbox hV.out rfl rfl RE.out.box
end Go.Proofs.YtmlpdhmafmdkcaaGreatDoor.PFrEnc

/- Layer 9 of the program: readLengths. -/
namespace Go.Proofs.YtmlpdhmafmdkcaaGreatDoor.PFrLens
open Go.ChangeShapes Go.WideShapes Go.ChangeAt Go.RowKit LexPure Bytes Ret Rows1 LexList LexNum FieldsPure HeadPure FramePure FrNames Flds PAlike PTrim PDecimal CutAt PCutLib HBox Mem
set_option maxRecDepth 20000
theorem ahead_no : ∀ r : List UInt8, noComma (aheadOf 44 r) = true
  | [] => rfl
  | c :: r => by
    unfold aheadOf
    rw [List.takeWhile_cons]
    by_cases hc : c = 44
    · subst hc
      rfl
    · have : (c != 44) = true := bne_iff_ne.2 hc
      rw [this]
      have ih := ahead_no r
      unfold noComma aheadOf at *
      simp only [if_true, List.all_cons, ih, Bool.and_true]
      simpa using hc
theorem cut_whole : ∀ r : List UInt8, hasB 44 r = true → r = aheadOf 44 r ++ 44 :: behind 44 r
  | [], h => by cases h
  | c :: r, h => by
    unfold aheadOf behind
    rw [List.takeWhile_cons, List.dropWhile_cons]
    by_cases hc : c = 44
    · subst hc
      rfl
    · have h1 : (c != 44) = true := bne_iff_ne.2 hc
      have h2 : hasB 44 r = true := by
        unfold hasB at h ⊢
        rw [List.any_cons, show (c == 44) = false from beq_eq_false_iff_ne.2 hc, Bool.false_or] at h
        exact h
      have ih := cut_whole r h2
      unfold aheadOf behind at ih
      rw [h1]
      simp only [if_true]
      rw [List.cons_append, ← ih]
theorem cut_none : ∀ r : List UInt8, hasB 44 r = false → aheadOf 44 r = r
  | [], _ => rfl
  | c :: r, h => by
    unfold hasB at h
    rw [List.any_cons, Bool.or_eq_false_iff] at h
    unfold aheadOf
    have ih := cut_none r h.2
    unfold aheadOf at ih
    rw [List.takeWhile_cons, show (c != 44) = true by simpa using h.1, ih]
    rfl
theorem cut_pieces (r : List UInt8) : pieces r = aheadOf 44 r :: (if hasB 44 r then pieces (behind 44 r) else []) := by
  cases h : hasB 44 r
  · have h1 := cut_none r h
    have h2 := ahead_no r
    rw [h1] at h2 ⊢
    exact pieces_plain h2
  · conv => lhs; rw [cut_whole r h]
    rw [pieces_cut (ahead_no r)]
    rfl
theorem ahead_le (r : List UInt8) : (aheadOf 44 r).length ≤ r.length := by
  unfold aheadOf
  exact (List.takeWhile_sublist _).length_le
theorem behind_lt (r : List UInt8) (h : hasB 44 r = true) : (behind 44 r).length + 1 ≤ r.length := by
  have := congrArg List.length (cut_whole r h)
  rw [List.length_append, List.length_cons] at this
  omega
/-- what is told so far, and what is left -/
structure LI (C : Int) (n : Int) (c : Nat) (rem : List (List UInt8)) : Prop where
  all_ : C = lenFrom (if c = 0 then -1 else n) rem
  pos : 0 ≤ n
  zero : c = 0 → n = 0
theorem LI.start (G : List HField) : LI (lenN G) 0 0 (lens G) := ⟨rfl, Int.le_refl _, fun _ => rfl⟩
theorem LI.step {C n : Int} {c : Nat} {p : List UInt8} {rem : List (List UInt8)} (h : LI C n c (p :: rem)) (h1 : numOk 10 15 p = true) (h2 : c = 0 ∨ numR 10 15 p = n) : LI C (numR 10 15 p) (c + 1) rem := by
  refine ⟨?_, numR_pos _ _ _, fun h => by omega⟩
  rw [h.all_, if_neg (Nat.succ_ne_zero c)]
  conv => lhs; unfold lenFrom lenStep
  rw [if_pos]
  refine ⟨h1, ?_⟩
  rcases h2 with h2 | h2
  · left
    rw [if_pos h2]
    decide
  · by_cases h0 : c = 0
    · left
      rw [if_pos h0]
      decide
    · right
      rw [if_neg h0]
      exact h2
theorem LI.bad {C n : Int} {c : Nat} {p : List UInt8} {rem : List (List UInt8)} (h : LI C n c (p :: rem)) (h1 : numOk 10 15 p = false ∨ (0 < c ∧ numR 10 15 p ≠ n)) : C = -1 := by
  rw [h.all_]
  unfold lenFrom lenStep
  rw [if_neg]
  rintro ⟨h2, h3⟩
  rcases h1 with h1 | ⟨h1, h4⟩
  · rw [h1] at h2
    cases h2
  · rw [if_neg (by omega)] at h3
    have := h.pos
    rcases h3 with h3 | h3
    · omega
    · exact h4 h3
theorem LI.done {C n : Int} {c : Nat} (h : LI C n c []) : (if C < 0 then 0 else C) = n ∧ decide (0 ≤ C) = decide (0 < c) := by
  have h1 : C = if c = 0 then -1 else n := h.all_
  have hp := h.pos
  by_cases h0 : c = 0
  · rw [if_pos h0] at h1
    have hz := h.zero h0
    subst h1
    subst h0
    subst hz
    exact ⟨rfl, rfl⟩
  · rw [if_neg h0] at h1
    subst h1
    rw [if_neg (by omega), decide_eq_true hp, decide_eq_true (by omega)]
    exact ⟨rfl, rfl⟩
theorem ret_lens {a b : Int} {p q : Bool} (h : a = b) (k : p = q) : Ending.returned (.tuple #[.int .i64 a, .bool p]) = .returned (.tuple #[.int .i64 b, .bool q]) := by rw [h, k]
theorem lens_drop (G : List HField) (k : Nat) (hk : k < G.length) : lens (G.drop k) = if hit CLEN G[k] then (pieces G[k].2).map trim ++ lens (G.drop (k + 1)) else lens (G.drop (k + 1)) := by
  rw [← lens_cons, List.drop_eq_getElem_cons hk]
theorem more_le {c k B : Nat} (h : c ≤ k * B) : c ≤ (k + 1) * B := Nat.le_trans h (Nat.mul_le_mul_right B (Nat.le_succ k))
/-- what is left of a value -/
def left (b : Bool) (R : ByteArray) : List (List UInt8) := if b then (pieces (toL R)).map trim else []
def room (b : Bool) (R : ByteArray) : Nat := if b then R.size + 1 else 0
theorem left_cut (R : ByteArray) : left true R = trim (aheadOf 44 (toL R)) :: left (hasB 44 (toL R)) (ofL (behind 44 (toL R))) := by
  unfold left
  rw [toL_ofL, if_pos rfl]
  conv => lhs; rw [cut_pieces]
  cases hasB 44 (toL R) <;> rfl
theorem room_cut (R : ByteArray) : room (hasB 44 (toL R)) (ofL (behind 44 (toL R))) ≤ R.size := by
  unfold room
  cases h : hasB 44 (toL R)
  · exact Nat.zero_le _
  · have := behind_lt _ h
    rw [toL_length] at this
    rw [if_pos rfl, ofL_size]
    exact this
theorem left_end {rest : List (List UInt8)} (R : ByteArray) : left false R ++ rest = rest := rfl
set_option maxHeartbeats 1600000 in
theorem plens_any (v : Value) (G : List HField) (hG : Few G) (hle : G.length ≤ 1048576) (w : World) (hF : FL w v G) :
    Calls Tryz.prog 98 #[v] w fun e w' => e = .returned (.tuple #[.int .i64 (if lenN G < 0 then 0 else lenN G), .bool (decide (0 ≤ lenN G))]) ∧ Below w.heap.size w w' := by
  obtain ⟨C, hC⟩ : ∃ C, C = lenN G := ⟨_, rfl⟩
  rw [← hC]
  have HI0 : Hid (LI C 0 0 (lens (G.drop 0)) ∧ Below w.heap.size w w) := Lib.hid ⟨by rw [hC]; exact LI.start G, Below.refl _ _⟩
  clear hC
  obtain ⟨Z1, hZ1⟩ : ∃ Z, Z = if C < 0 then 0 else C := ⟨_, rfl⟩
  obtain ⟨Z2, hZ2⟩ : ∃ Z, Z = decide (0 ≤ C) := ⟨_, rfl⟩
  rw [← hZ1, ← hZ2]
  have HZ := Lib.hid (And.intro hZ1 hZ2)
  clear hZ1 hZ2
  obtain ⟨p, cap, rfl, hle2, hcl⟩ := hF
  replace hcl := Lib.hid hcl
  replace hG := Lib.hid hG
  go_enter Tryz.func98, Tryz.ntmps98
  go_wp2_with fail
  go_loopw [4, 5, 15] (fun n c i wr => ∃ (k c1 : Nat) (n1 : Int), k ≤ G.length ∧ i = .int .i64 k ∧ c = .int .i64 c1 ∧ n = .int .i64 n1 ∧ c1 ≤ k * 1048577 ∧ Hid (LI C n1 c1 (lens (G.drop k)) ∧ Below w.heap.size w wr)) (fun _ _ i _ => G.length - (intOf i).toNat)
  case atStart => exact ⟨0, 0, 0, Nat.zero_le _, rfl, rfl, rfl, Nat.zero_le _, HI0⟩
  case round =>
    obtain ⟨k, c1, n1, hk, rfl, rfl, rfl, hc1, HI⟩ := hrel
    clear HI0
    by_cases hlt : k < G.length
    · obtain ⟨g, o, rfl, hgl, hcell⟩ := hcl.out (by omega)
      obtain ⟨s1, s2⟩ := hG.out k hlt
      have hki : (k : Int) < (G.length : Int) := by omega
      have HD := Lib.hid (lens_drop G k hlt)
      have HA := Lib.hid (fun w => palike_any (ofL G[k].1) ⟨#[67, 111, 110, 116, 101, 110, 116, 45, 76, 101, 110, 103, 116, 104]⟩ (by rw [ofL_size]; unfold maxLen; omega) w)
      rw [toL_ofL, show alike G[k].1 (toL ⟨#[67, 111, 110, 116, 101, 110, 116, 45, 76, 101, 110, 103, 116, 104]⟩) = hit CLEN G[k] from congrFun (hit_same low_l) G[k]] at HA
      obtain ⟨d1, d2⟩ := hcell k hlt
      replace d1 := (HI.out.2.cell (p := ⟨g, o + k * 2, none⟩) hgl).trans d1
      replace d2 := (HI.out.2.cell (p := ⟨g, o + k * 2 + 1, none⟩) hgl).trans d2
      have hb1 := (Below.refl wr.heap.size wr).alloc (Nat.le_refl _) (.cells (fc G[k]) 117)
      have B0 : FBox (wr.alloc (.cells (fc G[k]) 117)) wr.heap.size G[k] := ⟨Has.new wr _ _⟩
      have hsz : wr.heap.size < (wr.alloc (.cells (fc G[k]) 117)).heap.size := by simp
      unfold fc at hb1 B0 hsz
      have HB1 := Lib.hid (below_chain HI.out.2 hb1)
      obtain ⟨e1, e2⟩ := B0.cells
      replace B0 := Lib.hid B0
      clear hcell hgl hb1
      cases hh : hit CLEN G[k]
      · rw [hh] at HD HA
        clear hh
        go_wp2_with fail
        generalize wr.alloc (.cells #[.string (ofL G[k].1), .string (ofL G[k].2)] 117) = W1 at *
        refine (HA.out _).mono ?_
        rintro e w2 ⟨rfl, hb2⟩
        have HI2 : Hid (LI C n1 c1 (lens (G.drop (k + 1))) ∧ Below w.heap.size w w2) := Lib.hid ⟨by have := HI.out.1; rw [HD.out] at this; exact this, below_chain HB1.out hb2⟩
        clear hb2 HA HD HI d1 d2 e1 e2 B0 HB1
        go_wp2_with fail
        go_roundw
        case rel => exact ⟨k + 1, c1, n1, by omega, by go_num, rfl, rfl, more_le hc1, HI2⟩
        case measure => simp [intOf]; omega
      · rw [hh] at HD HA
        clear hh
        go_wp2_with fail
        generalize wr.alloc (.cells #[.string (ofL G[k].1), .string (ofL G[k].2)] 117) = W1 at *
        refine (HA.out _).mono ?_
        rintro e w2 ⟨rfl, hb2⟩
        have HI2 : Hid (LI C n1 c1 (left true (ofL G[k].2) ++ lens (G.drop (k + 1))) ∧ Below w.heap.size w w2) := Lib.hid ⟨by have := HI.out.1; rw [HD.out] at this; unfold left; rw [toL_ofL]; exact this, below_chain HB1.out hb2⟩
        have hB2 := B0.out.below hb2 hsz
        clear HA HD HI d1 d2 e1 e2 B0 HB1 hb2
        obtain ⟨e1, e2⟩ := hB2.cells
        clear hB2
        go_wp2_with fail
        obtain ⟨M, hM⟩ : ∃ M, M = (k + 1) * 1048577 := ⟨_, rfl⟩
        have hM2 : M ≤ 1099512676353 := by rw [hM]; exact Nat.le_trans (Nat.mul_le_mul_right _ (Nat.le_trans (Nat.succ_le_of_lt hlt) hle)) (by decide)
        have hM3 : c1 + room true (ofL G[k].2) ≤ M := by
          unfold room
          rw [hM, if_pos rfl, ofL_size, Nat.succ_mul]
          exact Nat.add_le_add hc1 (Nat.succ_le_succ s2)
        replace hM := Lib.hid hM
        clear e1 e2 hc1 s1 s2 hsz
        generalize ofL G[k].2 = V at *
        generalize hRest : lens (G.drop (k + 1)) = rest at *
        replace hRest := Lib.hid hRest
        go_loopw [8, 9, 4, 5] (fun r m n c w3 => ∃ (R : ByteArray) (b : Bool) (c3 : Nat) (n3 : Int), r = .string R ∧ m = .bool b ∧ c = .int .i64 c3 ∧ n = .int .i64 n3 ∧ c3 + room b R ≤ M ∧ Hid (LI C n3 c3 (left b R ++ rest) ∧ Below w.heap.size w w3)) (fun r m _ _ _ => match r, m with | .string R, .bool b => room b R | _, _ => 0)
        case atStart => exact ⟨V, true, c1, n1, rfl, rfl, rfl, rfl, hM3, HI2⟩
        case round =>
          obtain ⟨R, b, c3, n3, rfl, rfl, rfl, rfl, hc3, HI⟩ := hrel
          clear HI2 hM3
          cases b
          · have HI3 : Hid (LI C n3 c3 (lens (G.drop (k + 1))) ∧ Below w.heap.size w wr) := Lib.hid (by rw [hRest.out]; exact HI.out)
            have hc4 : c3 ≤ (k + 1) * 1048577 := by rw [← hM.out]; exact hc3
            replace hc4 := Lib.hid hc4
            clear HI hM hM2 hc3 hRest
            go_wp2_with fail
            go_roundw
            case rel => exact ⟨k + 1, c3, n3, by omega, by go_num, rfl, rfl, hc4.out, HI3⟩
            case measure => simp [intOf]; omega
          · have hsz : R.size + 1 + c3 ≤ M := by
              have : c3 + (R.size + 1) ≤ M := hc3
              omega
            have hrm := room_cut R
            have hal := ahead_le (toL R)
            rw [toL_length] at hal
            have HC := Lib.hid (fun w => full_cut 44 R (by omega) w)
            obtain ⟨A, hA⟩ : ∃ A, A = ofL (aheadOf 44 (toL R)) := ⟨_, rfl⟩
            have sA : A.size ≤ R.size := by rw [hA, ofL_size]; exact hal
            have tA : toL A = aheadOf 44 (toL R) := by rw [hA, toL_ofL]
            have HT := Lib.hid (fun w => ptrim_any A (by unfold maxLen; omega) w)
            obtain ⟨T, hT⟩ : ∃ T, T = ofL (trim (toL A)) := ⟨_, rfl⟩
            have sT : T.size ≤ A.size := by rw [hT, ofL_size, ← toL_length A]; exact trim_length _
            have tT : toL T = trim (aheadOf 44 (toL R)) := by rw [hT, toL_ofL, tA]
            have HD := Lib.hid (fun w => pdecimal_any T (by unfold maxLen; omega) 15 w)
            have hL := left_cut R
            rw [show min (15 : Int) 18 = 15 from rfl, tT] at HD
            rw [hL] at HI
            rw [← hA] at HC
            rw [← hT] at HT
            have hOk := Lib.hid (fun h1 h2 => LI.step HI.out.1 h1 h2)
            have hBad := Lib.hid (fun h1 => LI.bad HI.out.1 h1)
            have HBw := Lib.hid HI.out.2
            clear hL HI hal sA tA hA sT tT hT hc3
            generalize numR 10 15 (trim (aheadOf 44 (toL R))) = num at *
            generalize numOk 10 15 (trim (aheadOf 44 (toL R))) = okb at *
            generalize hasB 44 (toL R) = b2 at *
            generalize ofL (behind 44 (toL R)) = R2 at *
            have hc5 : (c3 : Int) ≤ 1099512676353 := by omega
            replace hsz := Lib.hid hsz
            replace hrm := Lib.hid hrm
            go_wp2_with fail
            refine (HC.out _).mono ?_
            rintro e w4 ⟨rfl, hb4⟩
            replace HBw := Lib.hid (below_chain HBw.out hb4)
            clear hb4 HC
            go_wp2_with fail
            refine (HT.out _).mono ?_
            rintro e w5 ⟨rfl, hb5⟩
            replace HBw := Lib.hid (below_chain HBw.out hb5)
            clear hb5 HT
            go_wp2_with fail
            refine (HD.out _).mono ?_
            rintro e w6 ⟨rfl, rfl⟩
            clear HD
            cases okb
            · have hV : Hid (Z1 = 0 ∧ Z2 = false) := Lib.hid (by rw [HZ.out.1, HZ.out.2, hBad.out (.inl rfl)]; exact ⟨rfl, rfl⟩)
              clear hOk hBad
              go_wp2_with fail
              go_ret2
              exact ⟨ret_lens hV.out.1.symm hV.out.2.symm, HBw.out⟩
            · by_cases h0 : c3 = 0
              · subst h0
                have HI2 : Hid (LI C num (0 + 1) (left b2 R2 ++ rest) ∧ Below w.heap.size w w5) := Lib.hid ⟨hOk.out rfl (.inl rfl), HBw.out⟩
                clear hOk hBad HBw
                go_wp2_with fail
                go_roundw
                case rel => exact ⟨R2, b2, 0 + 1, num, rfl, rfl, by go_num, rfl, by have := hrm.out; have := hsz.out; omega, HI2⟩
                case measure => exact Nat.lt_succ_of_le hrm.out
              · have h1 : (0 : Int) < (c3 : Int) := by omega
                by_cases h2 : num = n3
                · subst h2
                  have HI2 : Hid (LI C num (c3 + 1) (left b2 R2 ++ rest) ∧ Below w.heap.size w w5) := Lib.hid ⟨hOk.out rfl (.inr rfl), HBw.out⟩
                  clear hOk hBad HBw h0
                  go_wp2_with fail
                  go_roundw
                  case rel => exact ⟨R2, b2, c3 + 1, num, rfl, rfl, by go_num, rfl, by have := hrm.out; have := hsz.out; omega, HI2⟩
                  case measure => exact Nat.lt_succ_of_le hrm.out
                · have h3 : (num != n3) = true := bne_iff_ne.2 h2
                  have hV : Hid (Z1 = 0 ∧ Z2 = false) := Lib.hid (by rw [HZ.out.1, HZ.out.2, hBad.out (.inr ⟨by omega, h2⟩)]; exact ⟨rfl, rfl⟩)
                  clear hOk hBad h0 h2
                  go_wp2_with fail
                  go_ret2
                  exact ⟨ret_lens hV.out.1.symm hV.out.2.symm, HBw.out⟩
    · have hki : ¬ ((k : Int) < (G.length : Int)) := by omega
      have HI3 : Hid (LI C n1 c1 [] ∧ Below w.heap.size w wr) := Lib.hid (by
        have h := HI.out
        rw [List.drop_of_length_le (by omega)] at h
        exact h)
      have hd := HI3.out.1.done
      rw [← HZ.out.1, ← HZ.out.2] at hd
      replace hd := Lib.hid hd
      clear HI hcl hG hlt hc1
      go_wp2_with fail
      go_ret2
      exact ⟨ret_lens hd.out.1.symm hd.out.2.symm, HI3.out.2⟩
end Go.Proofs.YtmlpdhmafmdkcaaGreatDoor.PFrLens

/- Layer 9 of the program: sized, bounded. -/
namespace Go.Proofs.YtmlpdhmafmdkcaaGreatDoor.PFrSized
open Go.ChangeShapes Go.WideShapes Go.ChangeAt Go.RowKit LexPure Bytes Ret Rows1 Texts FieldsPure HeadPure FramePure FrNames Flds PFrLens HBox FrBox Held Mem
set_option maxRecDepth 20000
/-- by the lengths -/
def sized9 (G : List HField) : Int × Int × Int := if lenN G < 0 then (0, 0, 90) else (2, lenN G, 0)
def bound9 (G : List HField) (most : Int) : Int × Int × Int := if lenN G < 0 then (0, 0, 90) else if most < lenN G then (0, 0, 101) else (2, lenN G, 0)
theorem start9 (w : World) (h : H8) (v : Value) (hF : FL w v h.fields) : LB w ((w.alloc (.cells (hc h v) 31)).alloc (.cells (rc (0, 0)) 65)) w.heap.size h v ∧ RB w ((w.alloc (.cells (hc h v) 31)).alloc (.cells (rc (0, 0)) 65)) (w.heap.size + 1) (0, 0) := by
  refine ⟨(LB.new (Below.refl _ _) hF).alloc _, ?_⟩
  have := RB.new (w := w) (W := w.alloc (.cells (hc h v) 31)) (x := (0, 0)) ((Below.refl w.heap.size w).alloc (Nat.le_refl _) _)
  rwa [World.size_alloc] at this
set_option maxHeartbeats 1600000 in
theorem psized_any (h : H8) (v : Value) (hG : Few h.fields) (hle : h.fields.length ≤ 1048576) (w : World) (hF : FL w v h.fields) :
    Calls Tryz.prog 78 #[hv h v] w fun e w' => e = .returned (frv9 (sized9 h.fields)) ∧ Below w.heap.size w w' := by
  obtain ⟨L0, R0⟩ := start9 w h v hF
  have HR := Lib.hid (plens_any v h.fields hG hle _ L0.list)
  obtain ⟨X, hX⟩ : ∃ X, X = sized9 h.fields := ⟨_, rfl⟩
  rw [← hX]
  unfold sized9 at hX
  generalize lenN h.fields = n at *
  clear hF
  unfold hc rc at L0 R0 HR
  obtain ⟨d0, d1, d2, d3, d4, d5⟩ := L0.box.cells
  replace L0 := Lib.hid L0
  replace R0 := Lib.hid R0
  unfold hv
  by_cases hn : n < 0
  · replace hX := Lib.hid (show X = (0, 0, 90) by rw [hX, if_pos hn])
    rw [if_pos hn, decide_eq_false (by omega)] at HR
    clear hn
    go_enter Tryz.func78, Tryz.ntmps78
    go_wp2_with fail
    generalize (w.alloc (.cells #[.string (ofL h.method), .string (ofL h.target), .int .i64 h.status, .string (ofL h.reason), .int .i64 h.minor, v] 31)).alloc (.cells #[.int .i64 0, .int .i64 0] 65) = W at *
    refine HR.out.mono ?_
    rintro e w2 ⟨rfl, hb2⟩
    replace R0 := Lib.hid (R0.out.call hb2)
    clear hb2 HR L0 d0 d1 d2 d3 d4 d5
    obtain ⟨c0, c1⟩ := R0.out.box.cells
    obtain ⟨z0, z1⟩ := R0.out.box.frees
    have RE := Lib.hid (R0.out.put (0, 0))
    clear R0
    go_wp2_with fail
    refine bodyPost_ret (v := frv9 X) ?_ rfl ⟨rfl, RE.out.below⟩
    rw [results_cell_tmp rfl]
    exact end_rbox hX.out rfl rfl RE.out.box
  · replace hX := Lib.hid (show X = (2, n, 0) by rw [hX, if_neg hn])
    rw [if_neg hn, decide_eq_true (by omega)] at HR
    clear hn
    go_enter Tryz.func78, Tryz.ntmps78
    go_wp2_with fail
    generalize (w.alloc (.cells #[.string (ofL h.method), .string (ofL h.target), .int .i64 h.status, .string (ofL h.reason), .int .i64 h.minor, v] 31)).alloc (.cells #[.int .i64 0, .int .i64 0] 65) = W at *
    refine HR.out.mono ?_
    rintro e w2 ⟨rfl, hb2⟩
    replace R0 := Lib.hid (R0.out.call hb2)
    clear hb2 HR L0 d0 d1 d2 d3 d4 d5
    obtain ⟨c0, c1⟩ := R0.out.box.cells
    obtain ⟨z0, z1⟩ := R0.out.box.frees
    have RE := Lib.hid (R0.out.put (2, n))
    clear R0
    go_wp2_with fail
    refine bodyPost_ret (v := frv9 X) ?_ rfl ⟨rfl, RE.out.below⟩
    rw [results_cell_tmp rfl]
    exact end_rbox hX.out rfl rfl RE.out.box
set_option maxHeartbeats 1600000 in
theorem pbound_any (h : H8) (v : Value) (most : Int) (hG : Few h.fields) (hle : h.fields.length ≤ 1048576) (w : World) (hF : FL w v h.fields) :
    Calls Tryz.prog 59 #[hv h v, .int .i64 most] w fun e w' => e = .returned (frv9 (bound9 h.fields most)) ∧ Below w.heap.size w w' := by
  obtain ⟨L0, R0⟩ := start9 w h v hF
  have HR := Lib.hid (psized_any h v hG hle _ L0.list)
  obtain ⟨X, hX⟩ : ∃ X, X = bound9 h.fields most := ⟨_, rfl⟩
  rw [← hX]
  unfold bound9 at hX
  unfold sized9 at HR
  generalize lenN h.fields = n at *
  clear hF
  unfold hc rc at L0 R0 HR
  unfold hv at HR ⊢
  obtain ⟨d0, d1, d2, d3, d4, d5⟩ := L0.box.cells
  replace L0 := Lib.hid L0
  replace R0 := Lib.hid R0
  by_cases hn : n < 0
  · replace hX := Lib.hid (show X = (0, 0, 90) by rw [hX, if_pos hn])
    rw [if_pos hn] at HR
    unfold frv9 at HR
    clear hn
    go_enter Tryz.func59, Tryz.ntmps59
    go_wp2_with fail
    generalize (w.alloc (.cells #[.string (ofL h.method), .string (ofL h.target), .int .i64 h.status, .string (ofL h.reason), .int .i64 h.minor, v] 31)).alloc (.cells #[.int .i64 0, .int .i64 0] 65) = W at *
    refine HR.out.mono ?_
    rintro e w2 ⟨rfl, hb2⟩
    replace R0 := Lib.hid ((R0.out.call hb2).call ((Below.refl _ _).alloc (Nat.le_refl _) (.cells (rc (0, 0)) 65)))
    clear hb2 HR L0 d0 d1 d2 d3 d4 d5
    unfold rc at R0
    obtain ⟨c0, c1⟩ := R0.out.box.cells
    obtain ⟨z0, z1⟩ := R0.out.box.frees
    have RE := Lib.hid (R0.out.put (0, 0))
    clear R0
    go_wp2_with fail
    refine bodyPost_ret (v := frv9 X) ?_ rfl ⟨rfl, RE.out.below⟩
    rw [results_cell_tmp rfl]
    exact end_rbox hX.out rfl rfl RE.out.box
  · rw [if_neg hn] at HR
    unfold frv9 at HR
    rcases (show (most < n ∧ X = (0, 0, 101)) ∨ (¬ most < n ∧ X = (2, n, 0)) by
      rw [hX, if_neg hn]
      by_cases hm : most < n
      · exact .inl ⟨hm, if_pos hm⟩
      · exact .inr ⟨hm, if_neg hm⟩) with ⟨hm, hX⟩ | ⟨hm, hX⟩
    · replace hX := Lib.hid hX
      clear hn
      go_enter Tryz.func59, Tryz.ntmps59
      go_wp2_with fail
      generalize (w.alloc (.cells #[.string (ofL h.method), .string (ofL h.target), .int .i64 h.status, .string (ofL h.reason), .int .i64 h.minor, v] 31)).alloc (.cells #[.int .i64 0, .int .i64 0] 65) = W at *
      refine HR.out.mono ?_
      rintro e w2 ⟨rfl, hb2⟩
      replace R0 := Lib.hid ((R0.out.call hb2).call ((Below.refl _ _).alloc (Nat.le_refl _) (.cells (rc (2, n)) 65)))
      have F0 : RBox (w2.alloc (.cells (rc (2, n)) 65)) w2.heap.size (2, n) := ⟨Has.new w2 _ _⟩
      clear hb2 HR L0 d0 d1 d2 d3 d4 d5
      unfold rc at R0 F0
      obtain ⟨f0, f1⟩ := F0.cells
      clear F0
      obtain ⟨c0, c1⟩ := R0.out.box.cells
      obtain ⟨z0, z1⟩ := R0.out.box.frees
      have RE := Lib.hid (R0.out.put (0, 0))
      clear R0
      go_wp2_with fail
      refine bodyPost_ret (v := frv9 X) ?_ rfl ⟨rfl, RE.out.below⟩
      rw [results_cell_tmp rfl]
      exact end_rbox hX.out rfl rfl RE.out.box
    · replace hX := Lib.hid hX
      clear hn
      go_enter Tryz.func59, Tryz.ntmps59
      go_wp2_with fail
      generalize (w.alloc (.cells #[.string (ofL h.method), .string (ofL h.target), .int .i64 h.status, .string (ofL h.reason), .int .i64 h.minor, v] 31)).alloc (.cells #[.int .i64 0, .int .i64 0] 65) = W at *
      refine HR.out.mono ?_
      rintro e w2 ⟨rfl, hb2⟩
      replace R0 := Lib.hid ((R0.out.call hb2).call ((Below.refl _ _).alloc (Nat.le_refl _) (.cells (rc (2, n)) 65)))
      have F0 : RBox (w2.alloc (.cells (rc (2, n)) 65)) w2.heap.size (2, n) := ⟨Has.new w2 _ _⟩
      clear hb2 HR L0 d0 d1 d2 d3 d4 d5
      unfold rc at R0 F0
      obtain ⟨f0, f1⟩ := F0.cells
      clear F0
      obtain ⟨c0, c1⟩ := R0.out.box.cells
      obtain ⟨z0, z1⟩ := R0.out.box.frees
      have RE := Lib.hid (R0.out.put (2, n))
      clear R0
      go_wp2_with fail
      refine bodyPost_ret (v := frv9 X) ?_ rfl ⟨rfl, RE.out.below⟩
      rw [results_cell_tmp rfl]
      exact end_rbox hX.out rfl rfl RE.out.box
end Go.Proofs.YtmlpdhmafmdkcaaGreatDoor.PFrSized

/- Layer 9 of the program: Request. -/
namespace Go.Proofs.YtmlpdhmafmdkcaaGreatDoor.PFrReq
open Go.ChangeShapes Go.WideShapes Go.ChangeAt Go.RowKit LexPure Bytes Ret Rows1 Texts FieldsPure HeadPure FramePure FrNames Flds PLib PFrCh PFrRef PFrHas PFrEnc PFrSized HBox FrBox Held Mem
set_option maxRecDepth 20000
theorem request_prog (minor : Int) (G : List HField) (most : Int) : request9 minor G most = if 0 < getN G TENC then enc9 minor G (refN (elems G TENC)) else if 0 < getN G CLEN then bound9 G most else (1, 0, 0) := by
  unfold request9 enc9 bound9 refN
  by_cases h1 : 0 < getN G TENC
  · rw [if_pos h1, if_pos h1]
    by_cases h2 : minor = 0 ∨ 0 < getN G CLEN
    · rw [if_pos h2, if_pos (by rcases h2 with h | h; exact .inl h; exact .inr (.inl h))]
    · rw [if_neg h2]
      rcases code_three (elems G TENC) with h | h | h
      · rw [if_neg (by rw [h]; rintro (a | a | a); exact h2 (.inl a); exact h2 (.inr a); cases a), if_pos h, if_neg (by rw [h]; decide)]
      · rw [if_neg (by rw [h]; rintro (a | a | a); exact h2 (.inl a); exact h2 (.inr a); cases a), if_pos h, if_neg (by rw [h]; decide), if_pos h]
      · rw [if_pos (.inr (.inr h)), if_neg (by rw [h]; decide), if_neg (by rw [h]; decide)]
  · rw [if_neg h1, if_neg h1]
    by_cases h2 : getN G CLEN = 0
    · rw [if_pos h2, if_neg (by omega)]
    · rw [if_neg h2, if_pos (Nat.pos_of_ne_zero h2)]
/-- a call of this layer: its head, its answer's box, MaxLen's cell -/
structure PQ (w W : World) (h : H8) (v : Value) (x : Int × Int) : Prop where
  lb : LB w W w.heap.size h v
  rb : RB w W (w.heap.size + 1) x
  mi : MaxInt W
theorem PQ.call {w W W' : World} {h : H8} {v : Value} {x : Int × Int} (q : PQ w W h v x) (hb : Below W.heap.size W W') : PQ w W' h v x := ⟨q.lb.call hb, q.rb.call hb, q.mi.below hb⟩
theorem PQ.drew {w W : World} {h : H8} {v : Value} {x : Int × Int} (q : PQ w W h v x) : PQ w W.drew h v x := q.call ⟨rfl, rfl, rfl, Nat.le_refl _, fun _ _ => rfl⟩
theorem PQ.after {w W : World} {h : H8} {v : Value} {x : Int × Int} (q : PQ w W h v x) (y : Int × Int) : HBox (rput W (w.heap.size + 1) y) w.heap.size h v :=
  (q.lb.box.far (p := ⟨w.heap.size + 1, 0, none⟩) (by simp) _).far (p := ⟨w.heap.size + 1, 1, none⟩) (by simp) _
set_option maxHeartbeats 1600000 in
theorem prequest_any (h : H8) (v : Value) (most : Int) (hG : Few h.fields) (hle : h.fields.length ≤ 1048576) (w : World) (hF : FL w v h.fields) (hm : MaxInt w) :
    Calls Tryz.prog 38 #[hv h v, .int .i64 most] w fun e w' => e = .returned (frv9 (request9 h.minor h.fields most)) ∧ Below w.heap.size w w' := by
  obtain ⟨L0, R0⟩ := start9 w h v hF
  have HM := Lib.hid (hm.below L0.below)
  have HT := Lib.hid (pfrhas_any h v ⟨#[84, 114, 97, 110, 115, 102, 101, 114, 45, 69, 110, 99, 111, 100, 105, 110, 103]⟩ hG _ L0.list)
  rw [show toL ⟨#[84, 114, 97, 110, 115, 102, 101, 114, 45, 69, 110, 99, 111, 100, 105, 110, 103]⟩ = aTENC from rfl, getN_same low_t] at HT
  have HC := Lib.hid (fun w hF => pfrhas_any h v ⟨#[67, 111, 110, 116, 101, 110, 116, 45, 76, 101, 110, 103, 116, 104]⟩ hG w hF)
  rw [show toL ⟨#[67, 111, 110, 116, 101, 110, 116, 45, 76, 101, 110, 103, 116, 104]⟩ = aCLEN from rfl, getN_same low_l] at HC
  have HR := Lib.hid (fun w hF hm => pref_any h v hG hle w hF hm)
  have HE := Lib.hid (fun o w hF hm => penc_any h v o hG hle w hF hm)
  have HB := Lib.hid (fun w hF => pbound_any h v most hG hle w hF)
  obtain ⟨X, hX⟩ : ∃ X, X = request9 h.minor h.fields most := ⟨_, rfl⟩
  rw [← hX]
  rw [request_prog] at hX
  generalize bound9 h.fields most = xb at *
  generalize refN (elems h.fields TENC) = xr at *
  replace HE := Lib.hid (HE.out xr)
  generalize enc9 h.minor h.fields xr = xe at *
  generalize getN h.fields TENC = k1 at *
  generalize getN h.fields CLEN = k2 at *
  clear hF hm
  unfold hc rc at L0 R0 HM HT
  unfold hv at HT HC HR HE HB ⊢
  obtain ⟨d0, d1, d2, d3, d4, d5⟩ := L0.box.cells
  replace L0 := Lib.hid L0
  replace R0 := Lib.hid R0
  go_enter Tryz.func38, Tryz.ntmps38
  go_wp2_with fail
  generalize (w.alloc (.cells #[.string (ofL h.method), .string (ofL h.target), .int .i64 h.status, .string (ofL h.reason), .int .i64 h.minor, v] 31)).alloc (.cells #[.int .i64 0, .int .i64 0] 65) = W at *
  refine HT.out.mono ?_
  rintro e w2 ⟨rfl, hb2⟩
  replace HM := Lib.hid (HM.out.below hb2)
  replace L0 := Lib.hid (L0.out.call hb2)
  replace R0 := Lib.hid (R0.out.call hb2)
  clear HT hb2 d0 d1 d2 d3 d4 d5
  obtain ⟨d0, d1, d2, d3, d4, d5⟩ := L0.out.box.cells
  by_cases h1 : 0 < k1
  · replace hX := Lib.hid (show X = xe by rw [hX, if_pos h1])
    rw [decide_eq_true h1]
    have P1 : PQ w w2 h v (0, 0) := ⟨L0.out, R0.out, HM.out⟩
    have c1 := P1.drew.lb.box.cells
    clear h1 HC HB L0 R0 HM d0 d1 d2 d3 d4 d5
    unfold frv9 at HE
    go_wp2_with fail
    go_region_held3 (fun w' => w'.cell? ⟨w.heap.size, 0, none⟩ = some (.string (ofL h.method)) ∧ w'.cell? ⟨w.heap.size, 1, none⟩ = some (.string (ofL h.target)) ∧ w'.cell? ⟨w.heap.size, 2, none⟩ = some (.int .i64 h.status) ∧ w'.cell? ⟨w.heap.size, 3, none⟩ = some (.string (ofL h.reason)) ∧ w'.cell? ⟨w.heap.size, 4, none⟩ = some (.int .i64 h.minor) ∧ w'.cell? ⟨w.heap.size, 5, none⟩ = some v) (first | exact c4 | exact c3 | exact c2 | exact c1)
      (first
        | (go_at_call 58; refine (HR.out _ P1.drew.lb.list P1.drew.mi).mono ?_; rintro e w3 ⟨rfl, hb3⟩
           have P2 := P1.drew.call hb3
           have c2 := P2.lb.box.cells
           clear hb3 HR)
        | (go_at_call 57; refine (HE.out _ P2.lb.list P2.mi).mono ?_; rintro e w4 ⟨rfl, hb4⟩
           have P3 := P2.call hb4
           have c3 := P3.lb.box.cells
           have c4 := (P3.after (xe.1, xe.2.1)).cells
           obtain ⟨y0, y1⟩ := P3.rb.box.cells
           obtain ⟨z0, z1⟩ := P3.rb.box.frees
           clear hb4 HE))
    have RE := Lib.hid (P3.rb.put (xe.1, xe.2.1))
    have HX : X = (xe.1, xe.2.1, xe.2.2) := hX.out
    clear P1 P2 P3 c1 c2 c3 c4 y0 y1 z0 z1 hX
    go_wp2_with fail
    refine bodyPost_ret (v := frv9 X) ?_ rfl ⟨rfl, RE.out.below⟩
    rw [results_cell_tmp rfl]
    exact end_rbox HX rfl rfl RE.out.box
  · rw [if_neg h1] at hX
    rw [decide_eq_false h1]
    have HC1 := Lib.hid (HC.out _ L0.out.list)
    clear h1 HE HR HC
    go_wp2_with fail
    refine HC1.out.mono ?_
    rintro e w3 ⟨rfl, hb3⟩
    replace L0 := Lib.hid (L0.out.call hb3)
    replace R0 := Lib.hid (R0.out.call hb3)
    clear HC1 hb3 HM d0 d1 d2 d3 d4 d5
    obtain ⟨d0, d1, d2, d3, d4, d5⟩ := L0.out.box.cells
    by_cases h2 : 0 < k2
    · have HX : X = (xb.1, xb.2.1, xb.2.2) := by rw [hX, if_pos h2]
      replace HX := Lib.hid HX
      rw [decide_eq_true h2]
      have HB1 := Lib.hid (HB.out _ L0.out.list)
      unfold frv9 at HB1
      clear h2 hX HB
      go_wp2_with fail
      refine HB1.out.mono ?_
      rintro e w4 ⟨rfl, hb4⟩
      replace R0 := Lib.hid (R0.out.call hb4)
      clear HB1 hb4 L0 d0 d1 d2 d3 d4 d5
      obtain ⟨c0, c1⟩ := R0.out.box.cells
      obtain ⟨z0, z1⟩ := R0.out.box.frees
      have RE := Lib.hid (R0.out.put (xb.1, xb.2.1))
      clear R0
      go_wp2_with fail
      refine bodyPost_ret (v := frv9 X) ?_ rfl ⟨rfl, RE.out.below⟩
      rw [results_cell_tmp rfl]
      exact end_rbox HX.out rfl rfl RE.out.box
    · have HX : X = (1, 0, 0) := by rw [hX, if_neg h2]
      replace HX := Lib.hid HX
      rw [decide_eq_false h2]
      clear h2 hX HB L0 d0 d1 d2 d3 d4 d5
      obtain ⟨c0, c1⟩ := R0.out.box.cells
      obtain ⟨z0, z1⟩ := R0.out.box.frees
      have RE := Lib.hid (R0.out.put (1, 0))
      clear R0
      go_wp2_with fail
      refine bodyPost_ret (v := frv9 X) ?_ rfl ⟨rfl, RE.out.below⟩
      rw [results_cell_tmp rfl]
      exact end_rbox HX.out rfl rfl RE.out.box
end Go.Proofs.YtmlpdhmafmdkcaaGreatDoor.PFrReq

/- Layer 9 of the program: Keep. -/
namespace Go.Proofs.YtmlpdhmafmdkcaaGreatDoor.PKeep9
open Go.ChangeShapes Go.WideShapes Go.ChangeAt Go.RowKit LexPure Bytes Ret FieldsPure HeadPure FramePure FrNames Flds PLib PHas7 HBox Mem
set_option maxRecDepth 20000
theorem pkeep_any (h : H8) (v : Value) (hG : Few h.fields) (w : World) (hF : FL w v h.fields) (hm : MaxInt w) :
    Calls Tryz.prog 39 #[hv h v] w fun e w' => e = .returned (.bool (keep9 h.minor h.fields)) ∧ Below w.heap.size w w' := by
  have hb1 := (Below.refl w.heap.size w).alloc (Nat.le_refl _) (.cells (hc h v) 31)
  have B0 : HBox (w.alloc (.cells (hc h v) 31)) w.heap.size h v := ⟨Has.new w _ _⟩
  have hsz : w.heap.size < (w.alloc (.cells (hc h v) 31)).heap.size := by simp
  have hF1 := hF.below hb1
  have hx1 := Lib.hid (hm.below hb1)
  clear hm
  have H1 := Lib.hid (fun w hM hF => phas_any v h.fields ⟨#[67, 111, 110, 110, 101, 99, 116, 105, 111, 110]⟩ ⟨#[99, 108, 111, 115, 101]⟩ hG w hM hF)
  have H2 := Lib.hid (fun w hM hF => phas_any v h.fields ⟨#[67, 111, 110, 110, 101, 99, 116, 105, 111, 110]⟩ ⟨#[107, 101, 101, 112, 45, 97, 108, 105, 118, 101]⟩ hG w hM hF)
  have hk : keep9 h.minor h.fields = (!hasE h.fields (toL ⟨#[67, 111, 110, 110, 101, 99, 116, 105, 111, 110]⟩) (toL ⟨#[99, 108, 111, 115, 101]⟩) && (h.minor != 0 || hasE h.fields (toL ⟨#[67, 111, 110, 110, 101, 99, 116, 105, 111, 110]⟩) (toL ⟨#[107, 101, 101, 112, 45, 97, 108, 105, 118, 101]⟩))) := by
    have e1 := hasE_same low_c h.fields CLOSE
    have e2 := hasE_same low_c h.fields KEEPA
    unfold keep9
    rw [← e1, ← e2]
    rfl
  rw [hk]
  clear hk
  generalize hasE h.fields (toL ⟨#[67, 111, 110, 110, 101, 99, 116, 105, 111, 110]⟩) (toL ⟨#[99, 108, 111, 115, 101]⟩) = b1 at *
  generalize hasE h.fields (toL ⟨#[67, 111, 110, 110, 101, 99, 116, 105, 111, 110]⟩) (toL ⟨#[107, 101, 101, 112, 45, 97, 108, 105, 118, 101]⟩) = b2 at *
  obtain ⟨p, cap, rfl, _, _⟩ := id hF
  unfold hc at hb1 B0 hF1 hsz hx1
  unfold hv
  replace hb1 := Lib.hid hb1
  replace hF1 := Lib.hid hF1
  replace B0 := Lib.hid B0
  clear hF
  go_enter Tryz.func39, Tryz.ntmps39
  go_wp2_with fail
  generalize w.alloc (.cells #[.string (ofL h.method), .string (ofL h.target), .int .i64 h.status, .string (ofL h.reason), .int .i64 h.minor, .slice p h.fields.length cap] 31) = W at *
  obtain ⟨g, hg⟩ : ∃ g, g = w.heap.size := ⟨_, rfl⟩
  rw [← hg] at B0 hsz ⊢
  replace hg := Lib.hid hg
  refine (H1.out _ hx1.out hF1.out).mono ?_
  rintro e w1 ⟨rfl, hb2⟩
  have hx2 := Lib.hid (hx1.out.below hb2)
  have hF2 := Lib.hid (hF1.out.below hb2)
  have B1 := Lib.hid (B0.out.below hb2 hsz)
  have HB := Lib.hid (below_chain hb1.out hb2)
  obtain ⟨d0, d1, d2, d3, d4, d5⟩ := B1.out.cells
  clear hb2 H1 B0 B1 hF1 hb1 hx1
  cases b1 with
  | true =>
    go_wp2_with fail
    go_ret
    exact ⟨rfl, HB.out⟩
  | false =>
    by_cases hm : h.minor = 0
    · have hm1 : (h.minor != 0) = false := by rw [hm]; rfl
      clear hm
      have hq : (!false && (h.minor != 0 || b2)) = b2 := by rw [hm1]; rfl
      replace hq := Lib.hid hq
      go_wp2_with fail
      refine (H2.out _ hx2.out hF2.out).mono ?_
      rintro e w2 ⟨rfl, hb2⟩
      replace HB := Lib.hid (below_chain HB.out hb2)
      clear hb2 H2 hF2 hx2
      go_wp2_with fail
      go_ret
      exact ⟨ret_bool hq.out.symm, HB.out⟩
    · have hm1 : (h.minor != 0) = true := bne_iff_ne.2 hm
      clear hm
      have hq : (!false && (h.minor != 0 || b2)) = true := by rw [hm1]; rfl
      replace hq := Lib.hid hq
      go_wp2_with fail
      go_ret
      exact ⟨ret_bool hq.out.symm, HB.out⟩
end Go.Proofs.YtmlpdhmafmdkcaaGreatDoor.PKeep9
