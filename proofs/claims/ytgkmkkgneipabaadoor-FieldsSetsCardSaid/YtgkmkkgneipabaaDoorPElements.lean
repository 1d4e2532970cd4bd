/- Layer 4 of the program: Elements. -/
import Derived.Test.YtgkmkkgneipabaaDoorPText
import Derived.Test.YtgkmkkgneipabaaDoorLexList
import Derived.Test.YtgkmkkgneipabaaDoorMem
import Derived.Handy
import Derived.Maps.AppendAt
import Derived.Laws.DeepStrings4
namespace Go.Proofs.YtgkmkkgneipabaaDoor.PElements
open Go.ChangeShapes Go.WideShapes Go.ChangeAt Go.RowKit LexPure Bytes Ret LexSplit LexList PLib PText Texts Rows1 Mem
set_option maxRecDepth 20000
theorem elements_one (s : List UInt8) : elements s = (pieces s).flatMap one := by
  unfold elements
  induction pieces s with
  | nil => rfl
  | cons p ps ih =>
    rw [List.flatMap_cons, ← ih, List.map_cons, List.filter_cons]
    unfold one
    cases h : (trim p).isEmpty <;> simp
theorem pieces_length (s : List UInt8) : (pieces s).length ≤ s.length + 1 := by
  induction s with
  | nil => simp [pieces]
  | cons c s ih =>
    unfold pieces
    split
    · simp only [List.length_cons]; omega
    · split
      · simp
      · rename_i h
        rw [h] at ih
        simp only [List.length_cons] at ih ⊢; omega
theorem pieces_mem (s : List UInt8) : ∀ p ∈ pieces s, p.length ≤ s.length := by
  induction s with
  | nil => intro p hp; simp [pieces] at hp; subst hp; simp
  | cons c s ih =>
    intro p hp
    unfold pieces at hp
    split at hp
    · rcases List.mem_cons.1 hp with rfl | hp
      · simp
      · have := ih p hp; simp only [List.length_cons]; omega
    · split at hp
      · rcases List.mem_cons.1 hp with rfl | hp
        · simp
        · cases hp
      · rename_i q qs h
        rcases List.mem_cons.1 hp with rfl | hp
        · have := ih q (by rw [h]; exact List.mem_cons_self ..)
          simp only [List.length_cons]; omega
        · have := ih p (by rw [h]; exact List.mem_cons_of_mem _ hp)
          simp only [List.length_cons]; omega
/-- behind the first k pieces -/
structure PInv (w : World) (L : List (List UInt8)) (k : Nat) (v : Value) (G : List (List UInt8)) (wr : World) : Prop where
  row : wr.ownsRow w.heap.size 9 1 v G.length (strs G)
  below : Below w.heap.size w wr
  got : G = (L.take k).flatMap one
  few : G.length ≤ k
theorem ownsRow_mono {w : World} {base base' n size : Nat} {e : TypeId} {v : Value} {xs : List Value} (h : w.ownsRow base e size v n xs) (hb : base' ≤ base) : w.ownsRow base' e size v n xs := by
  refine ⟨h.1, ?_⟩
  rcases h.2 with h0 | ⟨g, cap, cur, h1, h2, h3⟩
  · exact .inl h0
  · exact .inr ⟨g, cap, cur, h1, Nat.le_trans hb h2, h3⟩
theorem ownsRow_below {w w' : World} {base n size : Nat} {e : TypeId} {v : Value} {xs : List Value} (h : w.ownsRow base e size v n xs) (hb : Below w.heap.size w w') : w'.ownsRow base e size v n xs := by
  refine ⟨h.1, ?_⟩
  rcases h.2 with h0 | ⟨g, cap, cur, h1, h2, h3, h4⟩
  · exact .inl h0
  · exact .inr ⟨g, cap, cur, h1, h2, by rw [hb.block g (Array.getElem?_eq_some_iff.1 h3).1]; exact h3, h4⟩
set_option maxHeartbeats 1600000 in
theorem pelements_any (s : ByteArray) (hs : s.size < 4294967281) (w : World) (hm : MaxInt w) :
    Calls Tryd.prog 33 #[.string s] w fun e w' => ∃ v, e = .returned v ∧ w'.ownsRow w.heap.size 9 1 v (elements (toL s)).length (strs (elements (toL s))) ∧ Below w.heap.size w w' := by
  obtain ⟨i0, hi, hz0, hz1, hz2⟩ := info_parts infoS
  have HS := Lib.hid (lib_split s hs w hm)
  have hL := pieces_length (toL s)
  rw [toL_length] at hL
  have hP := pieces_mem (toL s)
  rw [toL_length] at hP
  have HP := Lib.hid hP
  have HE := Lib.hid (elements_one (toL s))
  clear hP hm
  go_enter Tryd.func33, Tryd.ntmps33
  go_wp2_with fail
  refine HS.out.mono ?_
  rintro e w1 ⟨v0, rfl, hT, hb⟩
  clear HS
  obtain ⟨p, cap, rfl, hn1, _⟩ := id hT
  have HT := Lib.hid hT
  clear hT
  generalize pieces (toL s) = L at *
  go_wp2_with fail
  have HI0 : Hid (∃ G, PInv w1 L 0 (.slice none 0 0) G w1) := Lib.hid ⟨[], World.ownsRow_nil _ _ _ _, Below.refl _ _, rfl, Nat.le_refl _⟩
  go_loopw [3, 10] (fun v i wr => ∃ k : Nat, k ≤ L.length ∧ i = .int .i64 k ∧ Hid (∃ G, PInv w1 L k v G wr)) (fun _ i _ => L.length - (intOf i).toNat)
  case atStart => exact ⟨0, Nat.zero_le _, rfl, HI0⟩
  case round =>
    obtain ⟨k, hk, rfl, HI⟩ := hrel
    clear HI0
    obtain ⟨G, I⟩ := HI.out
    by_cases hlt : k < L.length
    · have hki : (k : Int) < (L.length : Int) := by omega
      have hrow := I.row
      have hbw := I.below
      have hfew := I.few
      obtain ⟨p', cap', hv, _, hc⟩ := HT.out.below hbw
      injection hv with hv1 hv2 hv3
      subst hv1
      subst hv3
      obtain ⟨g, o, rfl, hg, hcell⟩ := hc (by omega)
      have cx := hcell k hlt
      have hXs : L[k].length ≤ s.size := HP.out _ (List.getElem_mem hlt)
      have hgot : (L.take (k + 1)).flatMap one = G ++ one L[k] := by
        rw [List.take_add_one, List.getElem?_eq_getElem hlt, List.flatMap_append, ← I.got]
        simp
      generalize L[k] = X at *
      have HTr := Lib.hid (fun w => ptrim_any (ofL X) (by rw [ofL_size]; unfold maxLen; omega) w)
      rw [toL_ofL] at HTr
      by_cases hem : (trim X).isEmpty = true
      · have h1 : one X = [] := by unfold one; rw [if_pos hem]
        have e0 : toL (ofL (trim X)) = [] := by rw [toL_ofL]; exact List.isEmpty_iff.1 hem
        have e1 : (ofL (trim X)).toList = [] := by rw [ByteArray.toList_eq]; exact e0
        have e2 : (ofL (trim X)).toList.isEmpty = true := by rw [e1]; rfl
        have HR : Hid (∀ w2, Below wr.heap.size wr w2 → ∃ G, PInv w1 L (k + 1) u3 G w2) := Lib.hid (fun w2 h2 => ⟨G, ownsRow_below hrow h2, below_chain hbw h2, by rw [hgot, h1, List.append_nil], by omega⟩)
        clear hem h1 e0 hrow hc hcell hgot I HI
        generalize ofL (trim X) = E at *
        go_wp2_with (refine (HTr.out _).mono ?_; rintro e w2 ⟨rfl, hb2⟩)
        have HR2 := Lib.hid (HR.out _ hb2)
        clear HR hb2
        go_roundw
        case rel => exact ⟨k + 1, by omega, by go_num, HR2⟩
        case measure => simp [intOf]; omega
      · have h1 : one X = [trim X] := by unfold one; rw [if_neg hem]
        have e1 : ¬ (ofL (trim X)).toList = [] := fun h => by
          rw [ByteArray.toList_eq] at h
          rw [show (ofL (trim X)).data.toList = trim X from toL_ofL _] at h
          rw [h] at hem
          exact hem rfl
        have e2 : (ofL (trim X)).toList.isEmpty = false := by
          cases h : (ofL (trim X)).toList with
          | nil => exact absurd h e1
          | cons => rfl
        have HR : Hid (∀ w2 v' w3, Below wr.heap.size wr w2 → w3.ownsRow w1.heap.size 9 1 v' (G.length + 1) (strs G ++ [.string (ofL (trim X))]) → Below w1.heap.size w2 w3 → ∃ G, PInv w1 L (k + 1) v' G w3) := Lib.hid (fun w2 v' w3 h2 h3 h4 => ⟨G ++ [trim X], by rw [List.length_append, strs_append]; exact h3, (below_chain hbw h2).trans h4, by rw [hgot, h1], by rw [List.length_append]; simp; omega⟩)
        have hs1 := hbw.size
        clear hem h1 hc hcell hgot I HI
        generalize ofL (trim X) = E at *
        go_wp2_with fail
        refine (HTr.out _).mono ?_
        rintro e w2 ⟨rfl, hb2⟩
        have hrow2 := ownsRow_below hrow hb2
        have hs2 := hb2.size
        have HB2 := Lib.hid hb2
        clear hb2 hrow
        go_wp2_with (at_builtin; refine wpList_append_own _ rfl _ _ 30 rfl w1.heap.size 9 i0 (.string ByteArray.empty) 1 16 Tryd.underlying30 hi hz0 hz1 hz2 rfl (by decide) _ _ _ rfl (hrow2.alloc _) ⟨w2.heap.size, 0, none⟩ 1 1 [.string E] rfl rfl (cell_one_new _ _ _) (fun x hx => by simp at hx; subst hx; rfl) (by unfold maxLen; omega) (by omega) (by simp; omega) ?_; intro v' w3 hown' hgrow3 hnil3)
        have HR2 : Hid (∃ G, PInv w1 L (k + 1) v' G w3) := Lib.hid (HR.out w2 v' w3 HB2.out hown' (Below.grown ((Below.refl _ _).alloc (by omega) _) hgrow3 (by simp; omega) (fun j hj => (hrow2.lt _ hj).1)))
        clear hown' hgrow3 hnil3 HR HB2 hrow2
        go_wp2_with fail
        go_roundw
        case rel => exact ⟨k + 1, by omega, by go_num, HR2⟩
        case measure => simp [intOf]; omega
    · have hall : L.take k = L := List.take_of_length_le (by omega)
      have HF : Hid (G = elements (toL s)) := Lib.hid (by rw [HE.out, I.got, hall])
      have HR : Hid (wr.ownsRow w.heap.size 9 1 u3 G.length (strs G) ∧ Below w.heap.size w wr) := Lib.hid ⟨ownsRow_mono I.row hb.size, below_chain hb I.below⟩
      obtain ⟨pv, cv, hpv, _⟩ := row_form I.row
      subst hpv
      clear I HI hall HE hb HT
      go_wp2_with fail
      go_ret
      rw [← HF.out]
      exact ⟨_, rfl, HR.out⟩
end Go.Proofs.YtgkmkkgneipabaaDoor.PElements
