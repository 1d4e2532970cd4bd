/- Layer 5, the document's own Normal. -/
import Derived.Test.YtlhpjinajaociaaDoorREscapes
import Derived.Test.YtlhpjinajaociaaDoorPathForm
import Derived.Test.YtlhpjinajaociaaDoorTexts
import Derived.Maps.AppendAt
import Derived.Laws.DeepStrings4
namespace Go.Proofs.YtlhpjinajaociaaDoor.RNormal
open Go.ChangeShapes Go.WideShapes Go.ChangeAt Go.RowKit LexPure Bytes Ret PathPure RPlain Rows1 REsc REscapes Texts PathForm
def rest (s : ByteArray) (f : Nat) : List (List UInt8) := if f ≤ s.size then cuts ((toL s).drop f) else []
/-- behind k bytes of the path, the last slash ahead of f; G: what is kept, l: the last piece -/
structure NInv (w : World) (s : ByteArray) (k f : Nat) (v : Value) (G : List (List UInt8)) (l : List UInt8) (wr : World) : Prop where
  row : wr.ownsRow w.heap.size 9 1 v G.length (Texts.strs G)
  below : Below w.heap.size w wr
  all_ : keeps [] (cuts (toL s).tail) = keeps G (rest s f)
  le : f ≤ k
  pos : 1 ≤ f
  in_ : k ≤ s.size → f ≤ s.size
  out_ : s.size < k → s.size < f
  no : noSlash (((toL s).drop f).take (k - f)) = true
  few : G.length ≤ k
  last : s.size < f → (cuts (toL s).tail).getLastD [] = l
  pre : ∃ D, cuts (toL s).tail = D ++ rest s f
  short : ∀ e ∈ G, e.length ≤ s.size
theorem rest_end {s : ByteArray} {f : Nat} (hf : f ≤ s.size) (h : noSlash (((toL s).drop f).take (s.size - f)) = true) : rest s f = [((toL s).drop f).take (s.size - f)] := by
  unfold rest
  have e : ((toL s).drop f).take (s.size - f) = (toL s).drop f := List.take_of_length_le (by rw [List.length_drop, toL_length]; omega)
  rw [if_pos hf]
  rw [e] at h ⊢
  exact cuts_plain h
theorem rest_cut {s : ByteArray} {f k : Nat} (hf : f ≤ k) (hk : k < s.size) (h : noSlash (((toL s).drop f).take (k - f)) = true) (hc : s[k] = 47) : rest s f = ((toL s).drop f).take (k - f) :: rest s (k + 1) := by
  unfold rest
  rw [if_pos (by omega), if_pos (by omega)]
  have e : (toL s).drop f = ((toL s).drop f).take (k - f) ++ 47 :: (toL s).drop (k + 1) := by
    have h1 := List.take_append_drop (k - f) ((toL s).drop f)
    rw [List.drop_drop, show f + (k - f) = k by omega, toL_drop s k hk, hc] at h1
    exact h1.symm
  conv => lhs; rw [e]
  exact cuts_cut h
theorem rest_none {s : ByteArray} {f : Nat} (h : s.size < f) : rest s f = [] := by unfold rest; rw [if_neg (by omega)]
/-- one piece has been read: X; what follows begins at k + 1 -/
theorem NInv.step {w wr : World} {s : ByteArray} {k f : Nat} {v : Value} {G : List (List UInt8)} {l : List UInt8} (I : NInv w s k f v G l wr) (hk : k ≤ s.size) (hcut : k = s.size ∨ (∃ h : k < s.size, s[k] = 47)) :
    rest s f = ((toL s).drop f).take (k - f) :: rest s (k + 1) := by
  rcases hcut with h | ⟨h, hc⟩
  · subst h
    rw [rest_end (I.in_ hk) I.no, rest_none (by omega)]
  · exact rest_cut I.le h I.no hc
theorem NInv.next {w wr w' : World} {s : ByteArray} {k f : Nat} {v v' : Value} {G G' : List (List UInt8)} {l : List UInt8} (I : NInv w s k f v G l wr) (hk : k ≤ s.size) (hcut : k = s.size ∨ (∃ h : k < s.size, s[k] = 47))
    (hr : w'.ownsRow w.heap.size 9 1 v' G'.length (Texts.strs G')) (hb : Below w.heap.size w w') (hg : keeps G (((toL s).drop f).take (k - f) :: rest s (k + 1)) = keeps G' (rest s (k + 1))) (hl : G'.length ≤ G.length + 1) (hs : ∀ e ∈ G', e.length ≤ s.size) :
    NInv w s (k + 1) (k + 1) v' G' (((toL s).drop f).take (k - f)) w' := by
  have hst := I.step hk hcut
  obtain ⟨D, hD⟩ := I.pre
  refine ⟨hr, hb, by rw [I.all_, hst, hg], Nat.le_refl _, by omega, fun h => h, fun h => h, by rw [Nat.sub_self]; rfl, by have := I.few; omega, fun h => ?_, ⟨D ++ [((toL s).drop f).take (k - f)], by rw [hD, hst, List.append_assoc]; rfl⟩, hs⟩
  rw [hD, hst, rest_none h, List.getLastD_eq_getLast?, List.getLast?_append]
  rfl
theorem ret_norm {a b : ByteArray} {n : Int} (h : a = b) : Ending.returned (.tuple #[.string a, .int .i64 n]) = .returned (.tuple #[.string b, .int .i64 n]) := by rw [h]
/-- the text that Normal answers, and the error -/
def normS (s : List UInt8) : ByteArray := ofL ((normal s).getD [])
def normE (s : List UInt8) : Int := if (normal s).isSome then 0 else 50
theorem norm_none {s : List UInt8} (h : normal s = none) : normS s = ⟨#[]⟩ ∧ normE s = 50 := by
  unfold normS normE
  rw [h]
  exact ⟨rfl, rfl⟩
theorem norm_some {s t : List UInt8} (h : normal s = some t) : normS s = ofL t ∧ normE s = 0 := by
  unfold normS normE
  rw [h]
  exact ⟨rfl, rfl⟩
theorem wr_len (n : Nat) : (PathPure.wr n).length ≤ 3 := by
  unfold PathPure.wr
  split <;> simp
theorem esc_len : ∀ (n : Nat) {s t : List UInt8}, s.length ≤ n → esc s = some t → t.length ≤ s.length
  | _, [], t, _, h => by
    simp only [esc, Option.some.injEq] at h
    subst h
    exact Nat.le_refl _
  | 0, c :: s, t, hn, _ => by simp at hn
  | n + 1, c :: s, t, hn, h => by
    rw [esc_cons] at h
    split at h
    · split at h
      · split at h
        · rename_i a b r
          split at h
          · obtain ⟨u, hu, rfl⟩ := Option.map_eq_some_iff.1 h
            have ih := esc_len n (s := r) (by simp at hn; omega) hu
            have := wr_len (two a b)
            simp
            omega
          · cases h
        · cases h
      · obtain ⟨u, hu, rfl⟩ := Option.map_eq_some_iff.1 h
        have ih := esc_len n (s := s) (by simp at hn; omega) hu
        simp
        omega
    · cases h
theorem escapes_esc {s t : List UInt8} (h : escapes s = some t) : esc s = some t ∧ ∃ r, s = 47 :: r := by
  cases s with
  | nil => cases h
  | cons c r =>
    have h : (if (c == 47) = true then esc (c :: r) else none) = some t := h
    by_cases hc : (c == 47) = true
    · rw [if_pos hc] at h
      exact ⟨h, r, by rw [show c = 47 by simpa using hc]⟩
    · rw [if_neg hc] at h
      cases h
theorem escapes_len {s t : List UInt8} (h : escapes s = some t) : t.length ≤ s.length := esc_len _ (Nat.le_refl _) (escapes_esc h).1
theorem escapes_pos {s t : List UInt8} (h : escapes s = some t) : 1 ≤ t.length := by
  obtain ⟨he, r, rfl⟩ := escapes_esc h
  rw [esc_cons, if_pos (by decide), if_neg (by decide)] at he
  obtain ⟨u, _, rfl⟩ := Option.map_eq_some_iff.1 he
  simp
theorem join_len {n : Nat} : ∀ {G : List (List UInt8)}, (∀ e ∈ G, e.length ≤ n) → (join G).length ≤ G.length * (n + 1)
  | [], _ => by simp [join]
  | e :: G, h => by
    have h0 := h e (by simp)
    have h1 := join_len (G := G) (fun x hx => h x (by simp [hx]))
    show ((47 :: e) ++ join G).length ≤ _
    rw [List.length_append, List.length_cons, List.length_cons, Nat.add_mul, Nat.one_mul]
    omega
theorem join_nil {G : List (List UInt8)} : (join G).isEmpty = G.isEmpty := by
  cases G <;> rfl
theorem join_snoc (G : List (List UInt8)) (e : List UInt8) : join (G ++ [e]) = join G ++ 47 :: e := by simp [join]
theorem keeps_up {G ps : List (List UInt8)} {X : List UInt8} (h1 : isDot X = false) (h2 : isUp X = true) : keeps G (X :: ps) = if G.isEmpty then none else keeps G.dropLast ps := by
  rw [keeps, if_neg (by simp [h1]), if_pos h2]
theorem keeps_in {G ps : List (List UInt8)} {X : List UInt8} (h1 : isDot X = false) (h2 : isUp X = false) : keeps G (X :: ps) = keeps (G ++ [X]) ps := by
  rw [keeps, if_neg (by simp [h1]), if_neg (by simp [h2])]
set_option maxHeartbeats 4000000 in
theorem rnormal_any (s : ByteArray) (hs : s.size ≤ 1048576) (w : World) :
    Calls Tryd.prog 11 #[.string s] w fun e w' => e = .returned (.tuple #[.string (normS (toL s)), .int .i64 (normE (toL s))]) ∧ Below w.heap.size w w' := by
  obtain ⟨i0, hi, hz0, hz1, hz2⟩ := info_parts infoS
  have HE := Lib.hid (fun w => rescapes_any s (by omega) w)
  cases hesc : escapes (toL s) with
  | none =>
    have hn : normal (toL s) = none := by unfold normal; rw [hesc]
    rw [(norm_none hn).1, (norm_none hn).2]
    rw [hesc] at HE
    clear hn hesc
    go_enter Tryd.func11, Tryd.ntmps11
    go_wp2_with fail
    refine (HE.out _).mono ?_
    rintro e w1 ⟨rfl, hb1⟩
    go_wp2_with fail
    go_ret2
    exact ⟨rfl, hb1⟩
  | some u =>
    have hul : u.length ≤ s.size := by
      have := escapes_len hesc
      rwa [toL_length] at this
    have hu1 : 1 ≤ u.length := escapes_pos hesc
    have hn : normal (toL s) = (keeps [] (cuts u.tail)).map (fun kept => finish kept (cuts u.tail)) := by
      unfold normal
      rw [hesc]
      simp only
      cases keeps [] (cuts u.tail) <;> rfl
    rw [hesc] at HE
    have HNM := Lib.hid hn
    clear hn hesc
    obtain ⟨p, hp⟩ : ∃ p, p = ofL u := ⟨_, rfl⟩
    have hpu : toL p = u := by rw [hp, toL_ofL]
    have hps : p.size = u.length := by rw [hp, ofL_size]
    have hpl : p.size ≤ 1048576 := by omega
    have hp1 : 1 ≤ p.size := by omega
    rw [show (some u).getD [] = u from rfl, ← hp] at HE
    clear hul hu1 hps hp
    rw [← hpu] at HNM
    clear hpu
    go_enter Tryd.func11, Tryd.ntmps11
    go_wp2_with fail
    refine (HE.out _).mono ?_
    rintro e w1 ⟨rfl, hb1⟩
    go_wp2_with fail
    have I0 : Hid (∃ G, NInv w p 1 1 (.slice none 0 0) G [] w1) := Lib.hid ⟨[], World.ownsRow_nil _ _ _ _, hb1, by unfold rest; rw [if_pos hp1, List.drop_one], Nat.le_refl _, Nat.le_refl _, fun _ => hp1, fun h => h, by rw [Nat.sub_self]; rfl, Nat.zero_le _, fun h => by omega, ⟨[], by unfold rest; rw [if_pos hp1, List.drop_one]; rfl⟩, fun e he => by simp at he⟩
    clear hb1 HE hs
    go_loopw [6, 7, 8, 9] (fun kv lv fv i wr => ∃ k : Nat, k ≤ p.size + 1 ∧ i = .int .i64 k ∧ ∃ f : Nat, fv = .int .i64 f ∧ ∃ l : List UInt8, lv = .string (ofL l) ∧ Hid (∃ G, NInv w p k f kv G l wr)) (fun _ _ _ i _ => p.size + 1 - (intOf i).toNat)
    case atStart => exact ⟨1, by omega, rfl, 1, rfl, [], rfl, I0⟩
    case round =>
      obtain ⟨k, hk, rfl, f, rfl, l, rfl, HI⟩ := hrel
      obtain ⟨G, I⟩ := HI.out
      clear HI I0
      have hfk := I.le
      have hbs := I.below.size
      by_cases hle : k ≤ p.size
      · have hki : (k : Int) ≤ (p.size : Int) := by omega
        have hfs := I.in_ hle
        by_cases hcut : k = p.size ∨ (∃ h : k < p.size, p[k] = 47)
        · have hfi : (f : Int) ≤ (k : Int) := by omega
          have hx : (¬ (k : Int) < (p.size : Int)) ∨ (∃ h : k < p.size, (k : Int) < (p.size : Int) ∧ ((p[k].toNat : Int) != 47) = false) := by
            rcases hcut with h | ⟨h, hc⟩
            · exact .inl (by omega)
            · exact .inr ⟨h, by omega, by rw [hc]; rfl⟩
          have hXE : p.extract f k = ofL (((toL p).drop f).take (k - f)) := by
            refine toL_inj ?_
            rw [toL_extract, toL_ofL, List.drop_take]
          have HX := Lib.hid hXE
          have HST := Lib.hid (I.step hle hcut)
          have HN := Lib.hid (fun G' v' w' => I.next (G' := G') (v' := v') (w' := w') hle hcut)
          have hXl : (((toL p).drop f).take (k - f)).length ≤ p.size := by rw [List.length_take, List.length_drop, toL_length]; omega
          generalize ((toL p).drop f).take (k - f) = X at *
          have hET : (p.extract f k).toList = X := by rw [ByteArray.toList_eq, HX.out]; exact toL_ofL X
          obtain ⟨pp, cap, rfl, hcap, _⟩ := row_cells I.row
          have hrow := I.row
          have hbw := I.below
          have hfew := I.few
          have HS := Lib.hid I.short
          have HALL := Lib.hid I.all_
          clear I hcut hXE
          by_cases hdot : isDot X = true
          · have hk2 : keeps G (X :: rest p (k + 1)) = keeps G (rest p (k + 1)) := by rw [keeps, if_pos hdot]
            have HR : Hid (∃ G', NInv w p (k + 1) (k + 1) (.slice pp G.length cap) G' X wr) := Lib.hid ⟨G, HN.out G _ wr hrow hbw hk2 (by omega) HS.out⟩
            have hd : X = [] ∨ X = [46] := by
              unfold isDot at hdot
              rw [Bool.or_eq_true, List.isEmpty_iff, beq_iff_eq] at hdot
              exact hdot
            clear HN HS HALL HST hk2 hrow hbw hdot
            rcases hd with rfl | rfl
            all_goals
              rcases hx with hq | ⟨hlt, hq, hc⟩
              all_goals
                go_wp2_with fail
                go_roundw
                case rel => exact ⟨k + 1, by omega, by go_num, k + 1, by go_num, _, by rw [HX.out], HR⟩
                case measure => simp [intOf]; omega
          · have hdot : isDot X = false := by simpa using hdot
            by_cases hup : isUp X = true
            · have hX2 : X = [46, 46] := by
                unfold isUp at hup
                rwa [beq_iff_eq] at hup
              by_cases hG : G = []
              · have hnone : keeps [] (cuts (toL p).tail) = none := by
                  rw [HALL.out, HST.out, keeps_up hdot hup, hG]
                  rfl
                have hgl : ((G.length : Int) == 0) = true := by rw [hG]; rfl
                rw [hX2] at hET
                have HNONE := Lib.hid (norm_none (by rw [HNM.out, hnone]; rfl))
                clear HN HS HALL HST hrow hdot hup hnone
                rcases hx with hq | ⟨hlt, hq, hc⟩
                all_goals
                  go_wp2_with fail
                  go_ret2
                  rw [HNONE.out.1, HNONE.out.2]
                  exact ⟨rfl, hbw⟩
              · have hgl : ((G.length : Int) == 0) = false := beq_eq_false_iff_ne.2 (fun h => hG (List.length_eq_zero_iff.1 (by omega)))
                have hg0 : 1 ≤ G.length := by
                  cases G with
                  | nil => exact absurd rfl hG
                  | cons => simp
                have hk2 : keeps G (X :: rest p (k + 1)) = keeps G.dropLast (rest p (k + 1)) := by
                  rw [keeps_up hdot hup, if_neg (by simpa using hG)]
                have hcutr := row_cut hrow (m := G.length - 1) (by omega)
                have hstr : (Texts.strs G).take (G.length - 1) = Texts.strs G.dropLast := by
                  unfold Texts.strs
                  rw [← List.map_take, List.dropLast_eq_take]
                rw [hstr] at hcutr
                have HR : Hid (∃ G', NInv w p (k + 1) (k + 1) (.slice pp (G.length - 1) cap) G' X wr) := Lib.hid ⟨G.dropLast, HN.out _ _ wr (by rw [List.length_dropLast]; exact hcutr) hbw hk2 (by rw [List.length_dropLast]; omega) (fun e he => HS.out e ((List.dropLast_sublist G).subset he))⟩
                rw [hX2] at hET
                clear HN HS HALL HST hrow hdot hup hk2 hcutr hstr hbw hG
                rcases hx with hq | ⟨hlt, hq, hc⟩
                all_goals
                  go_wp2_with fail
                  go_roundw
                  case rel => exact ⟨k + 1, by omega, by go_num, k + 1, by go_num, X, by rw [HX.out], HR⟩
                  case measure => simp [intOf]; omega
            · have hup : isUp X = false := by simpa using hup
              have hk2 : keeps G (X :: rest p (k + 1)) = keeps (G ++ [X]) (rest p (k + 1)) := keeps_in hdot hup
              have hd : (p.extract f k).toList.isEmpty = false ∧ ((p.extract f k).toList == [46]) = false := by
                rw [hET]
                unfold isDot at hdot
                rw [Bool.or_eq_false_iff] at hdot
                exact hdot
              have hu : ((p.extract f k).toList == [46, 46]) = false := by
                rw [hET]
                exact hup
              have hne : ¬ (p.extract f k).toList = [] := fun h => by rw [h] at hd; exact absurd hd.1 (by decide)
              have HNF : Hid (∀ v' w', w'.ownsRow w.heap.size 9 1 v' (G.length + 1) (Texts.strs G ++ [.string (ofL X)]) → Below w.heap.size w w' → Hid (∃ G', NInv w p (k + 1) (k + 1) v' G' X w')) := Lib.hid (fun v' w' h1 h2 => Lib.hid ⟨G ++ [X], HN.out _ v' w' (by rw [List.length_append, Texts.strs_append]; exact h1) h2 hk2 (by rw [List.length_append]; simp) (fun e he => by
                rw [List.mem_append, List.mem_singleton] at he
                rcases he with he | rfl
                · exact HS.out e he
                · exact hXl)⟩)
              obtain ⟨hd1, hd2⟩ := hd
              clear HN HS HALL HST hdot hup hk2 hET
              rcases hx with hq | ⟨hlt, hq, hc⟩
              all_goals
                go_wp2_with (at_builtin; refine wpList_append_own _ rfl _ _ 37 rfl w.heap.size 9 i0 (.string ByteArray.empty) 1 16 Tryd.underlying37 hi hz0 hz1 hz2 rfl (by decide) _ _ _ rfl (hrow.alloc _) ⟨wr.heap.size, 0, none⟩ 1 1 [.string (p.extract f k)] rfl rfl (cell_one_new _ _ _) (fun x hx => by simp at hx; subst hx; rfl) (by unfold maxLen; omega) (by omega) (by simp; omega) ?_; intro v' w3 hown' hgrow3 hnil3)
                have HR := HNF.out v' w3 (by have h := hown'; rw [HX.out] at h; exact h) (Below.grown (hbw.alloc hbw.size _) hgrow3 (by simp; omega) (fun j hj => (hrow.lt _ hj).1))
                clear hown' hgrow3 hnil3 HNF hrow hbw
                go_wp2_with fail
                go_roundw
                case rel => exact ⟨k + 1, by omega, by go_num, k + 1, by go_num, X, by rw [HX.out], HR⟩
                case measure => simp [intOf]; omega
        · have hlt : k < p.size := by
            rcases Nat.lt_or_ge k p.size with h | h
            · exact h
            · exact absurd (.inl (by omega)) hcut
          have hki2 : (k : Int) < (p.size : Int) := by omega
          have h47 : ¬ p[k] = 47 := fun h => hcut (.inr ⟨hlt, h⟩)
          have hq := slash_ne h47
          have HR : Hid (∃ G, NInv w p (k + 1) f u6 G l wr) := Lib.hid ⟨G, I.row, I.below, I.all_, by omega, I.pos, fun _ => hfs, fun h => by omega, by
            rw [show k + 1 - f = k - f + 1 by omega, List.take_add_one, List.getElem?_drop, show f + (k - f) = k by omega, toL_get p k hlt]
            have := I.no
            unfold noSlash at *
            rw [List.all_append, this]
            simp [bne, h47], by have := I.few; omega, I.last, I.pre, I.short⟩
          clear I hcut h47
          go_wp2_with fail
          go_roundw
          case rel => exact ⟨k + 1, by omega, by go_num, f, rfl, l, rfl, HR⟩
          case measure => simp [intOf]; omega
      · have hkeep : keeps [] (cuts (toL p).tail) = some G := by
          rw [I.all_, rest_none (I.out_ (by omega))]
          rfl
        have hlast := I.last (I.out_ (by omega))
        have hki : ¬ (k : Int) ≤ (p.size : Int) := by omega
        have HV := Lib.hid (norm_some (by rw [HNM.out, hkeep]; rfl))
        have hfin : endsOpen (cuts (toL p).tail) = (isDot l || isUp l) := by unfold endsOpen; rw [hlast]
        have HFN : Hid (finish G (cuts (toL p).tail) = if G.isEmpty || (isDot l || isUp l) then join G ++ [47] else join G) := Lib.hid (by unfold finish; rw [hfin])
        have HSH := Lib.hid I.short
        have hfew := I.few
        have HT := Lib.hid (texts_of I.row)
        have hb0 := I.below
        obtain ⟨pp, cap, rfl, _, _⟩ := row_cells I.row
        have J0 : Hid (Texts wr (.slice pp G.length cap) G) := HT
        clear hkeep hlast hfin HNM I
        go_wp2_with fail
        go_loopw [10, 11] (fun ov i w2 => ∃ j : Nat, j ≤ G.length ∧ i = .int .i64 j ∧ ov = .string (ofL (join (G.take j))) ∧ Hid (∃ m, w2 = wr.drewN m)) (fun _ i _ => G.length - (intOf i).toNat)
        case atStart => exact ⟨0, Nat.zero_le _, rfl, rfl, Lib.hid ⟨0, rfl⟩⟩
        case round =>
          obtain ⟨j, hj, rfl, rfl, hw⟩ := hrel
          obtain ⟨m, rfl⟩ := hw.out
          have hJl : (ofL (join (G.take j))).size ≤ 1099513724929 := by
            rw [ofL_size]
            have h1 := join_len (n := 1048576) (G := G.take j) (fun e he => by have := HSH.out e (List.mem_of_mem_take he); omega)
            have h2 : (G.take j).length * (1048576 + 1) ≤ 1048577 * (1048576 + 1) := Nat.mul_le_mul_right _ (by rw [List.length_take]; omega)
            omega
          by_cases hlt : j < G.length
          · have hji : (j : Int) < (G.length : Int) := by omega
            obtain ⟨p', cap', hv, _, hc⟩ := HT.out
            injection hv with hv1 hv2 hv3
            subst hv1
            subst hv3
            obtain ⟨g, o, rfl, hg, hcell⟩ := hc (by omega)
            have cx := hcell j hlt
            have hEl : (ofL G[j]).size ≤ 1048576 := by
              rw [ofL_size]
              have := HSH.out G[j] (List.getElem_mem hlt)
              omega
            have HJ : Hid ((ofL (join (G.take j)) ++ ⟨#[47]⟩) ++ ofL G[j] = ofL (join (G.take (j + 1)))) := Lib.hid (by
              rw [List.take_add_one, List.getElem?_eq_getElem hlt]
              show _ = ofL (join (G.take j ++ [G[j]]))
              rw [join_snoc]
              refine toL_inj ?_
              rw [toL_append, toL_append, toL_ofL, toL_ofL, toL_ofL]
              show (join (G.take j) ++ [47]) ++ G[j] = _
              simp)
            clear hc hcell
            generalize ofL G[j] = E at *
            generalize ofL (join (G.take j)) = F at *
            go_wp2_with fail
            go_roundw
            case rel => exact ⟨j + 1, by omega, by go_num, by rw [HJ.out], Lib.hid ⟨m, rfl⟩⟩
            case measure => simp [intOf]; omega
          · have hz : join (G.take j) = join G := by rw [List.take_of_length_le (by omega)]
            rw [hz] at hJl ⊢
            have hF : (ofL (join G)).toList.isEmpty = G.isEmpty := by
              rw [ByteArray.toList_eq, show (ofL (join G)).data.toList = join G from toL_ofL _, join_nil]
            have hL : (ofL l).toList = l := by
              rw [ByteArray.toList_eq]
              exact toL_ofL l
            have HJ : Hid (ofL (join G) ++ ⟨#[47]⟩ = ofL (join G ++ [47])) := Lib.hid (by
              refine toL_inj ?_
              rw [toL_append, toL_ofL, toL_ofL])
            have hbm : Below w.heap.size w (wr.drewN m) := ⟨hb0.os, hb0.tape, hb0.output, hb0.size, hb0.block⟩
            clear hz HT J0 hb0 hw
            generalize (wr.drewN m) = w5 at *
            by_cases hG : G.isEmpty = true
            · have hFe : (ofL (join G)).toList = [] := by rw [hG] at hF; exact List.isEmpty_iff.1 hF
              have HO : Hid (finish G (cuts (toL p).tail) = join G ++ [47]) := Lib.hid (by rw [HFN.out, hG]; rfl)
              clear HFN hF hG HSH
              generalize ofL (join G) = F at *
              generalize ofL l = L at *
              go_wp2_with fail
              all_goals
                go_ret2
                rw [HV.out.1, HV.out.2, HO.out, HJ.out]
                exact ⟨rfl, hbm⟩
            · have hG : G.isEmpty = false := by simpa using hG
              rw [hG] at hF
              have hFe : ¬ (ofL (join G)).toList = [] := fun h => by rw [h] at hF; exact absurd hF (by decide)
              by_cases hl1 : l = [] ∨ l = [46] ∨ l = [46, 46]
              · have HO : Hid (finish G (cuts (toL p).tail) = join G ++ [47]) := Lib.hid (by
                  rw [HFN.out]
                  rcases hl1 with h | h | h <;> subst h <;> simp [isDot, isUp])
                clear HFN hG HSH
                generalize ofL (join G) = F at *
                rcases hl1 with h | h | h
                · have t2 : (ofL l).toList.isEmpty = true := by rw [hL, h]; rfl
                  have t3 : ((ofL l).toList == [46]) = false := by rw [hL, h]; rfl
                  have t4 : ((ofL l).toList == [46, 46]) = false := by rw [hL, h]; rfl
                  have t5 :  (ofL l).toList = [] := by rw [hL, h]; try rfl
                  clear h hL
                  generalize ofL l = L at *
                  go_wp2_with fail
                  go_ret2
                  rw [HV.out.1, HV.out.2, HO.out, HJ.out]
                  exact ⟨rfl, hbm⟩
                · have t2 : (ofL l).toList.isEmpty = false := by rw [hL, h]; rfl
                  have t3 : ((ofL l).toList == [46]) = true := by rw [hL, h]; rfl
                  have t4 : ((ofL l).toList == [46, 46]) = false := by rw [hL, h]; rfl
                  have t5 : ¬ (ofL l).toList = [] := by rw [hL, h]; decide
                  clear h hL
                  generalize ofL l = L at *
                  go_wp2_with fail
                  go_ret2
                  rw [HV.out.1, HV.out.2, HO.out, HJ.out]
                  exact ⟨rfl, hbm⟩
                · have t2 : (ofL l).toList.isEmpty = false := by rw [hL, h]; rfl
                  have t3 : ((ofL l).toList == [46]) = false := by rw [hL, h]; rfl
                  have t4 : ((ofL l).toList == [46, 46]) = true := by rw [hL, h]; rfl
                  have t5 : ¬ (ofL l).toList = [] := by rw [hL, h]; decide
                  clear h hL
                  generalize ofL l = L at *
                  go_wp2_with fail
                  go_ret2
                  rw [HV.out.1, HV.out.2, HO.out, HJ.out]
                  exact ⟨rfl, hbm⟩
              · have h1 : (ofL l).toList.isEmpty = false := by
                  rw [hL]
                  cases l with
                  | nil => exact absurd (.inl rfl) hl1
                  | cons => rfl
                have h1' : ¬ (ofL l).toList = [] := fun h => by rw [h] at h1; exact absurd h1 (by decide)
                have h2 : ((ofL l).toList == [46]) = false := by rw [hL, beq_eq_false_iff_ne]; exact fun h => hl1 (.inr (.inl h))
                have h3 : ((ofL l).toList == [46, 46]) = false := by rw [hL, beq_eq_false_iff_ne]; exact fun h => hl1 (.inr (.inr h))
                have HO : Hid (ofL (finish G (cuts (toL p).tail)) = ofL (join G)) := Lib.hid (by
                  rw [HFN.out, hG]
                  rw [hL] at h1 h2 h3
                  unfold isDot isUp
                  rw [h1, h2, h3]
                  rfl)
                clear HFN hG HSH hL hl1
                generalize ofL (join G) = F at *
                generalize ofL l = L at *
                go_wp2_with fail
                go_ret2
                rw [HV.out.1, HV.out.2, HO.out]
                exact ⟨rfl, hbm⟩
end Go.Proofs.YtlhpjinajaociaaDoor.RNormal
