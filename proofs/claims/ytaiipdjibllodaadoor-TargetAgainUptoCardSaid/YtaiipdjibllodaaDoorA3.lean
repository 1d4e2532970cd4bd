/- Texts of this seat, one behind another: RNormal, JoinLays, PResolved, PEsc, PDigit, PCount, PHex. -/
import Derived.Maps.AppendAt
import Derived.Laws.DeepStrings4
import Derived.Shelf.Strings.OnBuilder
import Derived.Test.YtaiipdjibllodaaDoorProg
import Derived.Outline
import Derived.LoopTactic
import Derived.Handy
import Derived.Lib.Hide
import Derived.Test.YtaiipdjibllodaaDoorA2
import Derived.Test.YtaiipdjibllodaaDoorA1
/- Layer 5, the document's own Normal. -/
namespace Go.Proofs.YtaiipdjibllodaaDoor.RNormal
open Go.ChangeShapes Go.WideShapes Go.ChangeAt Go.RowKit LexPure Bytes Ret PathPure RPlain Rows1 REsc REscapes Texts PathForm
set_option maxRecDepth 20000
def rest (s : ByteArray) (f : Nat) : List (List UInt8) := if f ≤ s.size then cuts ((toL s).drop f) else []
/-- behind k bytes of the path, the last slash ahead of f; G: what is kept, l: the last piece -/
structure NInv (w : World) (s : ByteArray) (k f : Nat) (v : Value) (G : List (List UInt8)) (l : List UInt8) (wr : World) : Prop where
  row : wr.ownsRow w.heap.size 9 1 v G.length (Texts.strs G)
  below : Below w.heap.size w wr
  all_ : keeps [] (cuts (toL s).tail) = keeps G (rest s f)
  le : f ≤ k
  pos : 1 ≤ f
  in_ : k ≤ s.size → f ≤ s.size
  out_ : s.size < k → s.size < f
  no : noSlash (((toL s).drop f).take (k - f)) = true
  few : G.length ≤ k
  last : s.size < f → (cuts (toL s).tail).getLastD [] = l
  pre : ∃ D, cuts (toL s).tail = D ++ rest s f
  short : ∀ e ∈ G, e.length ≤ s.size
theorem rest_end {s : ByteArray} {f : Nat} (hf : f ≤ s.size) (h : noSlash (((toL s).drop f).take (s.size - f)) = true) : rest s f = [((toL s).drop f).take (s.size - f)] := by
  unfold rest
  have e : ((toL s).drop f).take (s.size - f) = (toL s).drop f := List.take_of_length_le (by rw [List.length_drop, toL_length]; omega)
  rw [if_pos hf]
  rw [e] at h ⊢
  exact cuts_plain h
theorem rest_cut {s : ByteArray} {f k : Nat} (hf : f ≤ k) (hk : k < s.size) (h : noSlash (((toL s).drop f).take (k - f)) = true) (hc : s[k] = 47) : rest s f = ((toL s).drop f).take (k - f) :: rest s (k + 1) := by
  unfold rest
  rw [if_pos (by omega), if_pos (by omega)]
  have e : (toL s).drop f = ((toL s).drop f).take (k - f) ++ 47 :: (toL s).drop (k + 1) := by
    have h1 := List.take_append_drop (k - f) ((toL s).drop f)
    rw [List.drop_drop, show f + (k - f) = k by omega, toL_drop s k hk, hc] at h1
    exact h1.symm
  conv => lhs; rw [e]
  exact cuts_cut h
theorem rest_none {s : ByteArray} {f : Nat} (h : s.size < f) : rest s f = [] := by unfold rest; rw [if_neg (by omega)]
/-- one piece has been read: X; what follows begins at k + 1 -/
theorem NInv.step {w wr : World} {s : ByteArray} {k f : Nat} {v : Value} {G : List (List UInt8)} {l : List UInt8} (I : NInv w s k f v G l wr) (hk : k ≤ s.size) (hcut : k = s.size ∨ (∃ h : k < s.size, s[k] = 47)) :
    rest s f = ((toL s).drop f).take (k - f) :: rest s (k + 1) := by
  rcases hcut with h | ⟨h, hc⟩
  · subst h
    rw [rest_end (I.in_ hk) I.no, rest_none (by omega)]
  · exact rest_cut I.le h I.no hc
theorem NInv.next {w wr w' : World} {s : ByteArray} {k f : Nat} {v v' : Value} {G G' : List (List UInt8)} {l : List UInt8} (I : NInv w s k f v G l wr) (hk : k ≤ s.size) (hcut : k = s.size ∨ (∃ h : k < s.size, s[k] = 47))
    (hr : w'.ownsRow w.heap.size 9 1 v' G'.length (Texts.strs G')) (hb : Below w.heap.size w w') (hg : keeps G (((toL s).drop f).take (k - f) :: rest s (k + 1)) = keeps G' (rest s (k + 1))) (hl : G'.length ≤ G.length + 1) (hs : ∀ e ∈ G', e.length ≤ s.size) :
    NInv w s (k + 1) (k + 1) v' G' (((toL s).drop f).take (k - f)) w' := by
  have hst := I.step hk hcut
  obtain ⟨D, hD⟩ := I.pre
  refine ⟨hr, hb, by rw [I.all_, hst, hg], Nat.le_refl _, by omega, fun h => h, fun h => h, by rw [Nat.sub_self]; rfl, by have := I.few; omega, fun h => ?_, ⟨D ++ [((toL s).drop f).take (k - f)], by rw [hD, hst, List.append_assoc]; rfl⟩, hs⟩
  rw [hD, hst, rest_none h, List.getLastD_eq_getLast?, List.getLast?_append]
  rfl
theorem ret_norm {a b : ByteArray} {n : Int} (h : a = b) : Ending.returned (.tuple #[.string a, .int .i64 n]) = .returned (.tuple #[.string b, .int .i64 n]) := by rw [h]
/-- the text that Normal answers, and the error -/
def normS (s : List UInt8) : ByteArray := ofL ((normal s).getD [])
def normE (s : List UInt8) : Int := if (normal s).isSome then 0 else 50
theorem norm_none {s : List UInt8} (h : normal s = none) : normS s = ⟨#[]⟩ ∧ normE s = 50 := by
  unfold normS normE
  rw [h]
  exact ⟨rfl, rfl⟩
theorem norm_some {s t : List UInt8} (h : normal s = some t) : normS s = ofL t ∧ normE s = 0 := by
  unfold normS normE
  rw [h]
  exact ⟨rfl, rfl⟩
theorem wr_len (n : Nat) : (PathPure.wr n).length ≤ 3 := by
  unfold PathPure.wr
  split <;> simp
theorem esc_len : ∀ (n : Nat) {s t : List UInt8}, s.length ≤ n → esc s = some t → t.length ≤ s.length
  | _, [], t, _, h => by
    simp only [esc, Option.some.injEq] at h
    subst h
    exact Nat.le_refl _
  | 0, c :: s, t, hn, _ => by simp at hn
  | n + 1, c :: s, t, hn, h => by
    rw [esc_cons] at h
    split at h
    · split at h
      · split at h
        · rename_i a b r
          split at h
          · obtain ⟨u, hu, rfl⟩ := Option.map_eq_some_iff.1 h
            have ih := esc_len n (s := r) (by simp at hn; omega) hu
            have := wr_len (two a b)
            simp
            omega
          · cases h
        · cases h
      · obtain ⟨u, hu, rfl⟩ := Option.map_eq_some_iff.1 h
        have ih := esc_len n (s := s) (by simp at hn; omega) hu
        simp
        omega
    · cases h
theorem escapes_esc {s t : List UInt8} (h : escapes s = some t) : esc s = some t ∧ ∃ r, s = 47 :: r := by
  cases s with
  | nil => cases h
  | cons c r =>
    have h : (if (c == 47) = true then esc (c :: r) else none) = some t := h
    by_cases hc : (c == 47) = true
    · rw [if_pos hc] at h
      exact ⟨h, r, by rw [show c = 47 by simpa using hc]⟩
    · rw [if_neg hc] at h
      cases h
theorem escapes_len {s t : List UInt8} (h : escapes s = some t) : t.length ≤ s.length := esc_len _ (Nat.le_refl _) (escapes_esc h).1
theorem escapes_pos {s t : List UInt8} (h : escapes s = some t) : 1 ≤ t.length := by
  obtain ⟨he, r, rfl⟩ := escapes_esc h
  rw [esc_cons, if_pos (by decide), if_neg (by decide)] at he
  obtain ⟨u, _, rfl⟩ := Option.map_eq_some_iff.1 he
  simp
theorem join_len {n : Nat} : ∀ {G : List (List UInt8)}, (∀ e ∈ G, e.length ≤ n) → (join G).length ≤ G.length * (n + 1)
  | [], _ => by simp [join]
  | e :: G, h => by
    have h0 := h e (by simp)
    have h1 := join_len (G := G) (fun x hx => h x (by simp [hx]))
    show ((47 :: e) ++ join G).length ≤ _
    rw [List.length_append, List.length_cons, List.length_cons, Nat.add_mul, Nat.one_mul]
    omega
theorem join_nil {G : List (List UInt8)} : (join G).isEmpty = G.isEmpty := by
  cases G <;> rfl
theorem join_snoc (G : List (List UInt8)) (e : List UInt8) : join (G ++ [e]) = join G ++ 47 :: e := by simp [join]
theorem keeps_up {G ps : List (List UInt8)} {X : List UInt8} (h1 : isDot X = false) (h2 : isUp X = true) : keeps G (X :: ps) = if G.isEmpty then none else keeps G.dropLast ps := by
  rw [keeps, if_neg (by simp [h1]), if_pos h2]
theorem keeps_in {G ps : List (List UInt8)} {X : List UInt8} (h1 : isDot X = false) (h2 : isUp X = false) : keeps G (X :: ps) = keeps (G ++ [X]) ps := by
  rw [keeps, if_neg (by simp [h1]), if_neg (by simp [h2])]
set_option maxHeartbeats 4000000 in
theorem rnormal_any (s : ByteArray) (hs : s.size ≤ 1048576) (w : World) :
    Calls Tryd.prog 36 #[.string s] w fun e w' => e = .returned (.tuple #[.string (normS (toL s)), .int .i64 (normE (toL s))]) ∧ Below w.heap.size w w' := by
  obtain ⟨i0, hi, hz0, hz1, hz2⟩ := info_parts infoS
  have HE := Lib.hid (fun w => rescapes_any s (by omega) w)
  cases hesc : escapes (toL s) with
  | none =>
    have hn : normal (toL s) = none := by unfold normal; rw [hesc]
    rw [(norm_none hn).1, (norm_none hn).2]
    rw [hesc] at HE
    clear hn hesc
    go_enter Tryd.func36, Tryd.ntmps36
    go_wp2_with fail
    refine (HE.out _).mono ?_
    rintro e w1 ⟨rfl, hb1⟩
    go_wp2_with fail
    go_ret2
    exact ⟨rfl, hb1⟩
  | some u =>
    have hul : u.length ≤ s.size := by
      have := escapes_len hesc
      rwa [toL_length] at this
    have hu1 : 1 ≤ u.length := escapes_pos hesc
    have hn : normal (toL s) = (keeps [] (cuts u.tail)).map (fun kept => finish kept (cuts u.tail)) := by
      unfold normal
      rw [hesc]
      simp only
      cases keeps [] (cuts u.tail) <;> rfl
    rw [hesc] at HE
    have HNM := Lib.hid hn
    clear hn hesc
    obtain ⟨p, hp⟩ : ∃ p, p = ofL u := ⟨_, rfl⟩
    have hpu : toL p = u := by rw [hp, toL_ofL]
    have hps : p.size = u.length := by rw [hp, ofL_size]
    have hpl : p.size ≤ 1048576 := by omega
    have hp1 : 1 ≤ p.size := by omega
    rw [show (some u).getD [] = u from rfl, ← hp] at HE
    clear hul hu1 hps hp
    rw [← hpu] at HNM
    clear hpu
    go_enter Tryd.func36, Tryd.ntmps36
    go_wp2_with fail
    refine (HE.out _).mono ?_
    rintro e w1 ⟨rfl, hb1⟩
    go_wp2_with fail
    have I0 : Hid (∃ G, NInv w p 1 1 (.slice none 0 0) G [] w1) := Lib.hid ⟨[], World.ownsRow_nil _ _ _ _, hb1, by unfold rest; rw [if_pos hp1, List.drop_one], Nat.le_refl _, Nat.le_refl _, fun _ => hp1, fun h => h, by rw [Nat.sub_self]; rfl, Nat.zero_le _, fun h => by omega, ⟨[], by unfold rest; rw [if_pos hp1, List.drop_one]; rfl⟩, fun e he => by simp at he⟩
    clear hb1 HE hs
    go_loopw [6, 7, 8, 9] (fun kv lv fv i wr => ∃ k : Nat, k ≤ p.size + 1 ∧ i = .int .i64 k ∧ ∃ f : Nat, fv = .int .i64 f ∧ ∃ l : List UInt8, lv = .string (ofL l) ∧ Hid (∃ G, NInv w p k f kv G l wr)) (fun _ _ _ i _ => p.size + 1 - (intOf i).toNat)
    case atStart => exact ⟨1, by omega, rfl, 1, rfl, [], rfl, I0⟩
    case round =>
      obtain ⟨k, hk, rfl, f, rfl, l, rfl, HI⟩ := hrel
      obtain ⟨G, I⟩ := HI.out
      clear HI I0
      have hfk := I.le
      have hbs := I.below.size
      by_cases hle : k ≤ p.size
      · have hki : (k : Int) ≤ (p.size : Int) := by omega
        have hfs := I.in_ hle
        by_cases hcut : k = p.size ∨ (∃ h : k < p.size, p[k] = 47)
        · have hfi : (f : Int) ≤ (k : Int) := by omega
          have hx : (¬ (k : Int) < (p.size : Int)) ∨ (∃ h : k < p.size, (k : Int) < (p.size : Int) ∧ ((p[k].toNat : Int) != 47) = false) := by
            rcases hcut with h | ⟨h, hc⟩
            · exact .inl (by omega)
            · exact .inr ⟨h, by omega, by rw [hc]; rfl⟩
          have hXE : p.extract f k = ofL (((toL p).drop f).take (k - f)) := by
            refine toL_inj ?_
            rw [toL_extract, toL_ofL, List.drop_take]
          have HX := Lib.hid hXE
          have HST := Lib.hid (I.step hle hcut)
          have HN := Lib.hid (fun G' v' w' => I.next (G' := G') (v' := v') (w' := w') hle hcut)
          have hXl : (((toL p).drop f).take (k - f)).length ≤ p.size := by rw [List.length_take, List.length_drop, toL_length]; omega
          generalize ((toL p).drop f).take (k - f) = X at *
          have hET : (p.extract f k).toList = X := by rw [ByteArray.toList_eq, HX.out]; exact toL_ofL X
          obtain ⟨pp, cap, rfl, hcap, _⟩ := row_cells I.row
          have hrow := I.row
          have hbw := I.below
          have hfew := I.few
          have HS := Lib.hid I.short
          have HALL := Lib.hid I.all_
          clear I hcut hXE
          by_cases hdot : isDot X = true
          · have hk2 : keeps G (X :: rest p (k + 1)) = keeps G (rest p (k + 1)) := by rw [keeps, if_pos hdot]
            have HR : Hid (∃ G', NInv w p (k + 1) (k + 1) (.slice pp G.length cap) G' X wr) := Lib.hid ⟨G, HN.out G _ wr hrow hbw hk2 (by omega) HS.out⟩
            have hd : X = [] ∨ X = [46] := by
              unfold isDot at hdot
              rw [Bool.or_eq_true, List.isEmpty_iff, beq_iff_eq] at hdot
              exact hdot
            clear HN HS HALL HST hk2 hrow hbw hdot
            rcases hd with rfl | rfl
            all_goals
              rcases hx with hq | ⟨hlt, hq, hc⟩
              all_goals
                go_wp2_with fail
                go_roundw
                case rel => exact ⟨k + 1, by omega, by go_num, k + 1, by go_num, _, by rw [HX.out], HR⟩
                case measure => simp [intOf]; omega
          · have hdot : isDot X = false := by simpa using hdot
            by_cases hup : isUp X = true
            · have hX2 : X = [46, 46] := by
                unfold isUp at hup
                rwa [beq_iff_eq] at hup
              by_cases hG : G = []
              · have hnone : keeps [] (cuts (toL p).tail) = none := by
                  rw [HALL.out, HST.out, keeps_up hdot hup, hG]
                  rfl
                have hgl : ((G.length : Int) == 0) = true := by rw [hG]; rfl
                rw [hX2] at hET
                have HNONE := Lib.hid (norm_none (by rw [HNM.out, hnone]; rfl))
                clear HN HS HALL HST hrow hdot hup hnone
                rcases hx with hq | ⟨hlt, hq, hc⟩
                all_goals
                  go_wp2_with fail
                  go_ret2
                  rw [HNONE.out.1, HNONE.out.2]
                  exact ⟨rfl, hbw⟩
              · have hgl : ((G.length : Int) == 0) = false := beq_eq_false_iff_ne.2 (fun h => hG (List.length_eq_zero_iff.1 (by omega)))
                have hg0 : 1 ≤ G.length := by
                  cases G with
                  | nil => exact absurd rfl hG
                  | cons => simp
                have hk2 : keeps G (X :: rest p (k + 1)) = keeps G.dropLast (rest p (k + 1)) := by
                  rw [keeps_up hdot hup, if_neg (by simpa using hG)]
                have hcutr := row_cut hrow (m := G.length - 1) (by omega)
                have hstr : (Texts.strs G).take (G.length - 1) = Texts.strs G.dropLast := by
                  unfold Texts.strs
                  rw [← List.map_take, List.dropLast_eq_take]
                rw [hstr] at hcutr
                have HR : Hid (∃ G', NInv w p (k + 1) (k + 1) (.slice pp (G.length - 1) cap) G' X wr) := Lib.hid ⟨G.dropLast, HN.out _ _ wr (by rw [List.length_dropLast]; exact hcutr) hbw hk2 (by rw [List.length_dropLast]; omega) (fun e he => HS.out e ((List.dropLast_sublist G).subset he))⟩
                rw [hX2] at hET
                clear HN HS HALL HST hrow hdot hup hk2 hcutr hstr hbw hG
                rcases hx with hq | ⟨hlt, hq, hc⟩
                all_goals
                  go_wp2_with fail
                  go_roundw
                  case rel => exact ⟨k + 1, by omega, by go_num, k + 1, by go_num, X, by rw [HX.out], HR⟩
                  case measure => simp [intOf]; omega
            · have hup : isUp X = false := by simpa using hup
              have hk2 : keeps G (X :: rest p (k + 1)) = keeps (G ++ [X]) (rest p (k + 1)) := keeps_in hdot hup
              have hd : (p.extract f k).toList.isEmpty = false ∧ ((p.extract f k).toList == [46]) = false := by
                rw [hET]
                unfold isDot at hdot
                rw [Bool.or_eq_false_iff] at hdot
                exact hdot
              have hu : ((p.extract f k).toList == [46, 46]) = false := by
                rw [hET]
                exact hup
              have hne : ¬ (p.extract f k).toList = [] := fun h => by rw [h] at hd; exact absurd hd.1 (by decide)
              have HNF : Hid (∀ v' w', w'.ownsRow w.heap.size 9 1 v' (G.length + 1) (Texts.strs G ++ [.string (ofL X)]) → Below w.heap.size w w' → Hid (∃ G', NInv w p (k + 1) (k + 1) v' G' X w')) := Lib.hid (fun v' w' h1 h2 => Lib.hid ⟨G ++ [X], HN.out _ v' w' (by rw [List.length_append, Texts.strs_append]; exact h1) h2 hk2 (by rw [List.length_append]; simp) (fun e he => by
                rw [List.mem_append, List.mem_singleton] at he
                rcases he with he | rfl
                · exact HS.out e he
                · exact hXl)⟩)
              obtain ⟨hd1, hd2⟩ := hd
              clear HN HS HALL HST hdot hup hk2 hET
              rcases hx with hq | ⟨hlt, hq, hc⟩
              all_goals
                go_wp2_with (at_builtin; refine wpList_append_own _ rfl _ _ 66 rfl w.heap.size 9 i0 (.string ByteArray.empty) 1 16 Tryd.underlying66 hi hz0 hz1 hz2 rfl (by decide) _ _ _ rfl (hrow.alloc _) ⟨wr.heap.size, 0, none⟩ 1 1 [.string (p.extract f k)] rfl rfl (cell_one_new _ _ _) (fun x hx => by simp at hx; subst hx; rfl) (by unfold maxLen; omega) (by omega) (by simp; omega) ?_; intro v' w3 hown' hgrow3 hnil3)
                have HR := HNF.out v' w3 (by have h := hown'; rw [HX.out] at h; exact h) (Below.grown (hbw.alloc hbw.size _) hgrow3 (by simp; omega) (fun j hj => (hrow.lt _ hj).1))
                clear hown' hgrow3 hnil3 HNF hrow hbw
                go_wp2_with fail
                go_roundw
                case rel => exact ⟨k + 1, by omega, by go_num, k + 1, by go_num, X, by rw [HX.out], HR⟩
                case measure => simp [intOf]; omega
        · have hlt : k < p.size := by
            rcases Nat.lt_or_ge k p.size with h | h
            · exact h
            · exact absurd (.inl (by omega)) hcut
          have hki2 : (k : Int) < (p.size : Int) := by omega
          have h47 : ¬ p[k] = 47 := fun h => hcut (.inr ⟨hlt, h⟩)
          have hq := slash_ne h47
          have HR : Hid (∃ G, NInv w p (k + 1) f u6 G l wr) := Lib.hid ⟨G, I.row, I.below, I.all_, by omega, I.pos, fun _ => hfs, fun h => by omega, by
            rw [show k + 1 - f = k - f + 1 by omega, List.take_add_one, List.getElem?_drop, show f + (k - f) = k by omega, toL_get p k hlt]
            have := I.no
            unfold noSlash at *
            rw [List.all_append, this]
            simp [bne, h47], by have := I.few; omega, I.last, I.pre, I.short⟩
          clear I hcut h47
          go_wp2_with fail
          go_roundw
          case rel => exact ⟨k + 1, by omega, by go_num, f, rfl, l, rfl, HR⟩
          case measure => simp [intOf]; omega
      · have hkeep : keeps [] (cuts (toL p).tail) = some G := by
          rw [I.all_, rest_none (I.out_ (by omega))]
          rfl
        have hlast := I.last (I.out_ (by omega))
        have hki : ¬ (k : Int) ≤ (p.size : Int) := by omega
        have HV := Lib.hid (norm_some (by rw [HNM.out, hkeep]; rfl))
        have hfin : endsOpen (cuts (toL p).tail) = (isDot l || isUp l) := by unfold endsOpen; rw [hlast]
        have HFN : Hid (finish G (cuts (toL p).tail) = if G.isEmpty || (isDot l || isUp l) then join G ++ [47] else join G) := Lib.hid (by unfold finish; rw [hfin])
        have HSH := Lib.hid I.short
        have hfew := I.few
        have HT := Lib.hid (texts_of I.row)
        have hb0 := I.below
        obtain ⟨pp, cap, rfl, _, _⟩ := row_cells I.row
        have J0 : Hid (Texts wr (.slice pp G.length cap) G) := HT
        clear hkeep hlast hfin HNM I
        go_wp2_with fail
        go_loopw [10, 11] (fun ov i w2 => ∃ j : Nat, j ≤ G.length ∧ i = .int .i64 j ∧ ov = .string (ofL (join (G.take j))) ∧ Hid (∃ m, w2 = wr.drewN m)) (fun _ i _ => G.length - (intOf i).toNat)
        case atStart => exact ⟨0, Nat.zero_le _, rfl, rfl, Lib.hid ⟨0, rfl⟩⟩
        case round =>
          obtain ⟨j, hj, rfl, rfl, hw⟩ := hrel
          obtain ⟨m, rfl⟩ := hw.out
          have hJl : (ofL (join (G.take j))).size ≤ 1099513724929 := by
            rw [ofL_size]
            have h1 := join_len (n := 1048576) (G := G.take j) (fun e he => by have := HSH.out e (List.mem_of_mem_take he); omega)
            have h2 : (G.take j).length * (1048576 + 1) ≤ 1048577 * (1048576 + 1) := Nat.mul_le_mul_right _ (by rw [List.length_take]; omega)
            omega
          by_cases hlt : j < G.length
          · have hji : (j : Int) < (G.length : Int) := by omega
            obtain ⟨p', cap', hv, _, hc⟩ := HT.out
            injection hv with hv1 hv2 hv3
            subst hv1
            subst hv3
            obtain ⟨g, o, rfl, hg, hcell⟩ := hc (by omega)
            have cx := hcell j hlt
            have hEl : (ofL G[j]).size ≤ 1048576 := by
              rw [ofL_size]
              have := HSH.out G[j] (List.getElem_mem hlt)
              omega
            have HJ : Hid ((ofL (join (G.take j)) ++ ⟨#[47]⟩) ++ ofL G[j] = ofL (join (G.take (j + 1)))) := Lib.hid (by
              rw [List.take_add_one, List.getElem?_eq_getElem hlt]
              show _ = ofL (join (G.take j ++ [G[j]]))
              rw [join_snoc]
              refine toL_inj ?_
              rw [toL_append, toL_append, toL_ofL, toL_ofL, toL_ofL]
              show (join (G.take j) ++ [47]) ++ G[j] = _
              simp)
            clear hc hcell
            generalize ofL G[j] = E at *
            generalize ofL (join (G.take j)) = F at *
            go_wp2_with fail
            go_roundw
            case rel => exact ⟨j + 1, by omega, by go_num, by rw [HJ.out], Lib.hid ⟨m, rfl⟩⟩
            case measure => simp [intOf]; omega
          · have hz : join (G.take j) = join G := by rw [List.take_of_length_le (by omega)]
            rw [hz] at hJl ⊢
            have hF : (ofL (join G)).toList.isEmpty = G.isEmpty := by
              rw [ByteArray.toList_eq, show (ofL (join G)).data.toList = join G from toL_ofL _, join_nil]
            have hL : (ofL l).toList = l := by
              rw [ByteArray.toList_eq]
              exact toL_ofL l
            have HJ : Hid (ofL (join G) ++ ⟨#[47]⟩ = ofL (join G ++ [47])) := Lib.hid (by
              refine toL_inj ?_
              rw [toL_append, toL_ofL, toL_ofL])
            have hbm : Below w.heap.size w (wr.drewN m) := ⟨hb0.os, hb0.tape, hb0.output, hb0.size, hb0.block⟩
            clear hz HT J0 hb0 hw
            generalize (wr.drewN m) = w5 at *
            by_cases hG : G.isEmpty = true
            · have hFe : (ofL (join G)).toList = [] := by rw [hG] at hF; exact List.isEmpty_iff.1 hF
              have HO : Hid (finish G (cuts (toL p).tail) = join G ++ [47]) := Lib.hid (by rw [HFN.out, hG]; rfl)
              clear HFN hF hG HSH
              generalize ofL (join G) = F at *
              generalize ofL l = L at *
              go_wp2_with fail
              all_goals
                go_ret2
                rw [HV.out.1, HV.out.2, HO.out, HJ.out]
                exact ⟨rfl, hbm⟩
            · have hG : G.isEmpty = false := by simpa using hG
              rw [hG] at hF
              have hFe : ¬ (ofL (join G)).toList = [] := fun h => by rw [h] at hF; exact absurd hF (by decide)
              by_cases hl1 : l = [] ∨ l = [46] ∨ l = [46, 46]
              · have HO : Hid (finish G (cuts (toL p).tail) = join G ++ [47]) := Lib.hid (by
                  rw [HFN.out]
                  rcases hl1 with h | h | h <;> subst h <;> simp [isDot, isUp])
                clear HFN hG HSH
                generalize ofL (join G) = F at *
                rcases hl1 with h | h | h
                · have t2 : (ofL l).toList.isEmpty = true := by rw [hL, h]; rfl
                  have t3 : ((ofL l).toList == [46]) = false := by rw [hL, h]; rfl
                  have t4 : ((ofL l).toList == [46, 46]) = false := by rw [hL, h]; rfl
                  have t5 :  (ofL l).toList = [] := by rw [hL, h]; try rfl
                  clear h hL
                  generalize ofL l = L at *
                  go_wp2_with fail
                  go_ret2
                  rw [HV.out.1, HV.out.2, HO.out, HJ.out]
                  exact ⟨rfl, hbm⟩
                · have t2 : (ofL l).toList.isEmpty = false := by rw [hL, h]; rfl
                  have t3 : ((ofL l).toList == [46]) = true := by rw [hL, h]; rfl
                  have t4 : ((ofL l).toList == [46, 46]) = false := by rw [hL, h]; rfl
                  have t5 : ¬ (ofL l).toList = [] := by rw [hL, h]; decide
                  clear h hL
                  generalize ofL l = L at *
                  go_wp2_with fail
                  go_ret2
                  rw [HV.out.1, HV.out.2, HO.out, HJ.out]
                  exact ⟨rfl, hbm⟩
                · have t2 : (ofL l).toList.isEmpty = false := by rw [hL, h]; rfl
                  have t3 : ((ofL l).toList == [46]) = false := by rw [hL, h]; rfl
                  have t4 : ((ofL l).toList == [46, 46]) = true := by rw [hL, h]; rfl
                  have t5 : ¬ (ofL l).toList = [] := by rw [hL, h]; decide
                  clear h hL
                  generalize ofL l = L at *
                  go_wp2_with fail
                  go_ret2
                  rw [HV.out.1, HV.out.2, HO.out, HJ.out]
                  exact ⟨rfl, hbm⟩
              · have h1 : (ofL l).toList.isEmpty = false := by
                  rw [hL]
                  cases l with
                  | nil => exact absurd (.inl rfl) hl1
                  | cons => rfl
                have h1' : ¬ (ofL l).toList = [] := fun h => by rw [h] at h1; exact absurd h1 (by decide)
                have h2 : ((ofL l).toList == [46]) = false := by rw [hL, beq_eq_false_iff_ne]; exact fun h => hl1 (.inr (.inl h))
                have h3 : ((ofL l).toList == [46, 46]) = false := by rw [hL, beq_eq_false_iff_ne]; exact fun h => hl1 (.inr (.inr h))
                have HO : Hid (ofL (finish G (cuts (toL p).tail)) = ofL (join G)) := Lib.hid (by
                  rw [HFN.out, hG]
                  rw [hL] at h1 h2 h3
                  unfold isDot isUp
                  rw [h1, h2, h3]
                  rfl)
                clear HFN hG HSH hL hl1
                generalize ofL (join G) = F at *
                generalize ofL l = L at *
                go_wp2_with fail
                go_ret2
                rw [HV.out.1, HV.out.2, HO.out]
                exact ⟨rfl, hbm⟩
end Go.Proofs.YtaiipdjibllodaaDoor.RNormal

/-
  DERIVED: THE SHELF's CONTRACTS AT THIS DUMP, IN PLAIN WORDS (tools/lay-plain.mjs out of 'YtaiipdjibllodaaDoorJoinLaysT.lean', which tools/lay-shelf.mjs wrote): THE SAME DECLARATIONS UNDER THE SAME NAMES: 'import', 'namespace', 'open', 'def', 'theorem' AND NOTHING ELSE: no command of the shelf's: FOR A HAND-IN. Each laying: the table of numbers ('.._ren') and one theorem, a field a fact of the dump's own or the kernel's comparison; each contract: ONE APPLICATION.
-/
namespace Go.Proofs
open Go.Shelf
def Tryd.lays156_ren : Go.Shelf.Ren := ⟨fun | 156 => 60 | 165 => 74 | 166 => 56 | 169 => 58 | 240 => 70 | 241 => 81 | 276 => 78 | 277 => 85 | n => n, fun | 31 => 66 | 9 => 9 | 3 => 3 | 4 => 4 | 0 => 0 | 20 => 20 | 72 => 70 | 76 => 76 | 70 => 68 | 37 => 48 | 75 => 72 | 127 => 88 | 164 => 94 | 5 => 5 | 80 => 32 | n => n, fun | n => n⟩
theorem Tryd.lays156 : Go.Proofs.Lays.n156 Tryd.prog Tryd.lays156_ren := {
  mixed := by kernel_rfl
  f156 := Tryd.func60.trans (congrArg some (by kernel_rfl))
  f165 := Tryd.func74.trans (congrArg some (by kernel_rfl))
  f166 := Tryd.func56.trans (congrArg some (by kernel_rfl))
  f169 := Tryd.func58.trans (congrArg some (by kernel_rfl))
  f240 := Tryd.func70.trans (congrArg some (by kernel_rfl))
  f241 := Tryd.func81.trans (congrArg some (by kernel_rfl))
  f276 := Tryd.func78.trans (congrArg some (by kernel_rfl))
  f277 := Tryd.func85.trans (congrArg some (by kernel_rfl))
  t0 := Tryd.underlying0
  a0 := Tryd.isAgg0
  z0 := Tryd.sizeOf0
  v0 := Tryd.zeroValue0
  t3 := Tryd.underlying3
  a3 := Tryd.isAgg3
  z3 := Tryd.sizeOf3
  v3 := Tryd.zeroValue3
  t4 := Tryd.underlying4
  a4 := Tryd.isAgg4
  z4 := Tryd.sizeOf4
  v4 := Tryd.zeroValue4
  t9 := Tryd.underlying9
  a9 := Tryd.isAgg9
  z9 := Tryd.sizeOf9
  v9 := Tryd.zeroValue9
  t20 := Tryd.underlying20
  a20 := Tryd.isAgg20
  z20 := Tryd.sizeOf20
  v20 := Tryd.zeroValue20
  t31 := Tryd.underlying66
  a31 := Tryd.isAgg66
  z31 := Tryd.sizeOf66
  v31 := Tryd.zeroValue66
  t37 := Tryd.underlying48
  a37 := Tryd.isAgg48
  z37 := Tryd.sizeOf48
  v37 := Tryd.zeroValue48
  t70 := Tryd.underlying68
  a70 := Tryd.isAgg68
  z70 := Tryd.sizeOf68
  v70 := Tryd.zeroValue68
  t72 := Tryd.underlying70
  a72 := Tryd.isAgg70
  z72 := Tryd.sizeOf70
  v72 := Tryd.zeroValue70
  t75 := Tryd.underlying72
  a75 := Tryd.isAgg72
  z75 := Tryd.sizeOf72
  v75 := Tryd.zeroValue72
  t76 := Tryd.underlying76
  a76 := Tryd.isAgg76
  z76 := Tryd.sizeOf76
  v76 := Tryd.zeroValue76
  t127 := Tryd.underlying88
  a127 := Tryd.isAgg88
  z127 := Tryd.sizeOf88
  v127 := Tryd.zeroValue88
  t164 := Tryd.underlying94
  a164 := Tryd.isAgg94
  z164 := Tryd.sizeOf94
  v164 := Tryd.zeroValue94 }
end Go.Proofs

/- Layer 5 of the program: resolved: dots resolved, piece by piece. -/
namespace Go.Proofs.YtaiipdjibllodaaDoor.PResolved
open Go.ChangeShapes Go.WideShapes Go.ChangeAt Go.RowKit LexPure Bytes Ret PathPure PathForm Rows1 Texts RNormal CutsSplit PUnder Mem
set_option maxRecDepth 20000
theorem extra156 : Builder.Extra Tryd.prog Tryd.lays156_ren := {
  sizeBuilder := by kernel_rfl
  liesBuilder := by kernel_rfl
  t5 := Tryd.underlying5
  a5 := Tryd.isAgg5
  z5 := Tryd.sizeOf5
  v5 := Tryd.zeroValue5
  infoByte := by kernel_rfl
  cellsByte := by kernel_rfl
  sizeByte := by kernel_rfl
  neB5 := by decide }
theorem join_say (G : List (List UInt8)) : Lib.join G [47] = (join G).drop 1 := by
  cases G with
  | nil => rfl
  | cons x r =>
    rw [Lib.join_cons]
    have : Lib.joinTail [47] r = join r := by
      unfold Lib.joinTail join
      rw [List.flatMap_def]
      rfl
    rw [this]
    simp [join]
theorem map_ofL (G : List (List UInt8)) : (G.map ofL).map (·.data.toList) = G := by
  rw [List.map_map]
  conv => rhs; rw [← List.map_id G]
  exact List.map_congr_left (fun x _ => toL_ofL x)
theorem lib_join {w : World} {base : Nat} {v : Value} {G : List (List UInt8)} (h : w.ownsRow base 9 1 v G.length (Texts.strs G)) (hl : (join G).length ≤ 140737488355328) (hn : G.length ≤ 140737488355328) :
    Calls Tryd.prog 60 #[v, .string ⟨#[47]⟩] w fun e w' => e = .returned (.string (ofL ((join G).drop 1))) ∧ Below w.heap.size w w' := by
  obtain ⟨p, cap, hv, hcap, hc⟩ := row_cells h
  subst hv
  by_cases h0 : 0 < G.length
  · obtain ⟨g, rfl, _, hg, _, hcell⟩ := hc h0
    have H := Any.strings_Join Tryd.lays156 extra156 g 0 cap (G.map ofL) ⟨#[47]⟩ w (fun j x hx => by
      rw [List.getElem?_map] at hx
      cases hj : G[j]? with
      | none => rw [hj] at hx; cases hx
      | some y =>
        rw [hj] at hx
        have hx' : ofL y = x := by simpa using hx
        have hlt : j < G.length := (List.getElem?_eq_some_iff.1 hj).1
        rw [Nat.zero_add, hcell j hlt]
        simp [Texts.strs, hj, hx']) hg (by rw [List.length_map]; exact hn) (by rw [List.length_map]; exact hcap) (by
      rw [map_ofL, show (⟨#[47]⟩ : ByteArray).data.toList = [47] from rfl, join_say, List.length_drop]; omega)
    rw [map_ofL, show (⟨#[47]⟩ : ByteArray).data.toList = [47] from rfl, join_say, List.length_map] at H
    exact H
  · have hG : G = [] := List.length_eq_zero_iff.1 (by omega)
    subst hG
    refine (Any.strings_Join_none Tryd.lays156 extra156 p cap ⟨#[47]⟩ w).mono ?_
    rintro e w' ⟨rfl, rfl⟩
    exact ⟨rfl, Below.refl _ _⟩
theorem lib_cuts (s : ByteArray) (hs : s.size < 4294967281) (w : World) (hm : MaxInt w) :
    Calls Tryd.prog 59 #[.string s, .string ⟨#[47]⟩] w fun e w' => ∃ cap, e = .returned (.slice (some ⟨w.heap.size, 0, none⟩) (cuts (toL s)).length cap) ∧ (cuts (toL s)).length = cap ∧ w.heap.size < w'.heap.size ∧ (∀ j (hj : j < (cuts (toL s)).length), w'.cell? ⟨w.heap.size, j, none⟩ = some (.string (ofL (cuts (toL s))[j]))) ∧ Below w.heap.size w w' := by
  obtain ⟨m, hm⟩ := hm
  refine (Any.strings_Split Tryd.lays146 (by kernel_rfl) s ⟨#[47]⟩ m w hs hm (by decide)).mono ?_
  rintro e w' ⟨rfl, rfl⟩
  have hl : (Go.Lib.splitB ⟨#[47]⟩ 0 (Go.Lib.countB s ⟨#[47]⟩) s).map (·.data.toList) = cuts (toL s) := by
    rw [Go.Lib.splitB_data, show Go.Lib.countB s ⟨#[47]⟩ = s.data.toList.count 47 from Go.Lib.count_one 47 _]
    exact split_cuts _
  have hn : (cuts (toL s)).length = Go.Lib.countB s ⟨#[47]⟩ + 1 := by
    rw [← hl, List.length_map]
    exact Go.Lib.splitB_all ⟨#[47]⟩ (by decide) 0 _ s rfl
  generalize Go.Lib.splitB ⟨#[47]⟩ 0 (Go.Lib.countB s ⟨#[47]⟩) s = B at *
  refine ⟨_, by rw [hn], hn, by simp, fun j hj => ?_, (Below.refl _ _).alloc (Nat.le_refl _) _⟩
  have hB : (cuts (toL s))[j]? = (B[j]?).map (·.data.toList) := by rw [← hl, List.getElem?_map]
  rw [List.getElem?_eq_getElem hj] at hB
  cases hx : B[j]? with
  | none => rw [hx] at hB; cases hB
  | some x =>
    rw [hx] at hB
    have hq : (cuts (toL s))[j] = x.data.toList := by simpa using hB
    rw [World.cell?_alloc_at _ _ _ _ (by simp)]
    rw [hq, show ofL x.data.toList = x from toL_inj (toL_ofL _)]
    simp [hx]
theorem cuts_ne : ∀ s : List UInt8, cuts s ≠ []
  | [] => by simp [cuts]
  | c :: s => by
    rw [cuts_cons]
    split
    · simp
    · split <;> simp
theorem cuts_count (s : List UInt8) : (cuts s).length ≤ s.length + 1 := by
  induction s with
  | nil => simp [cuts]
  | cons c s ih =>
    rw [cuts_cons]
    split
    · simp only [List.length_cons]; omega
    · split
      · simp
      · rename_i h
        rw [h] at ih
        simp only [List.length_cons] at ih ⊢; omega
theorem cuts_short (s : List UInt8) : ∀ p ∈ cuts s, p.length ≤ s.length := by
  induction s with
  | nil => intro p hp; simp [cuts] at hp; subst hp; simp
  | cons c s ih =>
    intro p hp
    rw [cuts_cons] at hp
    split at hp
    · rcases List.mem_cons.1 hp with rfl | hp
      · simp
      · have := ih p hp; simp only [List.length_cons]; omega
    · split at hp
      · rcases List.mem_cons.1 hp with rfl | hp
        · simp
        · cases hp
      · rename_i q qs h
        rcases List.mem_cons.1 hp with rfl | hp
        · have := ih q (by rw [h]; exact List.mem_cons_self ..)
          simp only [List.length_cons]; omega
        · have := ih p (by rw [h]; exact List.mem_cons_of_mem _ hp)
          simp only [List.length_cons]; omega
/-- behind the first k pieces: G is kept -/
structure PI (w : World) (L : List (List UInt8)) (n k : Nat) (v : Value) (G : List (List UInt8)) (wr : World) : Prop where
  row : wr.ownsRow w.heap.size 9 1 v G.length (Texts.strs G)
  below : Below w.heap.size w wr
  all_ : keeps [] L = keeps G (L.drop k)
  few : G.length ≤ k
  short : ∀ e ∈ G, e.length ≤ n
/-- whether the piece that came last was not kept -/
def flag (L : List (List UInt8)) (k : Nat) : Bool := decide (0 < k) && endsOpen (L.take k)
theorem flag_next {L : List (List UInt8)} {k : Nat} (h : k < L.length) : flag L (k + 1) = (isDot L[k] || isUp L[k]) := by
  unfold flag endsOpen
  rw [List.take_add_one, List.getElem?_eq_getElem h, List.getLastD_eq_getLast?, List.getLast?_append]
  simp
theorem flag_all {L : List (List UInt8)} (h : L ≠ []) : flag L L.length = endsOpen L := by
  unfold flag
  rw [List.take_length, decide_eq_true (by cases L with | nil => exact absurd rfl h | cons => simp)]
  rfl
theorem four (X : List UInt8) : X = [] ∨ X = [46] ∨ X = [46, 46] ∨ (isDot X = false ∧ isUp X = false) := by
  by_cases h1 : X = []
  · exact .inl h1
  · by_cases h2 : X = [46]
    · exact .inr (.inl h2)
    · by_cases h3 : X = [46, 46]
      · exact .inr (.inr (.inl h3))
      · refine .inr (.inr (.inr ⟨?_, ?_⟩))
        · unfold isDot
          rw [Bool.or_eq_false_iff, beq_eq_false_iff_ne, Bool.eq_false_iff, ne_eq, List.isEmpty_iff]
          exact ⟨h1, h2⟩
        · unfold isUp
          rw [beq_eq_false_iff_ne]
          exact h3
def resS (L : List (List UInt8)) : ByteArray := match keeps [] L with
  | none => ⟨#[]⟩
  | some G => ofL (finish G L)
def resE (L : List (List UInt8)) : Int := if (keeps [] L).isSome then 0 else 50
theorem ret_norm2 {a b : ByteArray} {n m : Int} (h : a = b) (k : n = m) : Ending.returned (.tuple #[.string a, .int .i64 n]) = .returned (.tuple #[.string b, .int .i64 m]) := by rw [h, k]
set_option maxHeartbeats 4000000 in
theorem presolved_any (s : ByteArray) (hs : s.size ≤ 4194304) (t : List UInt8) (ht : toL s = 47 :: t) (w : World) (hm : MaxInt w) :
    Calls Tryd.prog 44 #[.string s] w fun e w' => e = .returned (.tuple #[.string (resS (cuts t)), .int .i64 (resE (cuts t))]) ∧ Below w.heap.size w w' := by
  obtain ⟨i0, hi, hz0, hz1, hz2⟩ := info_parts infoS
  have HSp := Lib.hid (lib_cuts s (by omega) w hm)
  have htl : t.length ≤ 4194304 := by
    have := toL_length s
    rw [ht] at this
    simp at this
    omega
  have hcc := cuts_count t
  have HSH := Lib.hid (cuts_short t)
  have HNE := Lib.hid (cuts_ne t)
  have hL0 : 1 ≤ (cuts t).length := by
    cases h : cuts t with
    | nil => exact absurd h (cuts_ne t)
    | cons => simp
  rw [ht, show cuts (47 :: t) = [] :: cuts t by rw [cuts_cons, if_pos (by decide)]] at HSp
  generalize cuts t = L at *
  clear ht hm
  go_enter Tryd.func44, Tryd.ntmps44
  go_wp2_with fail
  refine HSp.out.mono ?_
  rintro e w1 ⟨cap, rfl, hcap, hlt1, hcells, hb⟩
  have HCE := Lib.hid (fun j (hj : j < L.length) => hcells (j + 1) (by simp; omega))
  have hcp : L.length + 1 = cap := hcap
  clear HSp hcells hcap
  subst hcp
  have hI0 : Hid (∃ G, PI w1 L t.length 0 (.slice none 0 0) G w1) := Lib.hid ⟨[], World.ownsRow_nil _ _ _ _, Below.refl _ _, rfl, Nat.le_refl _, fun e he => by simp at he⟩
  have HBW := Lib.hid hb
  clear hb
  go_wp2_with fail
  go_loopw [4, 5, 13] (fun v o i wr => ∃ k : Nat, k ≤ L.length ∧ i = .int .i64 k ∧ o = .bool (flag L k) ∧ Hid (∃ G, PI w1 L t.length k v G wr)) (fun _ _ i _ => L.length - (intOf i).toNat)
  case atStart => exact ⟨0, Nat.zero_le _, rfl, rfl, hI0⟩
  case round =>
    clear hI0
    obtain ⟨k, hk, rfl, rfl, HI⟩ := hrel
    obtain ⟨G, I⟩ := HI.out
    clear HI
    have hbw := I.below
    have hfew := I.few
    have hrow := I.row
    have hs1 := hbw.size
    obtain ⟨pp, cap, rfl, hcap, _⟩ := row_cells I.row
    by_cases hlt : k < L.length
    · have hki : (k : Int) < (L.length : Int) := by omega
      have cx := (hbw.cell (p := ⟨w.heap.size, k + 1, none⟩) hlt1).trans (HCE.out k hlt)
      rw [show ([] :: L)[k + 1]'(by simp; omega) = L[k] from rfl, Nat.add_comm k 1] at cx
      have hXs : L[k].length ≤ t.length := HSH.out _ (List.getElem_mem hlt)
      have HFL := Lib.hid (flag_next hlt)
      have hdrop : L.drop k = L[k] :: L.drop (k + 1) := List.drop_eq_getElem_cons hlt
      have hall := I.all_
      rw [hdrop] at hall
      have HALL := Lib.hid hall
      have HSHO := Lib.hid I.short
      clear I hdrop hall
      generalize hX : L[k] = X at *
      clear hX
      have hET : (ofL X).toList = X := by rw [ByteArray.toList_eq]; exact toL_ofL X
      rcases four X with rfl | rfl | rfl | ⟨hd, hu⟩
      · have HF : Hid (flag L (k + 1) = true) := Lib.hid (by rw [HFL.out]; rfl)
        have HR : Hid (∃ G', PI w1 L t.length (k + 1) (.slice pp G.length cap) G' wr) := Lib.hid ⟨G, hrow, hbw, by rw [HALL.out, keeps, if_pos (by decide)], by omega, HSHO.out⟩
        have hEe : (ofL []).toList.isEmpty = true := by rw [hET]; rfl
        clear HALL HFL hrow hbw
        generalize ofL [] = E at *
        go_wp2_with fail
        go_roundw
        case rel => exact ⟨k + 1, by omega, by go_num, by rw [HF.out], HR⟩
        case measure => simp [intOf]; omega
      · have HF : Hid (flag L (k + 1) = true) := Lib.hid (by rw [HFL.out]; rfl)
        have HR : Hid (∃ G', PI w1 L t.length (k + 1) (.slice pp G.length cap) G' wr) := Lib.hid ⟨G, hrow, hbw, by rw [HALL.out, keeps, if_pos (by decide)], by omega, HSHO.out⟩
        clear HALL HFL hrow hbw
        generalize ofL [46] = E at *
        go_wp2_with fail
        go_roundw
        case rel => exact ⟨k + 1, by omega, by go_num, by rw [HF.out], HR⟩
        case measure => simp [intOf]; omega
      · have HF : Hid (flag L (k + 1) = true) := Lib.hid (by rw [HFL.out]; rfl)
        by_cases hG : G = []
        · have HNO : Hid (keeps [] L = none) := Lib.hid (by rw [HALL.out, keeps_up (by decide) (by decide), hG]; rfl)
          have hgl : ((G.length : Int) == 0) = true := by rw [hG]; rfl
          have HB : Hid (Below w.heap.size w wr) := Lib.hid (below_chain HBW.out hbw)
          clear HALL HFL hrow hbw
          generalize ofL [46, 46] = E at *
          go_wp2_with fail
          go_ret2
          refine ⟨ret_norm2 ?_ ?_, HB.out⟩
          · unfold resS; rw [HNO.out]
          · unfold resE; rw [HNO.out]; rfl
        · have hgl : ((G.length : Int) == 0) = false := beq_eq_false_iff_ne.2 (fun h => hG (List.length_eq_zero_iff.1 (by omega)))
          have hg0 : 1 ≤ G.length := by
            cases G with
            | nil => exact absurd rfl hG
            | cons => simp
          have hcutr := row_cut hrow (m := G.length - 1) (by omega)
          have hstr : (Texts.strs G).take (G.length - 1) = Texts.strs G.dropLast := by
            unfold Texts.strs
            rw [← List.map_take, List.dropLast_eq_take]
          rw [hstr] at hcutr
          have HR : Hid (∃ G', PI w1 L t.length (k + 1) (.slice pp (G.length - 1) cap) G' wr) := Lib.hid ⟨G.dropLast, by rw [List.length_dropLast]; exact hcutr, hbw, by rw [HALL.out, keeps_up (by decide) (by decide), if_neg (by simpa using hG)], by rw [List.length_dropLast]; omega, fun e he => HSHO.out e ((List.dropLast_sublist G).subset he)⟩
          clear HALL HFL hrow hbw hcutr hstr hG
          generalize ofL [46, 46] = E at *
          go_wp2_with fail
          go_roundw
          case rel => exact ⟨k + 1, by omega, by go_num, by rw [HF.out], HR⟩
          case measure => simp [intOf]; omega
      · have HF : Hid (flag L (k + 1) = false) := Lib.hid (by rw [HFL.out, hd, hu]; rfl)
        have HR : Hid (∀ v' w3, w3.ownsRow w1.heap.size 9 1 v' (G.length + 1) (Texts.strs G ++ [.string (ofL X)]) → Below w1.heap.size w1 w3 → ∃ G', PI w1 L t.length (k + 1) v' G' w3) := Lib.hid (fun v' w3 h1 h2 => ⟨G ++ [X], by rw [List.length_append, Texts.strs_append]; exact h1, h2, by rw [HALL.out, keeps_in hd hu], by rw [List.length_append]; simp; omega, fun e he => by
          rw [List.mem_append, List.mem_singleton] at he
          rcases he with he | rfl
          · exact HSHO.out e he
          · exact hXs⟩)
        have hd1 : (ofL X).toList.isEmpty = false ∧ ((ofL X).toList == [46]) = false := by
          rw [hET]
          unfold isDot at hd
          rw [Bool.or_eq_false_iff] at hd
          exact hd
        have hu1 : ((ofL X).toList == [46, 46]) = false := by
          rw [hET]
          exact hu
        have hne : ¬ (ofL X).toList = [] := fun h => by rw [h] at hd1; exact absurd hd1.1 (by decide)
        obtain ⟨hd1, hd2⟩ := hd1
        have hG9 : G.length ≤ 4194305 := by omega
        clear HALL HFL hd hu hET
        generalize ofL X = E at *
        go_wp2_with (at_builtin; refine wpList_append_own _ rfl _ _ 66 rfl w1.heap.size 9 i0 (.string ByteArray.empty) 1 16 Tryd.underlying66 hi hz0 hz1 hz2 rfl (by decide) _ _ _ rfl (hrow.alloc _) ⟨wr.heap.size, 0, none⟩ 1 1 [.string E] rfl rfl (cell_one_new _ _ _) (fun x hx => by simp at hx; subst hx; rfl) (by unfold maxLen; omega) (by omega) (by simp; omega) ?_; intro v' w3 hown' hgrow3 hnil3)
        have HR2 := Lib.hid (HR.out v' w3 hown' (Below.grown (hbw.alloc (by omega) _) hgrow3 (by simp; omega) (fun j hj => (hrow.lt _ hj).1)))
        clear hown' hgrow3 hnil3 HR hrow hbw
        go_wp2_with fail
        go_roundw
        case rel => exact ⟨k + 1, by omega, by go_num, by rw [HF.out], HR2⟩
        case measure => simp [intOf]; omega
    · have hkeep : keeps [] L = some G := by
        rw [I.all_, List.drop_of_length_le (by omega)]
        rfl
      have hkl : k = L.length := by omega
      subst hkl
      have HFA : Hid (flag L L.length = endsOpen L) := Lib.hid (flag_all HNE.out)
      have hjl := join_len I.short
      have hJ : (join G).length ≤ 17592202821632 := by
        have h1 : G.length * (t.length + 1) ≤ 4194305 * 4194305 := Nat.mul_le_mul (by omega) (by omega)
        omega
      have HJ := Lib.hid (fun (w2 : World) (h : w2.ownsRow w1.heap.size 9 1 (.slice pp G.length cap) G.length (Texts.strs G)) => lib_join h (by omega) (by omega))
      have HB : Hid (Below w.heap.size w wr) := Lib.hid (below_chain HBW.out hbw)
      have HRW := Lib.hid hrow
      have hsz : (ofL ((join G).drop 1)).size ≤ 17592202821632 := by rw [ofL_size, List.length_drop]; omega
      have HS1 : Hid (resS L = ofL (finish G L)) := Lib.hid (by unfold resS; rw [hkeep])
      have HS2 : Hid (resE L = 0) := Lib.hid (by unfold resE; rw [hkeep]; rfl)
      clear I hkeep hjl hrow hbw
      have hGl : G.length ≤ 4194305 := by omega
      by_cases hG : G = []
      · have hgl : ¬ (0 : Int) < (G.length : Int) := by rw [hG]; simp
        have HF1 : Hid (ofL (finish G L) = ⟨#[47]⟩ ++ ofL ((join G).drop 1)) := Lib.hid (by rw [hG]; rfl)
        rw [HFA.out]
        cases endsOpen L
        all_goals
          clear HFA hG hJ
          generalize ofL ((join G).drop 1) = E at *
          go_wp2_with fail
          refine (HJ.out _ HRW.out).mono ?_
          rintro e w2 ⟨rfl, hb2⟩
          have HB2 := Lib.hid (below_chain HB.out hb2)
          clear hb2 HJ HRW
          go_wp2_with fail
          go_ret2
          exact ⟨ret_norm2 (by rw [HS1.out, HF1.out]) HS2.out.symm, HB2.out⟩
      · have hg0 : 1 ≤ G.length := by
          cases G with
          | nil => exact absurd rfl hG
          | cons => simp
        have hgl : (0 : Int) < (G.length : Int) := by omega
        have hJJ : join G = 47 :: (join G).drop 1 := by
          cases G with
          | nil => exact absurd rfl hG
          | cons x r => simp [join]
        have HF1 : Hid (ofL (finish G L) = if endsOpen L then ⟨#[47]⟩ ++ ofL ((join G).drop 1) ++ ⟨#[47]⟩ else ⟨#[47]⟩ ++ ofL ((join G).drop 1)) := Lib.hid (by
          have he : G.isEmpty = false := by simpa using hG
          refine toL_inj ?_
          unfold finish
          rw [he, Bool.false_or]
          cases endsOpen L
          · simp only [Bool.false_eq_true, if_false, toL_append, toL_ofL]
            exact hJJ
          · simp only [if_true, toL_append, toL_ofL]
            conv => lhs; rw [hJJ]
            rfl)
        have hE2 : (ByteArray.mk #[47] ++ ofL ((join G).drop 1)).size ≤ 17592202821640 := by
          rw [ByteArray.size_append]
          have : (ByteArray.mk #[47]).size = 1 := rfl
          omega
        rw [HFA.out]
        cases ho : endsOpen L
        all_goals
          rw [ho] at HF1
          clear HFA hG hJ ho hJJ
          generalize ofL ((join G).drop 1) = E at *
          go_wp2_with fail
          refine (HJ.out _ HRW.out).mono ?_
          rintro e w2 ⟨rfl, hb2⟩
          have HB2 := Lib.hid (below_chain HB.out hb2)
          clear hb2 HJ HRW
          go_wp2_with fail
          go_ret2
          exact ⟨ret_norm2 (by rw [HS1.out, HF1.out]; rfl) HS2.out.symm, HB2.out⟩
end Go.Proofs.YtaiipdjibllodaaDoor.PResolved

/- Layer 5 of the program: what one round of its loops over a text takes off the front. No program is named. -/
namespace Go.Proofs.YtaiipdjibllodaaDoor.PEsc
open LexPure Bytes PathPure
/-- whether an escape stands at the front -/
def escO : List UInt8 → Bool
  | _ :: a :: b :: _ => isHex a && isHex b
  | _ => false
/-- the byte of the escape at the front, else 0 -/
def escN : List UInt8 → Nat
  | _ :: a :: b :: _ => if isHex a && isHex b then two a b else 0
  | _ => 0
theorem escN_lt (s : List UInt8) : escN s < 256 := by
  unfold escN
  split
  · split
    · rename_i h
      rw [Bool.and_eq_true] at h
      exact two_lt h.1 h.2
    · decide
  · decide
theorem esc_three {s : List UInt8} (h : escO s = true) : 3 ≤ s.length := by
  unfold escO at h
  split at h
  · simp
  · cases h
theorem dec_yes {t : List UInt8} (h : escO (37 :: t) = true) : dec (37 :: t) = (dec ((37 :: t).drop 3)).map (UInt8.ofNat (escN (37 :: t)) :: ·) := by
  rw [dec_cons, if_pos (by decide)]
  match t with
  | [] => cases h
  | [_] => cases h
  | a :: b :: r =>
    have hh : (isHex a && isHex b) = true := h
    have e : escN (37 :: a :: b :: r) = two a b := by unfold escN; simp only; rw [if_pos hh]
    simp only [hh, if_true, e]
    rfl
theorem dec_no {t : List UInt8} (h : escO (37 :: t) = false) : dec (37 :: t) = none := by
  rw [dec_cons, if_pos (by decide)]
  match t with
  | [] => rfl
  | [_] => rfl
  | a :: b :: r =>
    have hh : (isHex a && isHex b) = false := h
    simp only [hh]
    rfl
theorem dec_other {c : UInt8} {t : List UInt8} (h : ¬ c = 37) : dec (c :: t) = (dec t).map (c :: ·) := by
  rw [dec_cons, if_neg (by simpa using h)]
theorem esc_bad {c : UInt8} {t : List UInt8} (h : okc c = false) : esc (c :: t) = none := by
  rw [esc_cons, if_neg (by simp [h])]
theorem esc_other {c : UInt8} {t : List UInt8} (h0 : okc c = true) (h : ¬ c = 37) : esc (c :: t) = (esc t).map (c :: ·) := by
  rw [esc_cons, if_pos h0, if_neg (by simpa using h)]
theorem esc_yes {t : List UInt8} (h : escO (37 :: t) = true) : esc (37 :: t) = (esc ((37 :: t).drop 3)).map (wr (escN (37 :: t)) ++ ·) := by
  rw [esc_cons, if_pos (by decide), if_pos (by decide)]
  match t with
  | [] => cases h
  | [_] => cases h
  | a :: b :: r =>
    have hh : (isHex a && isHex b) = true := h
    have e : escN (37 :: a :: b :: r) = two a b := by unfold escN; simp only; rw [if_pos hh]
    simp only [hh, if_true, e]
    rfl
theorem esc_no {t : List UInt8} (h : escO (37 :: t) = false) : esc (37 :: t) = none := by
  rw [esc_cons, if_pos (by decide), if_pos (by decide)]
  match t with
  | [] => rfl
  | [_] => rfl
  | a :: b :: r =>
    have hh : (isHex a && isHex b) = false := h
    simp only [hh]
    rfl
theorem wr_le (n : Nat) : (wr n).length ≤ 3 := by unfold wr; split <;> simp
theorem map_map {o : Option (List UInt8)} (acc x : List UInt8) : (o.map (x ++ ·)).map (acc ++ ·) = o.map ((acc ++ x) ++ ·) := by
  cases o <;> simp
theorem map_cons {o : Option (List UInt8)} (acc : List UInt8) (c : UInt8) : (o.map (c :: ·)).map (acc ++ ·) = o.map ((acc ++ [c]) ++ ·) := by
  cases o <;> simp
end Go.Proofs.YtaiipdjibllodaaDoor.PEsc

/- Layer 4 of the program: digit. -/
namespace Go.Proofs.YtaiipdjibllodaaDoor.PDigit
open Go.ChangeShapes Go.WideShapes Go.ChangeAt Go.RowKit LexPure Bytes Ret LexNum
/-- what the program counts a byte as: 16 where the document's is no digit -/
def digP (b : UInt8) : Nat := if dig b ≤ 15 then dig b else 16
theorem digP_cases (b : UInt8) : ((b.toNat : Int) < 48 ∧ digP b = 16) ∨ (48 ≤ (b.toNat : Int) ∧ (b.toNat : Int) ≤ 57 ∧ (digP b : Int) = (b.toNat : Int) - 48) ∨ (57 < (b.toNat : Int) ∧ (b.toNat : Int) < 65 ∧ digP b = 16) ∨
    (65 ≤ (b.toNat : Int) ∧ (b.toNat : Int) ≤ 70 ∧ (digP b : Int) = (b.toNat : Int) - 65 + 10) ∨ (70 < (b.toNat : Int) ∧ (b.toNat : Int) < 97 ∧ digP b = 16) ∨ (97 ≤ (b.toNat : Int) ∧ (b.toNat : Int) ≤ 102 ∧ (digP b : Int) = (b.toNat : Int) - 97 + 10) ∨ (102 < (b.toNat : Int) ∧ digP b = 16) := by
  have := all_bytes (p := fun b => decide (((b.toNat : Int) < 48 ∧ digP b = 16) ∨ (48 ≤ (b.toNat : Int) ∧ (b.toNat : Int) ≤ 57 ∧ (digP b : Int) = (b.toNat : Int) - 48) ∨ (57 < (b.toNat : Int) ∧ (b.toNat : Int) < 65 ∧ digP b = 16) ∨
    (65 ≤ (b.toNat : Int) ∧ (b.toNat : Int) ≤ 70 ∧ (digP b : Int) = (b.toNat : Int) - 65 + 10) ∨ (70 < (b.toNat : Int) ∧ (b.toNat : Int) < 97 ∧ digP b = 16) ∨ (97 ≤ (b.toNat : Int) ∧ (b.toNat : Int) ≤ 102 ∧ (digP b : Int) = (b.toNat : Int) - 97 + 10) ∨ (102 < (b.toNat : Int) ∧ digP b = 16))) (by decide +kernel) b
  simpa only [decide_eq_true_eq] using this
theorem pdigit_any (b : UInt8) (w : World) :
    Calls Tryd.prog 52 #[.int .u8 (b.toNat : Int)] w fun e w' => e = .returned (.int .i64 (digP b : Int)) ∧ w = w' := by
  have hub : (b.toNat : Int) ≤ 255 := by have := b.toNat_lt; omega
  rcases digP_cases b with ⟨h1, h2⟩ | ⟨h1, h2, h3⟩ | ⟨h1, h2, h3⟩ | ⟨h1, h2, h3⟩ | ⟨h1, h2, h3⟩ | ⟨h1, h2, h3⟩ | ⟨h1, h2⟩
  · rw [h2]
    clear h2
    generalize (b.toNat : Int) = c at *
    go_enter Tryd.func52, Tryd.ntmps52
    go_wp2_with fail
    go_ret
    exact ⟨rfl, rfl⟩
  · rw [h3]
    clear h3
    generalize (b.toNat : Int) = c at *
    go_enter Tryd.func52, Tryd.ntmps52
    go_wp2_with fail
    go_ret
    exact ⟨rfl, rfl⟩
  · rw [h3]
    clear h3
    generalize (b.toNat : Int) = c at *
    go_enter Tryd.func52, Tryd.ntmps52
    go_wp2_with fail
    go_ret
    exact ⟨rfl, rfl⟩
  · rw [h3]
    clear h3
    generalize (b.toNat : Int) = c at *
    go_enter Tryd.func52, Tryd.ntmps52
    go_wp2_with fail
    go_ret
    exact ⟨rfl, rfl⟩
  · rw [h3]
    clear h3
    generalize (b.toNat : Int) = c at *
    go_enter Tryd.func52, Tryd.ntmps52
    go_wp2_with fail
    go_ret
    exact ⟨rfl, rfl⟩
  · rw [h3]
    clear h3
    generalize (b.toNat : Int) = c at *
    go_enter Tryd.func52, Tryd.ntmps52
    go_wp2_with fail
    go_ret
    exact ⟨rfl, rfl⟩
  · rw [h2]
    clear h2
    generalize (b.toNat : Int) = c at *
    go_enter Tryd.func52, Tryd.ntmps52
    go_wp2_with fail
    go_ret
    exact ⟨rfl, rfl⟩
end Go.Proofs.YtaiipdjibllodaaDoor.PDigit

/- Layer 4 of the program: number. -/
namespace Go.Proofs.YtaiipdjibllodaaDoor.PCount
open Go.ChangeShapes Go.WideShapes Go.ChangeAt Go.RowKit LexPure Bytes Ret LexNum PDigit
theorem digP_lt {b : UInt8} {base : Nat} (hb : base ≤ 16) (h : dig b < base) : digP b = dig b := by
  unfold digP
  rw [if_pos (by omega)]
theorem digP_ge {b : UInt8} {base : Nat} (hb : base ≤ 16) (h : ¬ dig b < base) : base ≤ digP b := by
  unfold digP
  split <;> omega
set_option maxHeartbeats 2000000 in
theorem pnumber_any (s : ByteArray) (hs : s.size ≤ maxLen) (digits : Int) (base : Nat) (hF : Fit base digits) (w : World) :
    Calls Tryd.prog 40 #[.string s, .int .i64 digits, .int .i64 (base : Int)] w fun e w' => e = .returned (.tuple #[.int .i64 (numR base digits (toL s)), .bool (numOk base digits (toL s))]) ∧ w = w' := by
  unfold maxLen at hs
  have HF := Lib.hid hF
  have hb16 : base ≤ 16 := by rcases hF with ⟨h, _⟩ | ⟨h, _⟩ <;> omega
  clear hF
  by_cases hlen : 1 ≤ s.size ∧ (s.size : Int) ≤ digits
  · obtain ⟨hl1, hl2⟩ := hlen
    have h1 : ¬ s.toList = [] := fun h => by
      rw [ByteArray.toList_eq] at h
      have h2 := toL_length s
      rw [show toL s = [] from h] at h2
      simp at h2
      omega
    have h2 : s.toList.isEmpty = false := by
      cases h : s.toList with
      | nil => exact absurd h h1
      | cons => rfl
    go_enter Tryd.func40, Tryd.ntmps40
    go_wp2_with fail
    go_loop [8, 21] (fun n i => ∃ k : Nat, k ≤ s.size ∧ i = .int .i64 k ∧ n = .int .i64 (numV base ((toL s).take k) : Nat) ∧ Hid (((toL s).take k).all (fun c => decide (dig c < base)) = true)) (fun _ i => s.size - (intOf i).toNat)
    case atStart => exact ⟨0, Nat.zero_le _, rfl, rfl, Lib.hid rfl⟩
    case round =>
      obtain ⟨k, hk, rfl, rfl, ha⟩ := hrel
      by_cases hlt : k < s.size
      · have hki : (k : Int) < (s.size : Int) := by omega
        have HT := Lib.hid (toL_take_succ s k hlt)
        have HG := Lib.hid (toL_get s k hlt)
        obtain ⟨hb1, hb2⟩ := HF.out.bound (l := (toL s).take k) (by rw [List.length_take, toL_length]; omega) ha.out
        have HN : Hid (numV base ((toL s).take (k + 1)) = base * numV base ((toL s).take k) + dig s[k]) := Lib.hid (by rw [HT.out, numV_snoc])
        have HC := Lib.hid (fun w => pdigit_any s[k] w)
        generalize numV base ((toL s).take k) = n at *
        have hcomm : (base : Int) * (n : Int) = (n : Int) * (base : Int) := Int.mul_comm _ _
        have hp0 : 0 ≤ (n : Int) * (base : Int) := by omega
        have hp1 : (n : Int) * (base : Int) ≤ 1152921504606846976 := by
          have : ((base * n : Nat) : Int) ≤ 1152921504606846976 := by omega
          rw [Int.natCast_mul] at this
          omega
        clear hb1
        by_cases hdb : dig s[k] < base
        · have HA : Hid (((toL s).take (k + 1)).all (fun c => decide (dig c < base)) = true) := Lib.hid (by rw [HT.out, List.all_append, ha.out]; simp [hdb])
          have HN2 : Hid ((n : Int) * (base : Int) + (dig s[k] : Nat) = (numV base ((toL s).take (k + 1)) : Int)) := Lib.hid (by rw [HN.out, ← hcomm]; push_cast; rfl)
          rw [digP_lt hb16 hdb] at HC
          have hdn : ¬ ((base : Int) ≤ (dig s[k] : Int)) := by omega
          have hdm : (dig s[k] : Int) ≤ 16 := by omega
          clear HT HG HN ha hdb hcomm hb16
          generalize dig s[k] = d at *
          go_wp2_with (refine (HC.out _).mono ?_; rintro e w' ⟨rfl, rfl⟩)
          go_round
          case rel => exact ⟨k + 1, by omega, by go_num, by rw [HN2.out], HA⟩
          case measure => simp [intOf]; omega
        · have HV2 : Hid (numOk base digits (toL s) = false) := Lib.hid (by
            unfold numOk
            rw [Bool.and_eq_false_iff]
            right
            rw [List.all_eq_false]
            exact ⟨s[k], List.mem_of_getElem? HG.out, by simpa using hdb⟩)
          have HV1 : Hid (numR base digits (toL s) = 0) := Lib.hid (by unfold numR; rw [HV2.out]; rfl)
          have hdn : (base : Int) ≤ (digP s[k] : Int) := by have := digP_ge hb16 hdb; omega
          clear HT HG HN ha hdb hcomm hb16
          generalize digP s[k] = d at *
          go_wp2_with (refine (HC.out _).mono ?_; rintro e w' ⟨rfl, rfl⟩)
          go_ret2
          exact ⟨ret_num HV1.out.symm HV2.out.symm, rfl⟩
      · have hall : (toL s).take k = toL s := toL_take_all s (by omega)
        have HV2 : Hid (numOk base digits (toL s) = true) := Lib.hid (by
          unfold numOk
          have h := ha.out
          rw [hall] at h
          rw [h, toL_length, decide_eq_true hl2]
          have : (toL s).isEmpty = false := by
            cases hl : toL s with
            | nil => have := toL_length s; rw [hl] at this; simp at this; omega
            | cons => rfl
          rw [this]
          rfl)
        have HV1 : Hid (numR base digits (toL s) = (numV base (toL s) : Int)) := Lib.hid (by unfold numR; rw [HV2.out]; rfl)
        rw [hall]
        clear ha hall hb16
        go_wp2_with fail
        go_ret2
        exact ⟨ret_num HV1.out.symm HV2.out.symm, rfl⟩
  · have HV2 : Hid (numOk base digits (toL s) = false) := Lib.hid (by
      unfold numOk
      rw [toL_length]
      by_cases h0 : s.size = 0
      · rw [List.isEmpty_iff.2 (List.length_eq_zero_iff.1 (by rw [toL_length]; exact h0))]
        rfl
      · rw [decide_eq_false (by omega)]
        simp)
    have HV1 : Hid (numR base digits (toL s) = 0) := Lib.hid (by unfold numR; rw [HV2.out]; rfl)
    clear hb16
    by_cases h0 : s.size = 0
    · have h1 : s.toList = [] := by
        rw [ByteArray.toList_eq]
        exact List.length_eq_zero_iff.1 (by rw [← h0]; exact toL_length s)
      have h2 : s.toList.isEmpty = true := by rw [h1]; rfl
      clear hlen
      go_enter Tryd.func40, Tryd.ntmps40
      go_wp2_with fail
      go_ret2
      exact ⟨ret_num HV1.out.symm HV2.out.symm, rfl⟩
    · have hx : digits < (s.size : Int) := by omega
      have h1 : ¬ s.toList = [] := fun h => by
        rw [ByteArray.toList_eq] at h
        have h2 := toL_length s
        rw [show toL s = [] from h] at h2
        simp at h2
        omega
      have h2 : s.toList.isEmpty = false := by
        cases h : s.toList with
        | nil => exact absurd h h1
        | cons => rfl
      clear hlen
      go_enter Tryd.func40, Tryd.ntmps40
      go_wp2_with fail
      go_ret2
      exact ⟨ret_num HV1.out.symm HV2.out.symm, rfl⟩
end Go.Proofs.YtaiipdjibllodaaDoor.PCount

/- Layer 4 of the program: Hex. -/
namespace Go.Proofs.YtaiipdjibllodaaDoor.PHex
open Go.ChangeShapes Go.WideShapes Go.ChangeAt Go.RowKit LexPure Bytes Ret LexNum PCount
theorem phex_any (s : ByteArray) (hs : s.size ≤ maxLen) (digits : Int) (w : World) :
    Calls Tryd.prog 71 #[.string s, .int .i64 digits] w fun e w' => e = .returned (.tuple #[.int .i64 (numR 16 (min digits 15) (toL s)), .bool (numOk 16 (min digits 15) (toL s))]) ∧ w = w' := by
  have HN := Lib.hid (pnumber_any s hs (min digits 15) 16 (.inr ⟨rfl, Int.min_le_right _ _⟩))
  clear hs
  rcases (show digits < 15 ∨ digits = 15 ∨ 15 < digits by omega) with h | h | h
  · have hm : min digits 15 = digits := by omega
    rw [hm] at HN ⊢
    go_enter Tryd.func71, Tryd.ntmps71
    go_wp2_with fail
    refine (HN.out _).mono ?_
    rintro e w' ⟨rfl, rfl⟩
    go_wp2_with fail
    go_ret2
    exact ⟨rfl, rfl⟩
  · subst h
    have hm : min 15 15 = (15 : Int) := rfl
    rw [hm] at HN ⊢
    go_enter Tryd.func71, Tryd.ntmps71
    go_wp2_with fail
    refine (HN.out _).mono ?_
    rintro e w' ⟨rfl, rfl⟩
    go_wp2_with fail
    go_ret2
    exact ⟨rfl, rfl⟩
  · have hm : min digits 15 = 15 := by omega
    rw [hm] at HN ⊢
    go_enter Tryd.func71, Tryd.ntmps71
    go_wp2_with fail
    refine (HN.out _).mono ?_
    rintro e w' ⟨rfl, rfl⟩
    go_wp2_with fail
    go_ret2
    exact ⟨rfl, rfl⟩
end Go.Proofs.YtaiipdjibllodaaDoor.PHex
