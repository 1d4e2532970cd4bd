/- Layer 7, the document's own Elements. -/
import Derived.Test.YtgkmkkgneipabaaDoorR7Remove
import Derived.Test.YtgkmkkgneipabaaDoorRElements
import Derived.Test.YtgkmkkgneipabaaDoorAppendRow
namespace Go.Proofs.YtgkmkkgneipabaaDoor.R7Elements
open Go.ChangeShapes Go.WideShapes Go.ChangeAt Go.RowKit LexPure Bytes Ret Rows1 Texts FieldsPure Flds RAlike7 RElements R7Get R7Remove AppendRow Mem
set_option maxRecDepth 20000
theorem elems_snoc (l : List HField) (f : HField) (n : List UInt8) : elems (l ++ [f]) n = if hit n f then elems l n ++ elements f.2 else elems l n := by
  unfold elems
  rw [List.filter_append, List.flatMap_append]
  cases h : hit n f <;> simp [h]
theorem pieces_len : ∀ s : List UInt8, (pieces s).length ≤ s.length + 1
  | [] => by simp [pieces]
  | c :: s => by
    have ih := pieces_len s
    rw [pieces]
    split
    · simp; omega
    · split
      · simp
      · rename_i p ps hp
        rw [hp] at ih
        simp at ih ⊢
        omega
theorem elements_len (s : List UInt8) : (elements s).length ≤ s.length + 1 := by
  unfold elements
  have h1 := List.length_filter_le (fun e : List UInt8 => !e.isEmpty) ((pieces s).map trim)
  rw [List.length_map] at h1
  have := pieces_len s
  omega
theorem elems_len (l : List HField) (n : List UInt8) (B : Nat) (h : ∀ f ∈ l, f.2.length + 1 ≤ B) : (elems l n).length ≤ l.length * B := by
  induction l with
  | nil => simp [elems]
  | cons f l ih =>
    have ih' := ih (fun g hg => h g (List.mem_cons_of_mem _ hg))
    have hf := h f (List.mem_cons_self)
    have he := elements_len f.2
    unfold elems at *
    rw [List.length_cons, Nat.succ_mul]
    clear h ih
    generalize l.length * B = m at *
    cases hq : hit n f
    · rw [List.filter_cons_of_neg (by rw [hq]; decide)]
      omega
    · rw [List.filter_cons_of_pos hq, List.flatMap_cons, List.length_append]
      omega
/-- the elements of the first k fields -/
structure Gath (w : World) (X : List (List UInt8)) (v : Value) (wr : World) : Prop where
  row : wr.ownsRow w.heap.size 9 1 v X.length (strs X)
  below : Below w.heap.size w wr
theorem Gath.start (w : World) : Gath w [] (.slice none 0 0) w := ⟨World.ownsRow_nil _ _ _ _, Below.refl _ _⟩
theorem Gath.call {w w1 w2 : World} {X : List (List UInt8)} {v : Value} (h : Gath w X v w1) (hb : Below w1.heap.size w1 w2) : Gath w X v w2 :=
  ⟨row_below h.row hb, below_chain h.below hb⟩
theorem Gath.lt {w w1 : World} {X : List (List UInt8)} {v : Value} (h : Gath w X v w1) : ∀ j, v.ownBlock = some j → w.heap.size ≤ j := fun j hj => (h.row.lt j hj).1
theorem strs_cells (L : List (List UInt8)) : ∀ u ∈ Texts.strs L, u.oneCell' = true := by
  intro u hu
  unfold Texts.strs at hu
  obtain ⟨a, _, rfl⟩ := List.mem_map.1 hu
  rfl
set_option maxHeartbeats 1600000 in
theorem r7elements_any (v : Value) (G : List HField) (n : ByteArray) (hn : n.size ≤ 1048576) (hG : Few G) (hle2 : G.length ≤ 1048576) (w : World) (hF : FL w v G) :
    Calls Tryd.prog 16 #[v, .string n] w fun e w' => ∃ v', e = .returned v' ∧ w'.ownsRow w.heap.size 9 1 v' (elems G (toL n)).length (strs (elems G (toL n))) ∧ Below w.heap.size w w' := by
  obtain ⟨i0, hi, hz0, hz1, hz2⟩ := info_parts infoS
  obtain ⟨p, cap, rfl, hle, hc⟩ := hF
  have hbig : ∀ k, (elems (G.take k) (toL n)).length ≤ 1099512676352 := fun k => by
    have := elems_len (G.take k) (toL n) 1048577 (fun f hf => by
      obtain ⟨j, hj, rfl⟩ := List.mem_iff_getElem.1 (List.mem_of_mem_take hf)
      exact Nat.succ_le_succ (hG j hj).2)
    have h2 : (G.take k).length ≤ 1048576 := Nat.le_trans (List.length_take_le' _ _) hle2
    have h3 := Nat.mul_le_mul_right 1048577 h2
    omega
  replace hc := Lib.hid hc
  replace hG := Lib.hid hG
  replace hbig := Lib.hid hbig
  have HK := Lib.hid (Gath.start w)
  go_enter Tryd.func16, Tryd.ntmps16
  go_wp2_with fail
  go_loopw [5, 6] (fun x i wr => ∃ k : Nat, k ≤ G.length ∧ i = .int .i64 k ∧ Hid (Gath w (elems (G.take k) (toL n)) x wr)) (fun _ i _ => G.length - (intOf i).toNat)
  case atStart => exact ⟨0, Nat.zero_le _, rfl, HK⟩
  case round =>
    obtain ⟨k, hk, rfl, HI⟩ := hrel
    clear HK
    by_cases hlt : k < G.length
    · obtain ⟨g, o, rfl, hgl, hcell⟩ := hc.out (by omega)
      obtain ⟨c1, c2⟩ := hcell k hlt
      have hki : (k : Int) < (G.length : Int) := by omega
      obtain ⟨s1, s2⟩ := hG.out k hlt
      have HA := Lib.hid (fun w => ralike7_any (ofL G[k].1) n (by rw [ofL_size]; omega) (by omega) w)
      rw [toL_ofL] at HA
      have HT : Hid (elems (G.take (k + 1)) (toL n) = if hit (toL n) G[k] then elems (G.take k) (toL n) ++ elements G[k].2 else elems (G.take k) (toL n)) := Lib.hid (by rw [← elems_snoc, List.take_add_one, List.getElem?_eq_getElem hlt]; rfl)
      replace c1 := (HI.out.below.cell (p := ⟨g, o + k * 2, none⟩) hgl).trans c1
      replace c2 := (HI.out.below.cell (p := ⟨g, o + k * 2 + 1, none⟩) hgl).trans c2
      have hgl2 := Nat.lt_of_lt_of_le hgl HI.out.below.size
      clear hcell
      cases hh : hit (toL n) G[k]
      · rw [hh] at HT
        rw [show alike G[k].1 (toL n) = false from hh] at HA
        clear hh
        go_wp2_with fail
        refine (HA.out _).mono ?_
        rintro e w2 ⟨rfl, hb2⟩
        have HK3 : Hid (Gath w (elems (G.take (k + 1)) (toL n)) u5 w2) := Lib.hid (by
          rw [HT.out]
          exact HI.out.call hb2)
        clear hb2
        go_wp2_with fail
        go_roundw
        case rel => exact ⟨k + 1, by omega, by go_num, HK3⟩
        case measure => simp [intOf]; omega
      · rw [hh] at HT
        rw [show alike G[k].1 (toL n) = true from hh] at HA
        have HE := Lib.hid (fun w => relements_any (ofL G[k].2) (by rw [ofL_size]; omega) w)
        rw [toL_ofL] at HE
        have hel := elements_len G[k].2
        clear hh
        go_wp2_with fail
        refine (HA.out _).mono ?_
        rintro e w2 ⟨rfl, hb2⟩
        replace c2 := (hb2.cell (p := ⟨g, o + k * 2 + 1, none⟩) hgl2).trans c2
        have HG2 := Lib.hid (HI.out.call hb2)
        clear hb2 c1
        go_wp2_with fail
        refine (HE.out _).mono ?_
        rintro e w3 ⟨v3, rfl, hr3, hb3⟩
        have HG3 := Lib.hid (HG2.out.call hb3)
        have hrow := HG3.out.row
        have hlen := hbig.out k
        clear hb3 HG2 c2
        go_wp2_with (at_builtin; refine wpList_append_row rfl (.tmp 27) (.tmp 28) 30 rfl w.heap.size 9 i0 (.string ByteArray.empty) 1 16 Tryd.underlying30 hi hz0 hz1 hz2 rfl (by decide) u5 _ _ rfl hrow v3 w2.heap.size _ _ rfl hr3 (strs_cells _) (by simp only [maxLen]; omega) (by omega) HG3.out.below.size ?_; intro v4 w4 hown4 hg4 hat4)
        have HK3 : Hid (Gath w (elems (G.take (k + 1)) (toL n)) v4 w4) := Lib.hid (by
          rw [HT.out]
          refine ⟨?_, Below.grown HG3.out.below hg4 HG3.out.below.size HG3.out.lt⟩
          simp only [if_true]
          rw [strs_append, List.length_append]
          exact hown4)
        clear hown4 hg4 hat4 hrow
        go_wp2_with fail
        go_roundw
        case rel => exact ⟨k + 1, by omega, by go_num, HK3⟩
        case measure => simp [intOf]; omega
    · have hall : G.take k = G := List.take_of_length_le (by omega)
      have HE := HI.out
      rw [hall] at HE
      have HEH := Lib.hid HE
      clear HE HI hall
      go_wp2_with fail
      go_ret
      exact ⟨_, rfl, HEH.out.row, HEH.out.below⟩
end Go.Proofs.YtgkmkkgneipabaaDoor.R7Elements
