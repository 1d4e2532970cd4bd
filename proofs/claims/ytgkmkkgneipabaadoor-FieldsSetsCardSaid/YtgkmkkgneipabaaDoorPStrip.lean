/- Layer 7 of the program: Strip. -/
import Derived.Test.YtgkmkkgneipabaaDoorPStrip1
import Derived.Test.YtgkmkkgneipabaaDoorPWithout
import Derived.Test.YtgkmkkgneipabaaDoorPElems7
import Derived.RegionTactic
import Derived.Test.YtgkmkkgneipabaaDoorR7Has
namespace Go.Proofs.YtgkmkkgneipabaaDoor.PStrip
open Go.ChangeShapes Go.WideShapes Go.ChangeAt Go.RowKit LexPure Bytes Ret Rows1 Texts FieldsPure Flds R7Get R7Remove PWithout PStrip1 PLower PLib PElems7 PGet R7Elements Mem Go.Maps Go.Shelf Go.WideMaps
set_option maxRecDepth 100000
/-- the keys of the first k elements -/
def keysOf (E : List (List UInt8)) : List Lit := E.map (fun e => .string (lower e))
def DOf (E : List (List UInt8)) : DataW Unit := setOf (.agg []) (keysOf E)
theorem DOf_snoc (E : List (List UInt8)) (e : List UInt8) : DOf (E ++ [e]) = (DOf E).put (.string (lower e)) (.agg []) := by
  unfold DOf keysOf
  rw [List.map_append]
  exact setOf_snoc _ _ _
theorem has_DOf (E : List (List UInt8)) (L : List UInt8) : Maps.has (DOf E) (.string L) = E.any (fun e => lower e == L) := by
  unfold DOf
  rw [has_setOf _ _ _ (fun x hx => by
    unfold keysOf at hx
    obtain ⟨e, _, rfl⟩ := List.mem_map.1 hx
    trivial)]
  unfold keysOf
  rw [List.any_map]
  rfl
theorem fixed_low : ∀ x ∈ fixed, lower x = x := by
  have : fixed.all (fun x => lower x == x) = true := by decide
  intro x hx
  exact beq_iff_eq.1 (List.all_eq_true.1 this x hx)
theorem one_keys (G : List HField) (n m : List UInt8) (hm : alike m CONNECTION = true) : (Maps.has (DOf (elems G m)) (.string (lower n)) || fixed.contains (lower n)) = one G n := by
  rw [has_DOf, elems_congr hm, Bool.or_comm]
  unfold one hasE alike
  congr 1
  rw [Bool.eq_iff_iff, List.contains_iff_mem, List.any_eq_true]
  constructor
  · intro h
    exact ⟨_, h, beq_iff_eq.2 (fixed_low _ h)⟩
  · rintro ⟨x, hx, he⟩
    rw [← beq_iff_eq.1 he, fixed_low x hx]
    exact hx
theorem wp_mapUpdate {H : Type} {P : Program} {ops : Array Oper} {o : Oper} {a : Act} {w : World} {K : Act → World → Prop} {Q : Exit → Act → World → Prop} {E : Prop}
    (hg : o.guard = none) (m x v : Operand) (t : TypeId) (hop : o.op = Op.mapUpdate t m x v)
    (k e : TypeId) (KK : Keyed P k) (ht : P.underlying t = some (.map k e)) (R : Value → Option (DataW H × List MemPlace)) (b n : Nat) (D : DataW H)
    (hm : a.eval m = .map (some b)) (hown : w.ownsMap P k R b n D) (hn : n < maxLen) (key val : Value) (kl : Lit) (hx : a.eval x = key) (hv : a.eval v = val) (hkey : keyOf P k key = some kl)
    (d : DataW H) (ps : List MemPlace) (hval : R val = some (d, ps))
    (hK : ∀ w', w'.ownsMap P k R b (n + 1) (D.put kl d) → w.grownBy w' (some b) → K (a.put o.dst undef) w') :
    if Region.wanted o (yielded ops a.tmps) = true then Oper.wp P o a w K Q else E := by
  have hw : Region.wanted o (yielded ops a.tmps) = true := by simp [Region.wanted, hg]
  rw [if_pos hw]
  obtain ⟨w', hrun, r1, r2⟩ := hown.update KK ht hn hkey hval
  unfold Oper.wp
  simp [execOp, hop, hm, hx, hv, hrun, Result.andThen]
  exact hK w' r1 r2
/-- ahead of a round: the map, and all else as it lay -/
structure SInv (w w2 : World) (mb : Nat) (E : List (List UInt8)) (k : Nat) (wr : World) : Prop where
  own : wr.ownsMap Tryd.prog 9 unitElem mb k (DOf (E.take k))
  grown : w2.grownBy wr (some mb)
theorem alikeConn : alike (toL ⟨#[67, 111, 110, 110, 101, 99, 116, 105, 111, 110]⟩) CONNECTION = true := by decide
set_option maxHeartbeats 3200000 in
theorem pstrip_any (v : Value) (G : List HField) (hG : Few G) (hle2 : G.length ≤ 1048576) (w : World) (hm : MaxInt w) (hF : FL w v G) :
    Calls Tryd.prog 24 #[v] w fun e w' => ∃ v', e = .returned v' ∧ w'.ownsRow w.heap.size 38 2 v' (strip G).length (encFs (strip G)) ∧ Below w.heap.size w w' := by
  have hmx : Tryd.prog.follows .mixedOrders = true := by kernel_rfl
  have hmm := @run_makeMap Tryd.prog
  have hb0 := ((Below.refl w.heap.size w).alloc (Nat.le_refl _) (.map #[] 0)).alloc (by simp) (.cells #[.map (some w.heap.size)] 53)
  have hE := pelems_any v G ⟨#[67, 111, 110, 110, 101, 99, 116, 105, 111, 110]⟩ hG hle2 _ (hm.below hb0) (hF.below hb0)
  have hone := one_keys G
  have hnE : (elems G (toL ⟨#[67, 111, 110, 110, 101, 99, 116, 105, 111, 110]⟩)).length ≤ 1099512676352 := by
    have := elems_len G (toL ⟨#[67, 111, 110, 110, 101, 99, 116, 105, 111, 110]⟩) 1048577 (fun f hf => Nat.succ_le_succ (few_all hG f hf).2)
    have h3 := Nat.mul_le_mul_right 1048577 hle2
    omega
  have hsh := R7Has.elems_short G (toL ⟨#[67, 111, 110, 110, 101, 99, 116, 105, 111, 110]⟩) hG
  have hone2 : ∀ n, (Maps.has (DOf (elems G (toL ⟨#[67, 111, 110, 110, 101, 99, 116, 105, 111, 110]⟩))) (.string (lower n)) || fixed.contains (lower n)) = one G n := fun n => one_keys G n _ alikeConn
  generalize elems G (toL ⟨#[67, 111, 110, 110, 101, 99, 116, 105, 111, 110]⟩) = E at *
  have HE := Lib.hid hE
  have HO := Lib.hid hone2
  have HS := Lib.hid hsh
  have HF := Lib.hid hF
  have HG := Lib.hid hG
  have hown0 := (World.ownsMap_made w Tryd.prog 9 (unitElem (H := Unit))).alloc (.cells #[.map (some w.heap.size)] 53)
  have hbx0 := (Has.new (w.alloc (.map #[] 0)) 53 #[.map (some w.heap.size)]).cell 0
  rw [World.size_alloc] at hbx0
  have hsz0 : ((w.alloc (.map #[] 0)).alloc (.cells #[.map (some w.heap.size)] 53)).heap.size = w.heap.size + 1 + 1 := by simp
  obtain ⟨p, cap, rfl, hle, _⟩ := hF
  have HB0 := Lib.hid hb0
  have HOwn := Lib.hid hown0
  have HX := Lib.hid hbx0
  clear hE hone2 hsh hG hm hb0 hown0 hbx0 hone
  go_enter Tryd.func24, Tryd.ntmps24
  go_wp2_with fail
  refine HE.out.mono ?_
  rintro e w2 ⟨v2, rfl, hrow, hb2⟩
  have hT := texts_of hrow
  have hown2 := HOwn.out.kept (show World.grownBy _ w2 none from ⟨hb2.os, hb2.tape, hb2.output, hb2.size, fun k hk _ => hb2.block k hk⟩) (by simp)
  have hx2 := (hb2.cell (p := ⟨w.heap.size + 1, 0, none⟩) (by rw [hsz0]; exact Nat.lt_succ_self _)).trans HX.out
  have HB2 := Lib.hid (below_chain HB0.out hb2)
  have hmb2 : ∀ r, some w.heap.size = some r → ∃ o : Obj, w2.heap[r]? = some o ∧ o.isCells = false := fun r e => by
    cases e
    obtain ⟨es, clock, h, _⟩ := hown2
    exact ⟨_, h, rfl⟩
  obtain ⟨p2, cap2, rfl, hl2, hc2⟩ := hT
  have HC := Lib.hid hc2
  have HM := Lib.hid hmb2
  have HX2 := Lib.hid hx2
  have HI0 : Hid (SInv w w2 w.heap.size E 0 w2) := Lib.hid ⟨hown2, World.grownBy.refl _ _⟩
  clear hrow hb2 hown2 hx2 hmb2 hc2 HE HOwn HX HB0
  go_wp2_with fail
  go_loopw [10] (fun i wr => ∃ k : Nat, k ≤ E.length ∧ i = .int .i64 k ∧ Hid (SInv w w2 w.heap.size E k wr)) (fun i _ => E.length - (intOf i).toNat)
  case atStart => exact ⟨0, Nat.zero_le _, rfl, HI0⟩
  case round =>
    obtain ⟨k, hk, rfl, HI⟩ := hrel
    clear HI0
    by_cases hlt : k < E.length
    · obtain ⟨g, o, rfl, hgl, hcell⟩ := HC.out (by omega)
      have c1 := cell_kept (hcell k hlt) HI.out.grown HM.out
      have hki : (k : Int) < (E.length : Int) := by omega
      have s1 := HS.out k hlt
      have cx := cell_kept HX2.out HI.out.grown HM.out
      have HT : Hid (DOf (E.take (k + 1)) = (DOf (E.take k)).put (.string (lower E[k])) (.agg [])) := Lib.hid (by rw [List.take_add_one, List.getElem?_eq_getElem hlt]; exact DOf_snoc _ _)
      have hkey : keyOf Tryd.prog 9 (.string (ofL (lower E[k]))) = some (.string (lower E[k])) := by
        have h := keyOf_string_mk (P := Tryd.prog) (k := 9) Tryd.underlying9 (s := ofL (lower E[k])) (by rw [ofL_size, lower_length]; unfold maxLen; omega)
        rw [h]
        rfl
      have hL := plower_any (ofL E[k]) (by rw [ofL_size]; unfold maxLen; omega) wr.drew
      rw [toL_ofL] at hL
      have HL := Lib.hid hL
      clear hcell hL
      go_wp2_with fail
      refine wp_region_any hmx ?_
      change wpAny _ _ _ _ _ _ _ (World.drew _)
      refine wpAny_take (i := 1) (v := .string (ofL E[k])) rfl (by kernel_rfl) (by kernel_rfl) (by kernel_rfl) (fun _ _ _ h => h) (Or.inl ⟨by rfl, fun w => by go_simp⟩) ?_
      refine wpAny_take (i := 3) (v := .agg #[]) rfl (by kernel_rfl) (by kernel_rfl) (by kernel_rfl) (fun _ _ _ h => h) (Or.inl ⟨by rfl, fun w => by go_simp⟩) ?_
      refine wpAny_ready (rs := [0, 2]) (by kernel_rfl) (by simp) (AllReady.cons rfl (fun K hK => ?_) (AllReady.cons rfl (fun K hK => ?_) AllReady.nil))
      · go_simp
        refine hK _ _ ?_
        clear hK K
        refine wpAny_ready (rs := [2]) (by kernel_rfl) (by simp) (AllReady.cons rfl (fun K hK => ?_) AllReady.nil)
        go_simp
        refine HL.out.mono ?_
        rintro e w4 ⟨rfl, hb4⟩
        refine hK _ _ ?_
        clear hK K
        have hown2 := HI.out.own.kept (show wr.grownBy w4 none from ⟨hb4.os, hb4.tape, hb4.output, hb4.size, fun k hk _ => hb4.block k hk⟩) (by simp)
        refine wpAny_ready (rs := [4]) (by kernel_rfl) (by simp) (AllReady.cons rfl (fun K hK => ?_) AllReady.nil)
        refine wp_mapUpdate rfl _ _ _ 53 rfl 9 54 lawS Tryd.underlying53 (unitElem (H := Unit)) w.heap.size k (DOf (E.take k)) rfl hown2 (by unfold maxLen; omega) _ _ _ rfl rfl hkey _ [] unitElem_mk ?_
        intro w5 hown5 hg5
        refine hK _ _ ?_
        clear hK K
        have HI5 : Hid (SInv w w2 w.heap.size E (k + 1) w5) := Lib.hid ⟨by rw [HT.out]; exact hown5, (HI.out.grown.trans (show wr.grownBy w4 (some w.heap.size) from ⟨hb4.os, hb4.tape, hb4.output, hb4.size, fun k hk _ => hb4.block k hk⟩)).trans hg5⟩
        clear hown5 hg5 hown2 hb4 HI HL c1 cx hkey HT
        refine wpAny_done (by kernel_rfl) ?_ _
        go_wp2_with fail
        go_roundw
        case rel => exact ⟨k + 1, by omega, by go_num, HI5⟩
        case measure => simp [intOf]; omega
      · go_simp
        refine HL.out.mono ?_
        rintro e w4 ⟨rfl, hb4⟩
        refine hK _ _ ?_
        clear hK K
        have cx4 := (hb4.cell (p := ⟨w.heap.size + 1, 0, none⟩) (World.block_lt_of_cell? _ _ cx)).trans cx
        refine wpAny_ready (rs := [0]) (by kernel_rfl) (by simp) (AllReady.cons rfl (fun K hK => ?_) AllReady.nil)
        go_simp
        refine hK _ _ ?_
        clear hK K
        have hown2 := HI.out.own.kept (show wr.grownBy w4 none from ⟨hb4.os, hb4.tape, hb4.output, hb4.size, fun k hk _ => hb4.block k hk⟩) (by simp)
        refine wpAny_ready (rs := [4]) (by kernel_rfl) (by simp) (AllReady.cons rfl (fun K hK => ?_) AllReady.nil)
        refine wp_mapUpdate rfl _ _ _ 53 rfl 9 54 lawS Tryd.underlying53 (unitElem (H := Unit)) w.heap.size k (DOf (E.take k)) rfl hown2 (by unfold maxLen; omega) _ _ _ rfl rfl hkey _ [] unitElem_mk ?_
        intro w5 hown5 hg5
        refine hK _ _ ?_
        clear hK K
        have HI5 : Hid (SInv w w2 w.heap.size E (k + 1) w5) := Lib.hid ⟨by rw [HT.out]; exact hown5, (HI.out.grown.trans (show wr.grownBy w4 (some w.heap.size) from ⟨hb4.os, hb4.tape, hb4.output, hb4.size, fun k hk _ => hb4.block k hk⟩)).trans hg5⟩
        clear hown5 hg5 hown2 hb4 HI HL c1 cx hkey HT
        refine wpAny_done (by kernel_rfl) ?_ _
        go_wp2_with fail
        go_roundw
        case rel => exact ⟨k + 1, by omega, by go_num, HI5⟩
        case measure => simp [intOf]; omega
    · have hall : E.take k = E := List.take_of_length_le (by omega)
      have cx := cell_kept HX2.out HI.out.grown HM.out
      have hown := HI.out.own
      rw [hall] at hown
      have hb := HB2.out.grown HI.out.grown HB2.out.size (fun j e => by cases e; exact Nat.le_refl _)
      have hbx := World.block_lt_of_cell? _ _ cx
      have HW := Lib.hid (pwithout_any 41 (w.heap.size + 1) (enters_of Tryd.func41 (by kernel_rfl) rfl) (fun f => one G f.1) _ G (by omega) wr (HF.out.below hb) (fun j hj W hW => by
        have h := pstrip1_any (ofL G[j].1) (ofL G[j].2) (by rw [ofL_size]; exact (HG.out j hj).1) (w.heap.size + 1) w.heap.size k (DOf E) W ((hW.cell (p := ⟨w.heap.size + 1, 0, none⟩) hbx).trans cx) (hown.kept (show wr.grownBy W none from ⟨hW.os, hW.tape, hW.output, hW.size, fun k hk _ => hW.block k hk⟩) (by simp))
        rw [toL_ofL, HO.out] at h
        exact h))
      have HB := Lib.hid hb
      clear hall cx hown hb hbx HI
      go_wp2_with fail
      refine HW.out.mono ?_
      rintro e w5 ⟨v5, rfl, hrow5, hb5⟩
      have HR : Hid (w5.ownsRow w.heap.size 38 2 v5 (strip G).length (encFs (strip G)) ∧ Below w.heap.size w w5) := Lib.hid ⟨row_mono hrow5 HB.out.size, below_chain HB.out hb5⟩
      clear hrow5 hb5 HW HB
      go_wp2_with fail
      go_ret
      exact ⟨_, rfl, HR.out⟩
end Go.Proofs.YtgkmkkgneipabaaDoor.PStrip
