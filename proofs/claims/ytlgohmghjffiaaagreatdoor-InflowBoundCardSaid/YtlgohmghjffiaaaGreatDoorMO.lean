/- Texts of this seat, one behind another: InflowBoundW. -/
import Derived.Laws.AppendOwn
import Derived.OwnWalk
import Derived.Lib.Hide
import Derived.Test.YtlgohmghjffiaaaGreatDoorB
import Derived.Test.YtlgohmghjffiaaaGreatDoorMR
import Derived.Test.YtlgohmghjffiaaaGreatDoorMW2
/- The bound of a body is met, by length and in chunks: InflowBound returns true. -/
namespace Go.Proofs.YtlgohmghjffiaaaGreatDoor.InflowBoundW
open Go.ChangeShapes Go.WideShapes Go.ChangeAt Go.RowKit Bytes LexPure Ret Rows1 HeadPure HeadLines ChunkHex InflowPure InflowWrit QCell InObj InflowObj PUnder KeptRow L11Read L11Anchor L11Writ InflowWholeW Mem Step
set_option maxRecDepth 100000
def PUTB : ByteArray := ⟨#[80, 85, 84]⟩
theorem put_fit {body : List UInt8} (hb : body.length ≤ 3001) : Wr (toL PUTB) [47] body :=
  ⟨by decide, by decide, by decide, by decide, by decide, by decide, parse_root (by decide), by omega⟩
theorem put_len {body : List UInt8} (k : Int) (hb : body.length ≤ 3001) : (wr11 (toL PUTB) [47] body k).length ≤ 50000 := by
  have hm : (toL PUTB).length = 3 := rfl
  have hs : (startL (toL PUTB) [47]).length = 3 + 1 + 10 := rfl
  have h1 : HOST_.length = 7 := rfl
  have h2 : TE_.length = 26 := rfl
  have h3 : (LEN_ body.length).length ≤ 40 := by
    have := decN_len 14 body.length (by omega)
    unfold LEN_ CLN
    simp only [List.length_append, List.length_cons, List.length_nil]
    omega
  have h4 := InflowRestW.chop_len k.toNat body.length body (Nat.le_refl _) (by omega)
  unfold wr11
  split
  · simp only [List.length_append, List.length_cons, List.length_nil]
    omega
  · simp only [List.length_append, List.length_cons, List.length_nil, lastL]
    omega
theorem bound_all {most : Int} (h0 : 0 ≤ most) {body : List UInt8} (hb : body.length ≤ 3001) (k : Int) : allOf most (wr11 (toL PUTB) [47] body k) = if (body.length : Int) ≤ most then ([rq11 (toL PUTB) [47] body k], 0, []) else ([], 413, wr11 (toL PUTB) [47] body k) := by
  have h := read_wr (put_fit hb) k most h0 []
  rw [List.append_nil] at h
  rw [allOf_step, h]
  by_cases hm : (body.length : Int) ≤ most
  · rw [if_pos hm, if_pos hm]
    dsimp only
    rw [List.drop_length, all_nil]
  · rw [if_neg hm, if_neg hm]
theorem bound_call {most : Int} (h0 : 0 ≤ most) (hin : ChObj.InR most) {body : List UInt8} (hb : body.length ≤ 3001) (k : Int) (X : ByteArray) (hX : X = ofL (wr11 (toL PUTB) [47] body k)) (W : World) (g : Nat) (hg : g = W.heap.size) (hm : MaxInt W) :
    Calls Tryz.prog 11 #[.int .i64 most, .slice (some ⟨g, 0, none⟩) 1 1] (W.alloc (.cells #[.string X] 9))
      fun e w' => GotF (W.alloc (.cells #[.string X] 9)) w' e (if (body.length : Int) ≤ most then ([rq11 (toL PUTB) [47] body k], 0, []) else ([], 413, wr11 (toL PUTB) [47] body k)) := by
  subst hg
  have tX : toL X = wr11 (toL PUTB) [47] body k := by rw [hX, toL_ofL]
  have hfl : ([toL X] : List (List UInt8)).flatten = wr11 (toL PUTB) [47] body k := by simp [tX]
  have ha := bound_all h0 hb k
  have := read_any most _ _ hin _ (hm.below ((Below.refl _ _).alloc (Nat.le_refl _) _)) (texts1 W X) (by rw [hfl]; have := put_len k hb; omega) (fun j => by
    match j with
    | 0 => rw [List.take_zero, List.flatten_nil, all_nil]; decide
    | j + 1 =>
      rw [show List.take (j + 1) [toL X] = [toL X] by simp, hfl, ha]
      split
      · exact Nat.le_of_ble_eq_true rfl
      · exact Nat.le_of_ble_eq_true rfl)
  rw [hfl, ha] at this
  exact this
theorem written_put (L : List UInt8) (hL : L.length ≤ 3001) (size : Int) (hs : -9223372036854775808 ≤ size ∧ size ≤ 9223372036854775807) (W : World) :
    Calls Tryz.prog 19 #[.string ⟨#[80, 85, 84]⟩, .string ⟨#[47]⟩, .string (ofL L), .int .i64 size] W
      fun e w' => e = .returned (.string (ofL (wr11 (toL PUTB) [47] L size))) ∧ Below W.heap.size W w' := by
  have := written_any PUTB ⟨#[47]⟩ (ofL L) size hs (by decide) (by decide) (by rw [ofL_size]; omega) W
  rw [toL_ofL] at this
  exact this
theorem infoB : (Tryz.prog.info? 5).map (fun i => (i.zero, i.size, i.bytes)) = some (some (.int .u8 0), 1, 1) := by kernel_rfl
theorem made_zero (n : Nat) : (madeCells (Value.int IntKind.u8 0).cells (n * 1)).toList = bvs (List.replicate n 0) := by
  unfold madeCells bvs bv
  rw [Nat.mul_one, Array.toList_map, List.map_replicate]
  apply List.ext_getElem
  · simp
  · intro j h1 h2
    simp only [List.getElem_map, List.getElem_replicate]
    have hz : ∀ x : Nat, (Value.int IntKind.u8 0).cells[x % (Value.int IntKind.u8 0).cells.size]! = Value.int IntKind.u8 0 := fun x => by
      show (#[Value.int IntKind.u8 0])[x % 1]! = _
      rw [Nat.mod_one]
      rfl
    exact hz _
set_option maxHeartbeats 6400000 in
theorem walkIn (most size : Int) (hs : -9223372036854775808 ≤ size ∧ size ≤ 9223372036854775807) (past : Bool) (w : World) (hm : MaxInt w) :
    Calls Tryz.prog 7 #[.int .i64 most, .int .i64 size, .bool past] w fun e w' => e = .returned (.bool true) ∧ Below w.heap.size w w' := by
  have HA := Lib.hid (anchor_any w hm)
  replace hm := Lib.hid hm
  by_cases h0 : most < 0
  · go_enter Tryz.func7, Tryz.ntmps7
    go_wp2_with fail
    refine HA.out.mono ?_
    rintro e w1 ⟨rfl, hb1⟩
    go_wp2_with fail
    go_ret
    exact ⟨rfl, hb1⟩
  by_cases h3 : 3000 < most
  · go_enter Tryz.func7, Tryz.ntmps7
    go_wp2_with fail
    refine HA.out.mono ?_
    rintro e w1 ⟨rfl, hb1⟩
    go_wp2_with fail
    go_ret
    exact ⟨rfl, hb1⟩
  obtain ⟨n, rfl⟩ : ∃ n : Nat, most = (n : Int) := ⟨most.toNat, by omega⟩
  have hn : n ≤ 3000 := by omega
  obtain ⟨i0, hi, hz0, hz1, hz2⟩ := info_parts infoB
  have lb : (List.replicate n (0 : UInt8)).length = n := List.length_replicate
  have hlb : (List.replicate n (0 : UInt8)).length ≤ 3001 := by omega
  have hlc : (List.replicate n (0 : UInt8) ++ [120]).length = n + 1 := by simp
  have HW1 := Lib.hid (written_put _ hlb size hs)
  have HW2 := Lib.hid (written_put (List.replicate n 0 ++ [120]) (by omega) size hs)
  have HR1 := Lib.hid (bound_call (most := (n : Int)) (by omega) (by unfold ChObj.InR; omega) hlb size _ rfl)
  have HR2 := Lib.hid (bound_call (most := (n : Int)) (by omega) (by unfold ChObj.InR; omega) (body := List.replicate n 0 ++ [120]) (by omega) size _ rfl)
  rw [if_pos (by omega)] at HR1
  rw [if_neg (by omega)] at HR2
  have hq1 : (rq11 (toL PUTB) [47] (List.replicate n 0) size).body = List.replicate n 0 := by unfold rq11; split <;> rfl
  generalize rq11 (toL PUTB) [47] (List.replicate n 0) size = Q1 at *
  generalize ofL (wr11 (toL PUTB) [47] (List.replicate n 0) size) = X1 at *
  generalize ofL (wr11 (toL PUTB) [47] (List.replicate n 0 ++ [120]) size) = X2 at *
  replace hq1 := Lib.hid hq1
  clear hlb hlc
  go_enter Tryz.func7, Tryz.ntmps7
  go_wp2_with fail
  refine HA.out.mono ?_
  rintro e w1 ⟨rfl, hb1⟩
  have HB := Lib.hid hb1
  clear HA hb1
  cases past with
  | false =>
   go_wp2_with (at_make; refine wpList_make_full _ rfl _ _ 53 rfl w1.heap.size 5 i0 (.int .u8 0) 1 Tryz.underlying53 hi hz0 hz1 .i64 .i64 _ _ n rfl rfl rfl rfl (by rw [hz2]; omega) (by simp only [maxLen]; omega) (Nat.le_refl _) ?_; intro w2 hown hg1; rw [made_zero] at hown; have HT := own_string (P := Tryz.prog) hown 53 9 Tryz.underlying53 Tryz.underlying5 Tryz.underlying9)
   have HO : Hid (∃ b, w2.ownsRow b 5 1 (.slice (some ⟨w1.heap.size, 0, none⟩) n n) n (bvs (List.replicate n 0))) := Lib.hid ⟨_, hown⟩
   replace HB := Lib.hid (show Below w.heap.size w w2 from HB.out.trans ⟨hg1.os, hg1.tape, hg1.output, hg1.size, fun i hi => hg1.block i (by have := HB.out.size; omega) (by simp)⟩)
   clear hown hg1 HT HW2 HR2
   generalize w1.heap.size = g at *
   refine (HW1.out w2).mono ?_
   rintro e w3 ⟨rfl, hb3⟩
   replace HB := Lib.hid (below_chain HB.out hb3)
   replace HO : Hid (∃ b, w3.ownsRow b 5 1 (.slice (some ⟨g, 0, none⟩) n n) n (bvs (List.replicate n 0))) := Lib.hid (HO.out.imp (fun _ h => row_below h hb3))
   clear HW1 hb3
   go_wp2_with fail
   refine (HR1.out _ _ rfl (hm.out.below HB.out)).mono ?_
   rintro e w4 ⟨v, P, rfl, hG, hP⟩
   dsimp only
   obtain ⟨l, rfl⟩ : ∃ l, P = [(Q1, l)] := by
     match P, hP with
     | [(q, l)], hP =>
       injection hP with h1 _
       exact ⟨l, by rw [show q = Q1 from h1]⟩
   replace HB := Lib.hid (below_chain (HB.out.alloc HB.out.size _) hG.below)
   obtain ⟨b, hO⟩ := HO.out
   have hO4 := row_below (row_below hO ((Below.refl _ _).alloc (Nat.le_refl _) (.cells #[.string X1] 9))) hG.below
   have HT := own_string (P := Tryz.prog) hO4 53 9 Tryz.underlying53 Tryz.underlying5 Tryz.underlying9
   have HT2 := own_string (P := Tryz.prog) (row_below hO4 (Below.refl w4.heap.size w4).drew) 53 9 Tryz.underlying53 Tryz.underlying5 Tryz.underlying9
   obtain ⟨gv, cap, c14, rfl⟩ : ∃ gv cap, w4.cell? ⟨gv, 14, none⟩ = some (.string (ofL (List.replicate n 0))) ∧ v = .slice (some ⟨gv, 0, none⟩) 1 cap := by
     rcases hG.row.2 with ⟨_, hn⟩ | ⟨g5, cap, cur, hv, _, hg5, _⟩
     · cases hn
     · refine ⟨g5, cap, ?_, hv⟩
       have hc := hG.row.cells (g := g5) (by rw [hv]; rfl) 14 (.string (ofL Q1.body)) rfl
       rw [hq1.out] at hc
       rw [show (⟨g5, 0, none⟩ : Addr).add 14 = ⟨g5, 14, none⟩ by unfold Addr.add; split <;> simp_all] at hc
       exact hc
   clear HR1 hG hP HO hO hO4 lb hq1 hi hz0 hz1 hz2 hs
   generalize ofL (List.replicate n 0) = BD at *
   generalize w3.heap.size = g3 at *
   go_wp2_with fail
   replace HB := HB.out
   go_region_held3 (fun w' => w'.cell? ⟨gv, 14, none⟩ = some (.string BD) ∧ (Go.convert 53 9 (.slice (some ⟨g, 0, none⟩) n n)).run Tryz.prog w' = .ok (.string BD) w') (first | exact HT2 | exact c14 | go_keep) (fail)
   go_wp2_with fail
   go_ret
   exact ⟨rfl, HB.drew⟩
  | true =>
   go_wp2_with (first
     | (at_make; refine wpList_make_full _ rfl _ _ 53 rfl w1.heap.size 5 i0 (.int .u8 0) 1 Tryz.underlying53 hi hz0 hz1 .i64 .i64 _ _ n rfl rfl rfl rfl (by rw [hz2]; omega) (by simp only [maxLen]; omega) (Nat.le_refl _) ?_; intro w2 hown hg1; rw [made_zero] at hown; have hsz2 := hg1.size)
     | (at_builtin; refine wpList_append_own _ rfl _ _ 53 rfl w1.heap.size 5 i0 (.int .u8 0) 1 1 Tryz.underlying53 hi hz0 hz1 hz2 rfl (by decide) _ _ _ rfl (hown.alloc _) ⟨w2.heap.size, 0, none⟩ 1 1 [.int .u8 120] rfl rfl (cell_one_new _ _ _) (fun x hx => by simp at hx; subst hx; rfl) (by unfold maxLen; omega) (by omega) (by simp; omega) ?_; intro v3 w3 hown3 hg3 _; obtain ⟨p3, cap3, rfl, _⟩ := row_form hown3; have HT := own_string (P := Tryz.prog) (l := List.replicate n 0 ++ [120]) (by rw [bvs_append]; exact hown3) 53 9 Tryz.underlying53 Tryz.underlying5 Tryz.underlying9))
   have hb2 : Below w.heap.size w (w2.alloc (.cells #[.int .u8 120] 5)) := (HB.out.trans ⟨hg1.os, hg1.tape, hg1.output, hg1.size, fun i hi => hg1.block i (by have := HB.out.size; omega) (by simp)⟩).alloc (by have := HB.out.size; omega) _
   have hb3 : Below w.heap.size w w3 := hb2.trans ⟨hg3.os, hg3.tape, hg3.output, hg3.size, fun i hi => hg3.block i (by have := HB.out.size; simp; omega) (by
     have h2 := HB.out.size
     intro e
     have e2 : some w1.heap.size = some i := by first | exact e | exact e.symm
     injection e2
     omega)⟩
   replace HB := Lib.hid hb3
   clear hg1 hg3 hown hown3 HT HW1 HR1 hb2 hb3 hsz2 hi hz0 hz1 hz2 hq1 lb
   refine (HW2.out w3).mono ?_
   rintro e w4 ⟨rfl, hb4⟩
   replace HB := Lib.hid (below_chain HB.out hb4)
   clear HW2 hb4
   go_wp2_with fail
   refine (HR2.out _ _ rfl (hm.out.below HB.out)).mono ?_
   rintro e w5 ⟨v, P, rfl, hG, hP⟩
   dsimp only
   obtain rfl : P = [] := by
     match P, hP with
     | [], _ => rfl
   replace HB := Lib.hid (below_chain (HB.out.alloc HB.out.size _) hG.below)
   obtain ⟨p5, cap5, rfl, _⟩ := row_form2 hG.row
   clear HR2 hG hP
   go_wp2_with fail
   go_ret
   exact ⟨rfl, HB.out⟩
theorem walk (most : Int) (_w : (Lit.int .i64 most).wf = true) (size : Int) (hs : (Lit.int .i64 size).wf = true) (past : Bool) (W : World) (hsh : W.ShapedOpen Tryz.prog) :
    Calls Tryz.prog 7 #[.int .i64 most, .int .i64 size, .bool past] W fun e w' => e = .returned (.bool true) ∧ Below W.heap.size W w' :=
  walkIn most size (by
    have h1 : (decide (IntKind.i64.min ≤ size) && decide (size ≤ IntKind.i64.max)) = true := hs
    simp only [Bool.and_eq_true, decide_eq_true_eq] at h1
    exact h1) past W (MaxInt.of_shape hsh)
end Go.Proofs.YtlgohmghjffiaaaGreatDoor.InflowBoundW
