/- Texts of this seat, one behind another: R9Has, R9Code, R9Len, Held, R9Req, R9Keep, ChunkPure, InflowPure, R11Up, R11Host, R11Stat. -/
import Derived.Handy
import Derived.Deep.QuietTactic
import Derived.BigQuiet
import Derived.Lib.Hide
import Derived.Test.YtblpooddamkfdaaGreatDoorA1
import Derived.Test.YtblpooddamkfdaaGreatDoorB1
import Derived.Test.YtblpooddamkfdaaGreatDoorA2
import Derived.Test.YtblpooddamkfdaaGreatDoorB2
import Derived.Test.YtblpooddamkfdaaGreatDoorC1
/- Layer 9, the document's own Has. -/
namespace Go.Proofs.YtblpooddamkfdaaGreatDoor.R9Has
open Go.ChangeShapes Go.WideShapes Go.ChangeAt Go.RowKit LexPure Bytes Ret FieldsPure HeadPure Flds R7Get HBox Mem
set_option maxRecDepth 20000
theorem r9has_any (h : H8) (v : Value) (nm : ByteArray) (hn : nm.size ≤ 1048576) (hG : Few h.fields) (w : World) (hF : FL w v h.fields) :
    Calls Tryz.prog 53 #[hv h v, .string nm] w fun e w' => e = .returned (.bool (decide (0 < getN h.fields (toL nm)))) ∧ Below w.heap.size w w' := by
  have hb1 := (Below.refl w.heap.size w).alloc (Nat.le_refl _) (.cells (hc h v) 25)
  have HR := Lib.hid (rget_any v h.fields nm hn hG _ (hF.below hb1))
  generalize getN h.fields (toL nm) = n at *
  generalize ofL (getV h.fields (toL nm)) = g at *
  unfold hc at hb1 HR
  unfold hv
  replace hb1 := Lib.hid hb1
  go_enter Tryz.func53, Tryz.ntmps53
  go_wp2_with fail
  refine HR.out.mono ?_
  rintro e w' ⟨rfl, hb2⟩
  have HB := Lib.hid (below_chain hb1.out hb2)
  clear hb2 hb1 HR
  go_wp2_with fail
  go_ret
  exact ⟨rfl, HB.out⟩
end Go.Proofs.YtblpooddamkfdaaGreatDoor.R9Has

/- Layer 9, the document's own Coding. -/
namespace Go.Proofs.YtblpooddamkfdaaGreatDoor.R9Code
open Go.ChangeShapes Go.WideShapes Go.ChangeAt Go.RowKit LexPure Bytes Ret Rows1 Texts FieldsPure HeadPure FramePure Flds R7Elements R7Has RLower HBox Mem
set_option maxRecDepth 20000
theorem code_nil : codeN [] = 3 := rfl
theorem code_say (I : List (List UInt8)) (x : List UInt8) : codeN (I ++ [x]) = if lower x = CHUNKED ∧ I.all (fun y => !(lower y == CHUNKED)) = true then (if I = [] then 1 else 2) else 3 := by
  unfold codeN
  rw [List.reverse_append, List.reverse_singleton, List.singleton_append]
  simp only [List.all_reverse, List.reverse_eq_nil_iff]
/-- none of the first k is chunked -/
def Fore (I : List (List UInt8)) (k : Nat) : Prop := (I.take k).all (fun y => !(lower y == CHUNKED)) = true
theorem ret_code {a b : Int} (h : a = b) : Ending.returned (.int .i64 a) = .returned (.int .i64 b) := by rw [h]
theorem chunked_at (y : List UInt8) : ((ofL (lower y)).toList == [99, 104, 117, 110, 107, 101, 100]) = (lower y == CHUNKED) := by
  rw [ByteArray.toList_eq, show (ofL (lower y)).data.toList = lower y from toL_ofL _]
  rfl
set_option maxHeartbeats 1600000 in
theorem r9code_any (h : H8) (v : Value) (hG : Few h.fields) (hle : h.fields.length ≤ 1048576) (w : World) (hF : FL w v h.fields) :
    Calls Tryz.prog 54 #[hv h v] w fun e w' => e = .returned (.int .i64 (codeN (elems h.fields TENC) : Nat)) ∧ Below w.heap.size w w' := by
  have hb1 := (Below.refl w.heap.size w).alloc (Nat.le_refl _) (.cells (hc h v) 25)
  have HR := Lib.hid (r7elements_any v h.fields ⟨#[116, 114, 97, 110, 115, 102, 101, 114, 45, 101, 110, 99, 111, 100, 105, 110, 103]⟩ (by decide) hG hle _ (hF.below hb1))
  have hS := Lib.hid (elems_short h.fields TENC hG)
  rw [show toL ⟨#[116, 114, 97, 110, 115, 102, 101, 114, 45, 101, 110, 99, 111, 100, 105, 110, 103]⟩ = TENC from rfl] at HR
  obtain ⟨C, hC⟩ : ∃ C, C = codeN (elems h.fields TENC) := ⟨_, rfl⟩
  rw [← hC]
  generalize elems h.fields TENC = E at *
  replace hC := Lib.hid hC
  unfold hc at hb1 HR
  unfold hv
  replace hb1 := Lib.hid hb1
  clear hF
  go_enter Tryz.func54, Tryz.ntmps54
  go_wp2_with fail
  generalize w.alloc (.cells #[.string (ofL h.method), .string (ofL h.target), .int .i64 h.status, .string (ofL h.reason), .int .i64 h.minor, v] 25) = W at *
  refine HR.out.mono ?_
  rintro e w2 ⟨v2, rfl, hrow, hb2⟩
  obtain ⟨p, cap, rfl, hle2, hc⟩ := texts_of hrow
  have HB0 := Lib.hid (below_chain hb1.out hb2)
  clear HR hrow hb2 hb1
  rcases List.eq_nil_or_concat E with rfl | ⟨I, x, rfl⟩
  · have hV : C = 3 := hC.out
    subst hV
    clear hc hS hC
    go_wp2_with fail
    go_ret
    exact ⟨rfl, HB0.out⟩
  · rw [List.concat_eq_append] at *
    have hV : Hid (C = if lower x = CHUNKED ∧ I.all (fun y => !(lower y == CHUNKED)) = true then (if I = [] then 1 else 2) else 3) := Lib.hid (by rw [hC.out]; exact code_say I x)
    have hln : (I ++ [x]).length = I.length + 1 := by simp
    obtain ⟨g, o, rfl, hgl, hcell⟩ := hc (by rw [hln]; omega)
    have cl := hcell I.length (by rw [hln]; omega)
    rw [List.getElem_concat_length rfl] at cl
    have hs1 := hS.out I.length (by rw [hln]; omega)
    rw [List.getElem_concat_length rfl] at hs1
    have HI : Hid (∀ j (hj : j < I.length), w2.cell? ⟨g, o + j, none⟩ = some (.string (ofL I[j])) ∧ I[j].length ≤ 1048576) := Lib.hid (fun j hj => by
      have h1 := hcell j (by rw [hln]; omega)
      have h2 := hS.out j (by rw [hln]; omega)
      rw [List.getElem_append_left hj] at h1 h2
      exact ⟨h1, h2⟩)
    rw [hln]
    rw [hln] at hle2
    have HL := Lib.hid (fun w => rlower_any (ofL x) (by rw [ofL_size]; omega) w)
    rw [toL_ofL] at HL
    have hch := chunked_at x
    clear hcell hc hS hC hln
    by_cases hx : lower x = CHUNKED
    rotate_left
    · have hV3 : Hid (C = 3) := Lib.hid (by rw [hV.out, if_neg]; exact fun h => hx h.1)
      have hq : ((ofL (lower x)).toList == [99, 104, 117, 110, 107, 101, 100]) = false := by rw [hch]; exact beq_eq_false_iff_ne.2 hx
      have hq2 : ¬ ((ofL (lower x)).toList = [99, 104, 117, 110, 107, 101, 100]) := by
        intro h
        rw [h] at hq
        cases hq
      clear hch hx hV HI
      generalize ofL (lower x) = X at *
      go_wp2_with fail
      refine (HL.out _).mono ?_
      rintro e w3 ⟨rfl, hb3⟩
      have HB := Lib.hid (below_chain HB0.out hb3)
      clear hb3 HL HB0
      go_wp2_with fail
      go_ret
      exact ⟨ret_code (by rw [hV3.out]; rfl), HB.out⟩
    have hV4 : Hid (C = if I.all (fun y => !(lower y == CHUNKED)) = true then (if I = [] then 1 else 2) else 3) := Lib.hid (by
      rw [hV.out]
      by_cases h : I.all (fun y => !(lower y == CHUNKED)) = true
      · rw [if_pos ⟨hx, h⟩, if_pos h]
      · rw [if_neg (fun h2 => h h2.2), if_neg h])
    have hq : ((ofL (lower x)).toList == [99, 104, 117, 110, 107, 101, 100]) = true := by rw [hch, hx]; exact beq_self_eq_true _
    have hq2 : (ofL (lower x)).toList = [99, 104, 117, 110, 107, 101, 100] := by simpa using hq
    clear hch hx hV
    generalize ofL (lower x) = X at *
    go_wp2_with fail
    refine (HL.out _).mono ?_
    rintro e w3 ⟨rfl, hb3⟩
    have HB := Lib.hid (below_chain HB0.out hb3)
    have HI3 : Hid (∀ j (hj : j < I.length), w3.cell? ⟨g, o + j, none⟩ = some (.string (ofL I[j])) ∧ I[j].length ≤ 1048576) := Lib.hid (fun j hj => ⟨(hb3.cell (p := ⟨g, o + j, none⟩) hgl).trans (HI.out j hj).1, (HI.out j hj).2⟩)
    have hgl3 := Nat.lt_of_lt_of_le hgl hb3.size
    clear hb3 HL HB0 HI cl
    go_wp2_with fail
    clear hq hq2
    go_loopw [4] (fun i wr => ∃ k : Nat, k ≤ I.length ∧ i = .int .i64 k ∧ Hid (Fore I k) ∧ Hid (Below w3.heap.size w3 wr)) (fun i _ => I.length - (intOf i).toNat)
    case atStart => exact ⟨0, Nat.zero_le _, rfl, Lib.hid rfl, Lib.hid (Below.refl _ _)⟩
    case round =>
      obtain ⟨k, hk, rfl, ha, HBk⟩ := hrel
      by_cases hlt : k < I.length
      · have hki : (k : Int) < (I.length : Int) := by omega
        have hki2 : (k : Int) < (I.length : Int) + 1 := by omega
        have c1 := (HBk.out.cell (p := ⟨g, o + k, none⟩) hgl3).trans (HI3.out k hlt).1
        have s1 := (HI3.out k hlt).2
        have HL := Lib.hid (fun w => rlower_any (ofL I[k]) (by rw [ofL_size]; omega) w)
        rw [toL_ofL] at HL
        have hch := chunked_at I[k]
        by_cases hy : lower I[k] = CHUNKED
        · have hV3 : Hid (C = 3) := Lib.hid (by
            rw [hV4.out, if_neg]
            intro h
            have := List.all_eq_true.1 h I[k] (List.getElem_mem hlt)
            rw [hy] at this
            cases this)
          have hq : ((ofL (lower I[k])).toList == [99, 104, 117, 110, 107, 101, 100]) = true := by rw [hch, hy]; exact beq_self_eq_true _
          clear hch hy ha hV4
          generalize ofL (lower I[k]) = X at *
          go_wp2_with fail
          refine (HL.out _).mono ?_
          rintro e w4 ⟨rfl, hb4⟩
          have HB4 := Lib.hid (below_chain HB.out (below_chain HBk.out hb4))
          clear hb4 HL c1
          go_wp2_with fail
          go_ret
          exact ⟨ret_code (by rw [hV3.out]; rfl), HB4.out⟩
        · have hq : ((ofL (lower I[k])).toList == [99, 104, 117, 110, 107, 101, 100]) = false := by rw [hch]; exact beq_eq_false_iff_ne.2 hy
          have HA : Hid (Fore I (k + 1)) := Lib.hid (by
            have ha2 := ha.out
            unfold Fore at ha2 ⊢
            rw [List.take_add_one, List.getElem?_eq_getElem hlt, List.all_append, ha2]
            simp [hy])
          clear hch hy ha
          generalize ofL (lower I[k]) = X at *
          go_wp2_with fail
          refine (HL.out _).mono ?_
          rintro e w4 ⟨rfl, hb4⟩
          have HB4 := Lib.hid (below_chain HBk.out hb4)
          clear hb4 HL c1
          go_wp2_with fail
          go_simp
          exact ⟨⟨k + 1, by omega, by omega, HA⟩, by simp [intOf]; omega⟩
      · have hki : ¬ ((k : Int) < (I.length : Int)) := by omega
        have hV5 : Hid (C = if I = [] then 1 else 2) := Lib.hid (by
          have h := ha.out
          unfold Fore at h
          rw [List.take_of_length_le (by omega)] at h
          rw [hV4.out, if_pos h])
        have HB4 := Lib.hid (below_chain HB.out HBk.out)
        clear ha hV4 HI3 HBk
        by_cases h0 : I = []
        · subst h0
          go_wp2_with fail
          go_ret
          exact ⟨ret_code (by rw [hV5.out]; rfl), HB4.out⟩
        · have hl : 0 < I.length := List.length_pos_iff.2 h0
          have hq : ((I.length : Int) + 1 == 1) = false := beq_eq_false_iff_ne.2 (by omega)
          have hV6 : Hid (C = 2) := Lib.hid (by rw [hV5.out, if_neg h0])
          clear h0 hV5 hl
          go_wp2_with fail
          go_ret
          exact ⟨ret_code (by rw [hV6.out]; rfl), HB4.out⟩
end Go.Proofs.YtblpooddamkfdaaGreatDoor.R9Code

/- Layer 9, the document's own Length. -/
namespace Go.Proofs.YtblpooddamkfdaaGreatDoor.R9Len
open Go.ChangeShapes Go.WideShapes Go.ChangeAt Go.RowKit LexPure Bytes Ret Rows1 LexList LexNum FieldsPure HeadPure FramePure Flds RLower RTrim RDecimal HBox Mem
set_option maxRecDepth 20000
/-- the lengths of a value from a place on -/
def lrest (s : ByteArray) (f : Nat) : List (List UInt8) := if f ≤ s.size then (pieces ((toL s).drop f)).map trim else []
/-- behind k bytes of a value, the last comma ahead of f; C is what the whole comes to, m the number so far -/
structure NInv (s : ByteArray) (more : List (List UInt8)) (C m : Int) (k f : Nat) : Prop where
  all_ : C = lenFrom m (lrest s f ++ more)
  le : f ≤ k
  in_ : k ≤ s.size → f ≤ s.size
  out_ : s.size < k → s.size < f
  no : noComma (((toL s).drop f).take (k - f)) = true
  least : -1 ≤ m
theorem lrest_end {s : ByteArray} {f : Nat} (hf : f ≤ s.size) (h : noComma (((toL s).drop f).take (s.size - f)) = true) : lrest s f = trim (((toL s).drop f).take (s.size - f)) :: lrest s (s.size + 1) := by
  unfold lrest
  have e : ((toL s).drop f).take (s.size - f) = (toL s).drop f := List.take_of_length_le (by rw [List.length_drop, toL_length]; omega)
  rw [if_pos hf, if_neg (by omega)]
  rw [e] at h ⊢
  rw [pieces_plain h]
  rfl
theorem lrest_cut {s : ByteArray} {f k : Nat} (hf : f ≤ k) (hk : k < s.size) (h : noComma (((toL s).drop f).take (k - f)) = true) (hc : s[k] = 44) : lrest s f = trim (((toL s).drop f).take (k - f)) :: lrest s (k + 1) := by
  unfold lrest
  rw [if_pos (by omega), if_pos (by omega)]
  have e : (toL s).drop f = ((toL s).drop f).take (k - f) ++ 44 :: (toL s).drop (k + 1) := by
    have h1 := List.take_append_drop (k - f) ((toL s).drop f)
    rw [List.drop_drop, show f + (k - f) = k by omega, toL_drop s k hk, hc] at h1
    exact h1.symm
  conv => lhs; rw [e]
  rw [pieces_cut h]
  rfl
theorem piece_eq9 (s : ByteArray) (f k : Nat) : toL (s.extract f k) = ((toL s).drop f).take (k - f) := by
  rw [toL_extract, List.drop_take]
theorem clen_at (f : HField) : ((ofL (lower f.1)).toList == [99, 111, 110, 116, 101, 110, 116, 45, 108, 101, 110, 103, 116, 104]) = hit CLEN f := by
  rw [ByteArray.toList_eq, show (ofL (lower f.1)).data.toList = lower f.1 from toL_ofL _]
  unfold hit alike
  rw [show lower CLEN = CLEN by decide]
  rfl
theorem ret_len {a b : Int} (h : a = b) : Ending.returned (.int .i64 a) = .returned (.int .i64 b) := by rw [h]
set_option maxHeartbeats 1600000 in
theorem r9len_any (h : H8) (v : Value) (hG : Few h.fields) (hle : h.fields.length ≤ 1048576) (w : World) (hF : FL w v h.fields) :
    Calls Tryz.prog 55 #[hv h v] w fun e w' => e = .returned (.int .i64 (lenN h.fields)) ∧ Below w.heap.size w w' := by
  have hb1 := (Below.refl w.heap.size w).alloc (Nat.le_refl _) (.cells (hc h v) 25)
  have B0 : HBox (w.alloc (.cells (hc h v) 25)) w.heap.size h v := ⟨Has.new w _ _⟩
  have hsz : w.heap.size < (w.alloc (.cells (hc h v) 25)).heap.size := by simp
  have hF1 := hF.below hb1
  obtain ⟨C, hC⟩ : ∃ C, C = lenN h.fields := ⟨_, rfl⟩
  rw [← hC]
  replace hC := Lib.hid hC
  obtain ⟨p, cap, rfl, hle2, hcl⟩ := hF1
  replace hcl := Lib.hid hcl
  unfold hc at hb1 B0 hcl hsz
  unfold hv
  replace hb1 := Lib.hid hb1
  replace B0 := Lib.hid B0
  clear hF
  generalize hFs : h.fields = G at *
  go_enter Tryz.func55, Tryz.ntmps55
  go_wp2_with fail
  generalize w.alloc (.cells #[.string (ofL h.method), .string (ofL h.target), .int .i64 h.status, .string (ofL h.reason), .int .i64 h.minor, .slice p G.length cap] 25) = W at *
  obtain ⟨gb, hgb⟩ : ∃ g, g = w.heap.size := ⟨_, rfl⟩
  rw [← hgb] at B0 hsz ⊢
  replace hgb := Lib.hid hgb
  have HB00 := Lib.hid (Below.refl W.heap.size W)
  go_loopw [3, 4] (fun nu i wr => ∃ (k : Nat) (m : Int), k ≤ G.length ∧ i = .int .i64 k ∧ nu = .int .i64 m ∧ Hid (-1 ≤ m ∧ C = lenFrom m (lens (G.drop k))) ∧ Hid (Below W.heap.size W wr)) (fun _ i _ => G.length - (intOf i).toNat)
  case atStart => exact ⟨0, -1, Nat.zero_le _, rfl, rfl, Lib.hid ⟨Int.le_refl _, by rw [List.drop_zero]; exact hC.out⟩, HB00⟩
  case round =>
    clear HB00
    obtain ⟨k, m, hk, rfl, rfl, hm, HB⟩ := hrel
    have B1 := B0.out.below HB.out hsz
    obtain ⟨d0, d1, d2, d3, d4, d5⟩ := B1.cells
    by_cases hlt : k < G.length
    · obtain ⟨g, o, rfl, hgl, hcell⟩ := hcl.out (by omega)
      obtain ⟨c1, c2⟩ := hcell k hlt
      replace c1 := (HB.out.cell (p := ⟨g, o + k * 2, none⟩) hgl).trans c1
      replace c2 := (HB.out.cell (p := ⟨g, o + k * 2 + 1, none⟩) hgl).trans c2
      have hki : (k : Int) < (G.length : Int) := by omega
      obtain ⟨s1, s2⟩ := hG k hlt
      have HL := Lib.hid (fun w => rlower_any (ofL G[k].1) (by rw [ofL_size]; omega) w)
      rw [toL_ofL] at HL
      have hch := clen_at G[k]
      have hlc : lens (G.drop k) = if hit CLEN G[k] then (pieces G[k].2).map trim ++ lens (G.drop (k + 1)) else lens (G.drop (k + 1)) := by
        rw [← lens_cons, ← List.drop_eq_getElem_cons hlt]
      have hgl2 := Nat.lt_of_lt_of_le hgl HB.out.size
      have hsz2 := Nat.lt_of_lt_of_le hsz HB.out.size
      clear hcell
      cases hh : hit CLEN G[k] with
      | false =>
        have HM : Hid (-1 ≤ m ∧ C = lenFrom m (lens (G.drop (k + 1)))) := Lib.hid ⟨hm.out.1, by rw [hm.out.2, hlc, hh]; rfl⟩
        rw [hh] at hch
        clear hlc hh hm
        generalize ofL (lower G[k].1) = X at *
        generalize ofL G[k].1 = A at *
        generalize ofL G[k].2 = S at *
        go_wp2_with fail
        refine (HL.out _).mono ?_
        rintro e w4 ⟨rfl, hb4⟩
        have HB4 := Lib.hid (below_chain HB.out hb4)
        clear hb4 HL c1 c2 d0 d1 d2 d3 d4 d5 B1
        go_wp2_with fail
        exact ⟨⟨k + 1, m, by omega, by go_num, rfl, HM, HB4⟩, by simp [intOf]; omega⟩
      | true =>
        have hMs : Hid (-1 ≤ m ∧ C = lenFrom m (lrest (ofL G[k].2) 0 ++ lens (G.drop (k + 1)))) := Lib.hid ⟨hm.out.1, by
          rw [hm.out.2, hlc, hh]
          unfold lrest
          rw [if_pos (Nat.zero_le _), List.drop_zero, toL_ofL]
          rfl⟩
        rw [hh] at hch
        have hS : (ofL G[k].2).size ≤ 1048576 := by rw [ofL_size]; exact s2
        clear hlc hh hm
        generalize ofL (lower G[k].1) = X at *
        generalize ofL G[k].1 = A at *
        generalize ofL G[k].2 = S at *
        obtain ⟨more, hmore⟩ : ∃ more, more = lens (G.drop (k + 1)) := ⟨_, rfl⟩
        rw [← hmore] at hMs
        replace hmore := Lib.hid hmore
        go_wp2_with fail
        refine (HL.out _).mono ?_
        rintro e w4 ⟨rfl, hb4⟩
        have HB4 := Lib.hid (below_chain HB.out hb4)
        replace c2 := (hb4.cell (p := ⟨g, o + k * 2 + 1, none⟩) hgl2).trans c2
        obtain ⟨d0', d1', d2', d3', d4', d5'⟩ := (B1.below hb4 hsz2).cells
        clear hb4 HL c1 d0 d1 d2 d3 d4 d5 B1
        have HI0 : Hid (NInv S more C m 0 0) := Lib.hid ⟨hMs.out.2, Nat.le_refl _, fun _ => Nat.zero_le _, fun h => h, rfl, hMs.out.1⟩
        clear hMs
        go_wp2_with fail
        go_loop [3, 6, 7] (fun nu f i => ∃ (j q : Nat) (n : Int), j ≤ S.size + 1 ∧ i = .int .i64 j ∧ f = .int .i64 q ∧ nu = .int .i64 n ∧ Hid (NInv S more C n j q)) (fun _ _ i => S.size + 1 - (intOf i).toNat)
        case atStart => exact ⟨0, 0, m, Nat.zero_le _, rfl, rfl, rfl, HI0⟩
        case round =>
          clear HI0
          obtain ⟨j, q, n, hj, rfl, rfl, rfl, HI⟩ := hrel
          have I := HI.out
          have hqj := I.le
          have hls := I.least
          by_cases hle3 : j ≤ S.size
          · have hji : (j : Int) ≤ (S.size : Int) := by omega
            have hqs := I.in_ hle3
            have hqi : (q : Int) ≤ (j : Int) := by omega
            by_cases hcut : j = S.size ∨ (∃ h : j < S.size, S[j] = 44)
            · obtain ⟨P, hP⟩ : ∃ P, P = trim (((toL S).drop q).take (j - q)) := ⟨_, rfl⟩
              have hE : lrest S q = P :: lrest S (j + 1) := by
                rcases hcut with h | ⟨h, hc⟩
                · subst h
                  rw [hP]
                  exact lrest_end hqs I.no
                · rw [hP]
                  exact lrest_cut hqj h I.no hc
              have hT := Lib.hid (fun w => (rtrim_any (S.extract q j) (by unfold maxLen; rw [ByteArray.size_extract]; omega) w).mono (fun e w' h => (⟨h.1, h.2.symm⟩ : e = .returned (.string (ofL (trim (toL (S.extract q j))))) ∧ w' = w)))
              rw [piece_eq9, ← hP] at hT
              have hPl : P.length ≤ S.size := by
                rw [hP]
                refine Nat.le_trans (trim_length _) ?_
                rw [List.length_take, List.length_drop, toL_length]
                omega
              have hD := Lib.hid (fun w => (rdecimal_any (ofL P) (by unfold maxLen; rw [ofL_size]; omega) 15 w).mono (fun e w' h => (⟨h.1, h.2.symm⟩ : e = .returned (.tuple #[.int .i64 (numR 10 (min 15 18) (toL (ofL P))), .bool (numOk 10 (min 15 18) (toL (ofL P)))]) ∧ w' = w)))
              rw [toL_ofL, show min (15 : Int) 18 = 15 from rfl] at hD
              have hC2 : C = lenFrom n (P :: (lrest S (j + 1) ++ more)) := by rw [I.all_, hE]; rfl
              unfold lenFrom lenStep at hC2
              have hpos := numR_pos 10 15 P
              have hx : (((j : Int) == (S.size : Int)) = true ∧ ¬ ((j : Int) < (S.size : Int))) ∨ (∃ h : j < S.size, (j : Int) < (S.size : Int) ∧ ((S[j].toNat : Int) != 44) = false) := by
                rcases hcut with h | ⟨h, hc⟩
                · exact .inl ⟨by rw [h]; exact beq_self_eq_true _, by omega⟩
                · exact .inr ⟨h, by omega, by rw [hc]; rfl⟩
              have hNI : ∀ z : Int, -1 ≤ z → C = lenFrom z (lrest S (j + 1) ++ more) → Hid (NInv S more C z (j + 1) (j + 1)) := fun z h1 h2 => Lib.hid ⟨h2, Nat.le_refl _, fun h => h, fun h => h, by rw [Nat.sub_self]; rfl, h1⟩
              replace hNI := Lib.hid hNI
              clear hE I HI hcut hP
              generalize numR 10 15 P = z at *
              generalize numOk 10 15 P = ok at *
              generalize ofL P = PS at *
              have hout : (ok = false ∧ C = -1) ∨ (ok = true ∧ ¬ (0 : Int) ≤ n ∧ C = lenFrom z (lrest S (j + 1) ++ more)) ∨ (ok = true ∧ (0 : Int) ≤ n ∧ z = n ∧ C = lenFrom z (lrest S (j + 1) ++ more)) ∨ (ok = true ∧ (0 : Int) ≤ n ∧ (z != n) = true ∧ C = -1) := by
                cases ok with
                | false =>
                  rw [if_neg (by simp)] at hC2
                  exact .inl ⟨rfl, hC2⟩
                | true =>
                  by_cases h0 : 0 ≤ n
                  · by_cases hz : z = n
                    · rw [if_pos ⟨rfl, .inr hz⟩] at hC2
                      exact .inr (.inr (.inl ⟨rfl, h0, hz, hC2⟩))
                    · rw [if_neg (by rintro ⟨_, h | h⟩; omega; exact hz h)] at hC2
                      exact .inr (.inr (.inr ⟨rfl, h0, bne_iff_ne.2 hz, hC2⟩))
                  · rw [if_pos ⟨rfl, .inl (by omega)⟩] at hC2
                    exact .inr (.inl ⟨rfl, h0, hC2⟩)
              clear hC2
              rcases hx with ⟨x1, x2⟩ | ⟨x0, x1, x2⟩ <;> rcases hout with ⟨rfl, hV⟩ | ⟨rfl, h0, hV⟩ | ⟨rfl, h0, rfl, hV⟩ | ⟨rfl, h0, h1, hV⟩
              all_goals
                first
                | (replace hV := Lib.hid (show C = -1 from hV)
                   clear hNI
                   go_wp2_with fail
                   refine (hT.out _).mono ?_
                   rintro e w5 ⟨rfl, rfl⟩
                   go_wp2_with fail
                   refine (hD.out _).mono ?_
                   rintro e w6 ⟨rfl, rfl⟩
                   go_wp2_with fail
                   go_ret
                   exact ⟨ret_len hV.out.symm, below_chain hb1.out HB4.out⟩)
                | (have HN := hNI.out _ (by omega) hV
                   clear hNI hV
                   go_wp2_with fail
                   refine (hT.out _).mono ?_
                   rintro e w5 ⟨rfl, rfl⟩
                   go_wp2_with fail
                   refine (hD.out _).mono ?_
                   rintro e w6 ⟨rfl, rfl⟩
                   go_wp2_with fail
                   go_round
                   case rel => exact ⟨j + 1, j + 1, _, by omega, by go_num, by go_num, rfl, HN⟩
                   case measure => simp [intOf]; omega)
            · have hlt3 : j < S.size := by
                rcases Nat.lt_or_ge j S.size with h | h
                · exact h
                · exact absurd (.inl (by omega)) hcut
              have hcb : (S[j] == 44) = false := by
                rw [beq_eq_false_iff_ne]
                exact fun h => hcut (.inr ⟨hlt3, h⟩)
              have hcd : ((S[j].toNat : Int) != 44) = true := by
                have := all_bytes (p := fun b => (((b.toNat : Int) != 44) == !(b == 44))) (by decide +kernel) S[j]
                rw [beq_iff_eq] at this
                rw [this, hcb]
                rfl
              have hji2 : (j : Int) < (S.size : Int) := by omega
              have HN : Hid (NInv S more C n (j + 1) q) := Lib.hid ⟨I.all_, by omega, fun _ => hqs, fun h => by omega, by
                rw [show j + 1 - q = j - q + 1 by omega, List.take_add_one, List.getElem?_drop, show q + (j - q) = j by omega, toL_get S j hlt3]
                exact noComma_snoc I.no hcb, I.least⟩
              clear hcut hcb HI I
              go_wp2_with fail
              go_round
              case rel => exact ⟨j + 1, q, n, by omega, by go_num, rfl, rfl, HN⟩
              case measure => simp [intOf]; omega
          · have hji : ¬ ((j : Int) ≤ (S.size : Int)) := by omega
            have hq2 := I.out_ (by omega)
            have HM : Hid (-1 ≤ n ∧ C = lenFrom n (lens (G.drop (k + 1)))) := Lib.hid ⟨I.least, by
              rw [I.all_, show lrest S q = [] by unfold lrest; rw [if_neg (by omega)], List.nil_append, hmore.out]⟩
            clear HI I hle3
            go_wp2_with fail
            exact ⟨⟨k + 1, n, by omega, by go_num, rfl, HM, HB4⟩, by simp [intOf]; omega⟩
    · have hki : ¬ ((k : Int) < (G.length : Int)) := by omega
      have hV : Hid (C = m) := Lib.hid (by
        rw [hm.out.2, List.drop_eq_nil_of_le (by omega)]
        rfl)
      clear hm
      go_wp2_with fail
      go_ret
      exact ⟨ret_len hV.out.symm, below_chain hb1.out HB.out⟩
end Go.Proofs.YtblpooddamkfdaaGreatDoor.R9Len

/- A variable or a parameter that holds a head, in a box made behind w. -/
namespace Go.Proofs.YtblpooddamkfdaaGreatDoor.Held
open Go.ChangeShapes Go.WideShapes Go.ChangeAt Go.RowKit LexPure Bytes Ret Rows1 FieldsPure Flds HeadPure HBox KeptRow Mem
set_option maxRecDepth 20000
/-- box g, made behind w, holds head H with its list v -/
structure LB (w W : World) (g : Nat) (H : H8) (v : Value) : Prop where
  below : Below w.heap.size w W
  low : w.heap.size ≤ g
  box : HBox W g H v
  list : FL W v H.fields
  lt : g < W.heap.size
theorem LB.new {w W : World} {H : H8} {v : Value} (hb : Below w.heap.size w W) (hf : FL W v H.fields) : LB w (W.alloc (.cells (hc H v) 25)) W.heap.size H v :=
  ⟨hb.alloc hb.size _, hb.size, ⟨Has.new W _ _⟩, hf.below ((Below.refl _ _).alloc (Nat.le_refl _) _), by simp⟩
theorem LB.call {w W W' : World} {g : Nat} {H : H8} {v : Value} (h : LB w W g H v) (hb : Below W.heap.size W W') : LB w W' g H v :=
  ⟨below_chain h.below hb, h.low, h.box.below hb h.lt, h.list.below hb, Nat.lt_of_lt_of_le h.lt hb.size⟩
theorem LB.alloc {w W : World} {g : Nat} {H : H8} {v : Value} (h : LB w W g H v) (o : Obj) : LB w (W.alloc o) g H v := h.call ((Below.refl _ _).alloc (Nat.le_refl _) o)
/-- an answer with a row of its own is stored over -/
theorem LB.put {w W W' : World} {g : Nat} {H H' : H8} {v v' : Value} (h : LB w W g H v) (hb : Below W.heap.size W W') (hr : RowF W' W.heap.size v' H'.fields) : LB w (hput W' g H' v') g H' v' :=
  ⟨below_hput (below_chain h.below hb) h.low _ _, h.low, (h.box.below hb h.lt).put _ _, fl_of (row_hput hr.1 (g := g) h.lt H' v') (by have := hr.2; omega), by rw [size_hput]; exact Nat.lt_of_lt_of_le h.lt hb.size⟩
theorem LB.drewN {w W : World} {g : Nat} {H : H8} {v : Value} (h : LB w W g H v) (n : Nat) : LB w (W.drewN n) g H v :=
  ⟨below_drewN h.below n, h.low, ⟨h.box.has.drewN n⟩, h.list, h.lt⟩
end Go.Proofs.YtblpooddamkfdaaGreatDoor.Held

/- Layer 9, the document's own Request. -/
namespace Go.Proofs.YtblpooddamkfdaaGreatDoor.R9Req
open Go.ChangeShapes Go.WideShapes Go.ChangeAt Go.RowKit LexPure Bytes Ret Rows1 FieldsPure HeadPure FramePure Flds HBox Held R9Has R9Code R9Len Mem
set_option maxRecDepth 20000
def trip (r : Int × Int × Int) : Value := .tuple #[.int .i64 r.1, .int .i64 r.2.1, .int .i64 r.2.2]
theorem ret_trip {a b c : Int} {r : Int × Int × Int} (h : r = (a, b, c)) : Ending.returned (.tuple #[.int .i64 a, .int .i64 b, .int .i64 c]) = .returned (trip r) := by rw [h]; rfl
set_option maxHeartbeats 1600000 in
theorem r9request_any (h : H8) (v : Value) (most : Int) (hG : Few h.fields) (hle : h.fields.length ≤ 1048576) (w : World) (hF : FL w v h.fields) :
    Calls Tryz.prog 25 #[hv h v, .int .i64 most] w fun e w' => e = .returned (trip (request9 h.minor h.fields most)) ∧ Below w.heap.size w w' := by
  have L0 := LB.new (Below.refl w.heap.size w) hF
  have H1 := Lib.hid (fun w hF => r9has_any h v ⟨#[99, 111, 110, 116, 101, 110, 116, 45, 108, 101, 110, 103, 116, 104]⟩ (by decide) hG w hF)
  have H2 := Lib.hid (fun w hF => r9has_any h v ⟨#[116, 114, 97, 110, 115, 102, 101, 114, 45, 101, 110, 99, 111, 100, 105, 110, 103]⟩ (by decide) hG w hF)
  have H3 := Lib.hid (fun w hF => r9code_any h v hG hle w hF)
  have H4 := Lib.hid (fun w hF => r9len_any h v hG hle w hF)
  rw [show toL ⟨#[99, 111, 110, 116, 101, 110, 116, 45, 108, 101, 110, 103, 116, 104]⟩ = CLEN from rfl] at H1
  rw [show toL ⟨#[116, 114, 97, 110, 115, 102, 101, 114, 45, 101, 110, 99, 111, 100, 105, 110, 103]⟩ = TENC from rfl] at H2
  obtain ⟨X, hX⟩ : ∃ X, X = request9 h.minor h.fields most := ⟨_, rfl⟩
  rw [← hX]
  unfold request9 at hX
  generalize codeN (elems h.fields TENC) = c at *
  generalize lenN h.fields = n at *
  generalize getN h.fields CLEN = k1 at *
  generalize getN h.fields TENC = k2 at *
  replace hX := Lib.hid hX
  obtain ⟨p, cap, rfl, _, _⟩ := id hF
  unfold hc at L0
  unfold hv at H1 H2 H3 H4 ⊢
  replace L0 := Lib.hid L0
  clear hF
  go_enter Tryz.func25, Tryz.ntmps25
  go_wp2_with fail
  generalize w.alloc (.cells #[.string (ofL h.method), .string (ofL h.target), .int .i64 h.status, .string (ofL h.reason), .int .i64 h.minor, .slice p h.fields.length cap] 25) = W at L0 ⊢
  obtain ⟨g, hg⟩ : ∃ g, g = w.heap.size := ⟨_, rfl⟩
  rw [← hg] at L0 ⊢
  replace hg := Lib.hid hg
  obtain ⟨d0, d1, d2, d3, d4, d5⟩ := L0.out.box.cells
  refine (H1.out _ L0.out.list).mono ?_
  rintro e w1 ⟨rfl, hb⟩
  replace L0 := Lib.hid (L0.out.call hb)
  clear hb d0 d1 d2 d3 d4 d5
  obtain ⟨d0, d1, d2, d3, d4, d5⟩ := L0.out.box.cells
  go_wp2_with fail
  refine (H2.out _ L0.out.list).mono ?_
  rintro e w2 ⟨rfl, hb⟩
  replace L0 := Lib.hid (L0.out.call hb)
  clear hb d0 d1 d2 d3 d4 d5
  obtain ⟨d0, d1, d2, d3, d4, d5⟩ := L0.out.box.cells
  by_cases h2 : 0 < k2
  · have e2 : decide (0 < k2) = true := decide_eq_true h2
    have hX2 : Hid (X = if h.minor = 0 ∨ 0 < k1 ∨ c = 3 then (0, 0, 90) else if c = 2 then (0, 0, 91) else (3, 0, 0)) := Lib.hid (by rw [hX.out, if_pos h2])
    replace h2 := Lib.hid h2
    clear hX
    rw [e2]
    clear e2
    go_wp2_with fail
    refine (H3.out _ L0.out.list).mono ?_
    rintro e w3 ⟨rfl, hb⟩
    replace L0 := Lib.hid (L0.out.call hb)
    clear hb d0 d1 d2 d3 d4 d5
    obtain ⟨d0, d1, d2, d3, d4, d5⟩ := L0.out.box.cells
    have hcs : (h.minor = 0 ∧ (h.minor == 0) = true ∧ X = (0, 0, 90)) ∨ ((h.minor == 0) = false ∧ decide (0 < k1) = true ∧ X = (0, 0, 90)) ∨ ((h.minor == 0) = false ∧ decide (0 < k1) = false ∧ ((c : Int) == 3) = true ∧ X = (0, 0, 90)) ∨ ((h.minor == 0) = false ∧ decide (0 < k1) = false ∧ ((c : Int) == 3) = false ∧ ((c : Int) == 2) = true ∧ X = (0, 0, 91)) ∨ ((h.minor == 0) = false ∧ decide (0 < k1) = false ∧ ((c : Int) == 3) = false ∧ ((c : Int) == 2) = false ∧ X = (3, 0, 0)) := by
      rw [hX2.out]
      by_cases m0 : h.minor = 0
      · exact .inl ⟨m0, by rw [m0]; rfl, if_pos (.inl m0)⟩
      · have m1 : (h.minor == 0) = false := beq_eq_false_iff_ne.2 m0
        by_cases q1 : 0 < k1
        · exact .inr (.inl ⟨m1, decide_eq_true q1, if_pos (.inr (.inl q1))⟩)
        · have q2 : decide (0 < k1) = false := decide_eq_false q1
          by_cases c3 : c = 3
          · exact .inr (.inr (.inl ⟨m1, q2, by rw [c3]; rfl, if_pos (.inr (.inr c3))⟩))
          · have c4 : ((c : Int) == 3) = false := beq_eq_false_iff_ne.2 (by omega)
            rw [if_neg (by rintro (h | h | h); exact m0 h; exact q1 h; exact c3 h)]
            by_cases c2 : c = 2
            · exact .inr (.inr (.inr (.inl ⟨m1, q2, c4, by rw [c2]; rfl, if_pos c2⟩)))
            · exact .inr (.inr (.inr (.inr ⟨m1, q2, c4, beq_eq_false_iff_ne.2 (by omega), if_neg c2⟩)))
    clear hX2 H1 H2 H3 H4
    rcases hcs with ⟨m0, m1, hV⟩ | ⟨m1, q1, hV⟩ | ⟨m1, q1, c3, hV⟩ | ⟨m1, q1, c3, c2, hV⟩ | ⟨m1, q1, c3, c2, hV⟩
    · clear m0
      replace hV := Lib.hid hV
      go_wp2_with fail
      go_ret3
      exact ⟨ret_trip hV.out, L0.out.below⟩
    all_goals
      replace hV := Lib.hid hV
      rw [q1]
      clear q1
      go_wp2_with fail
      go_ret3
      exact ⟨ret_trip hV.out, L0.out.below⟩
  · have e2 : decide (0 < k2) = false := decide_eq_false h2
    have hX2 : Hid (X = if k1 = 0 then (1, 0, 0) else if n < 0 then (0, 0, 90) else if most < n then (0, 0, 101) else (2, n, 0)) := Lib.hid (by rw [hX.out, if_neg h2])
    clear hX h2
    rw [e2]
    clear e2
    by_cases h1 : k1 = 0
    · have e1 : decide (0 < k1) = false := decide_eq_false (by omega)
      have hV : Hid (X = (1, 0, 0)) := Lib.hid (by rw [hX2.out, if_pos h1])
      rw [e1]
      clear e1 h1 hX2
      go_wp2_with fail
      go_ret3
      exact ⟨ret_trip hV.out, L0.out.below⟩
    · have e1 : decide (0 < k1) = true := decide_eq_true (by omega)
      have hcs : (n < 0 ∧ X = (0, 0, 90)) ∨ (¬ n < 0 ∧ most < n ∧ X = (0, 0, 101)) ∨ (¬ n < 0 ∧ ¬ most < n ∧ X = (2, n, 0)) := by
        rw [hX2.out, if_neg h1]
        by_cases n0 : n < 0
        · exact .inl ⟨n0, if_pos n0⟩
        · rw [if_neg n0]
          by_cases n1 : most < n
          · exact .inr (.inl ⟨n0, n1, if_pos n1⟩)
          · exact .inr (.inr ⟨n0, n1, if_neg n1⟩)
      rw [e1]
      clear e1 h1 hX2
      go_wp2_with fail
      refine (H4.out _ L0.out.list).mono ?_
      rintro e w3 ⟨rfl, hb⟩
      replace L0 := Lib.hid (L0.out.call hb)
      clear hb d0 d1 d2 d3 d4 d5
      obtain ⟨d0, d1, d2, d3, d4, d5⟩ := L0.out.box.cells
      clear H1 H2 H3 H4
      rcases hcs with ⟨n0, hV⟩ | ⟨n0, n1, hV⟩ | ⟨n0, n1, hV⟩
      all_goals
        replace hV := Lib.hid hV
        go_wp2_with fail
        go_ret3
        exact ⟨ret_trip hV.out, L0.out.below⟩
end Go.Proofs.YtblpooddamkfdaaGreatDoor.R9Req

/- Layer 9, the document's own Keep. -/
namespace Go.Proofs.YtblpooddamkfdaaGreatDoor.R9Keep
open Go.ChangeShapes Go.WideShapes Go.ChangeAt Go.RowKit LexPure Bytes Ret FieldsPure HeadPure FramePure Flds R7Has HBox Mem
set_option maxRecDepth 20000
theorem r9keep_any (h : H8) (v : Value) (hG : Few h.fields) (hle : h.fields.length ≤ 1048576) (w : World) (hF : FL w v h.fields) :
    Calls Tryz.prog 26 #[hv h v] w fun e w' => e = .returned (.bool (keep9 h.minor h.fields)) ∧ Below w.heap.size w w' := by
  have hb1 := (Below.refl w.heap.size w).alloc (Nat.le_refl _) (.cells (hc h v) 25)
  have B0 : HBox (w.alloc (.cells (hc h v) 25)) w.heap.size h v := ⟨Has.new w _ _⟩
  have hsz : w.heap.size < (w.alloc (.cells (hc h v) 25)).heap.size := by simp
  have hF1 := hF.below hb1
  have H1 := Lib.hid (fun w hF => r7has_any v h.fields ⟨#[99, 111, 110, 110, 101, 99, 116, 105, 111, 110]⟩ ⟨#[99, 108, 111, 115, 101]⟩ (by decide) (by decide) hG hle w hF)
  have H2 := Lib.hid (fun w hF => r7has_any v h.fields ⟨#[99, 111, 110, 110, 101, 99, 116, 105, 111, 110]⟩ ⟨#[107, 101, 101, 112, 45, 97, 108, 105, 118, 101]⟩ (by decide) (by decide) hG hle w hF)
  have hk : keep9 h.minor h.fields = (!hasE h.fields (toL ⟨#[99, 111, 110, 110, 101, 99, 116, 105, 111, 110]⟩) (toL ⟨#[99, 108, 111, 115, 101]⟩) && (h.minor != 0 || hasE h.fields (toL ⟨#[99, 111, 110, 110, 101, 99, 116, 105, 111, 110]⟩) (toL ⟨#[107, 101, 101, 112, 45, 97, 108, 105, 118, 101]⟩))) := rfl
  rw [hk]
  clear hk
  generalize hasE h.fields (toL ⟨#[99, 111, 110, 110, 101, 99, 116, 105, 111, 110]⟩) (toL ⟨#[99, 108, 111, 115, 101]⟩) = b1 at *
  generalize hasE h.fields (toL ⟨#[99, 111, 110, 110, 101, 99, 116, 105, 111, 110]⟩) (toL ⟨#[107, 101, 101, 112, 45, 97, 108, 105, 118, 101]⟩) = b2 at *
  obtain ⟨p, cap, rfl, _, _⟩ := id hF
  unfold hc at hb1 B0 hF1 hsz
  unfold hv
  replace hb1 := Lib.hid hb1
  replace hF1 := Lib.hid hF1
  replace B0 := Lib.hid B0
  clear hF
  go_enter Tryz.func26, Tryz.ntmps26
  go_wp2_with fail
  generalize w.alloc (.cells #[.string (ofL h.method), .string (ofL h.target), .int .i64 h.status, .string (ofL h.reason), .int .i64 h.minor, .slice p h.fields.length cap] 25) = W at *
  obtain ⟨g, hg⟩ : ∃ g, g = w.heap.size := ⟨_, rfl⟩
  rw [← hg] at B0 hsz ⊢
  replace hg := Lib.hid hg
  refine (H1.out _ hF1.out).mono ?_
  rintro e w1 ⟨rfl, hb2⟩
  have hF2 := Lib.hid (hF1.out.below hb2)
  have B1 := Lib.hid (B0.out.below hb2 hsz)
  have HB := Lib.hid (below_chain hb1.out hb2)
  obtain ⟨d0, d1, d2, d3, d4, d5⟩ := B1.out.cells
  clear hb2 H1 B0 B1 hF1 hb1
  cases b1 with
  | true =>
    go_wp2_with fail
    go_ret
    exact ⟨rfl, HB.out⟩
  | false =>
    by_cases hm : h.minor = 0
    · have hm1 : (h.minor != 0) = false := by rw [hm]; rfl
      clear hm
      have hq : (!false && (h.minor != 0 || b2)) = b2 := by rw [hm1]; rfl
      replace hq := Lib.hid hq
      go_wp2_with fail
      refine (H2.out _ hF2.out).mono ?_
      rintro e w2 ⟨rfl, hb2⟩
      replace HB := Lib.hid (below_chain HB.out hb2)
      clear hb2 H2 hF2
      go_wp2_with fail
      go_ret
      exact ⟨ret_bool hq.out.symm, HB.out⟩
    · have hm1 : (h.minor != 0) = true := bne_iff_ne.2 hm
      clear hm
      have hq : (!false && (h.minor != 0 || b2)) = true := by rw [hm1]; rfl
      replace hq := Lib.hid hq
      go_wp2_with fail
      go_ret
      exact ⟨ret_bool hq.out.symm, HB.out⟩
end Go.Proofs.YtblpooddamkfdaaGreatDoor.R9Keep

/- Layer 10: bodies in chunks, read byte by byte, and written. No program is named. -/
namespace Go.Proofs.YtblpooddamkfdaaGreatDoor.ChunkPure
open Bytes LexPure LexNum HeadPure
set_option maxRecDepth 20000
inductive Ph where
  | size
  | data (left : Nat)
  | after
  | trail (n : Nat)
  | done
  | bad (e : Int)
/-- where the reading stands: the line so far, whether a 13 stands behind it -/
structure M where
  most : Int
  size : Nat
  ph : Ph
  line : List UInt8
  cr : Bool
def begin_ (most : Int) : M := ⟨most, 0, .size, [], false⟩
def bound : Ph → Nat
  | .size => 64
  | .trail _ => 512
  | _ => 0
def extB (c : UInt8) : Bool := c == 9 || (decide (32 ≤ c) && decide (c ≤ 126))
/-- the size that a size line says, or -1 -/
def sizeL (l : List UInt8) : Int := if numOk 16 8 (l.takeWhile (fun c => c != 59)) = true then numR 16 8 (l.takeWhile (fun c => c != 59)) else -1
/-- a line has its semicolon or its colon -/
def parted (l : List UInt8) : Bool := l.any (fun c => c == 59 || c == 58)
/-- may c stand next in a size line, in a trailer? -/
def fitsSize (l : List UInt8) (c : UInt8) : Bool := if parted l = true then extB c else if c = 59 then !l.isEmpty else decide (dig c < 16) && decide (l.length < 8)
def fitsTrail (l : List UInt8) (c : UInt8) : Bool := if parted l = true then plainB c else if c = 58 then !l.isEmpty else markB c
def fits (ph : Ph) (l : List UInt8) (c : UInt8) : Bool :=
  match ph with
  | .size => decide (l.length < 64) && fitsSize l c
  | .trail _ => decide (l.length < 512) && fitsTrail l c
  | _ => false
theorem fits_bound {ph : Ph} {l : List UInt8} {c : UInt8} (h : fits ph l c = true) : l.length < bound ph := by
  unfold fits at h
  unfold bound
  split at h
  · rw [Bool.and_eq_true] at h; exact of_decide_eq_true h.1
  · rw [Bool.and_eq_true] at h; exact of_decide_eq_true h.1
  · cases h
def fail (m : M) (e : Int) : M := ⟨m.most, m.size, .bad e, [], false⟩
def goOn (m : M) (ph : Ph) : M := ⟨m.most, m.size, ph, [], false⟩
/-- a line's end -/
def endLine (m : M) : M :=
  match m.ph with
  | .size => if sizeL m.line < 0 then fail m 100 else if m.most < m.size + sizeL m.line then fail m 101 else if sizeL m.line = 0 then goOn m (.trail 0) else goOn m (.data (sizeL m.line).toNat)
  | .after => goOn m .size
  | .trail n => if m.line = [] then goOn m .done else if (field8 m.line).2 ≠ 0 ∨ n = 32 then fail m 100 else goOn m (.trail (n + 1))
  | _ => m
def lineStep (m : M) (c : UInt8) : M :=
  if m.cr then (if c = 10 then endLine m else fail m 100)
  else if c = 13 then { m with cr := true }
  else if fits m.ph m.line c = true then { m with line := m.line ++ [c] } else fail m 100
def bstep (m : M) (c : UInt8) : M × List UInt8 :=
  match m.ph with
  | .data left => (⟨m.most, m.size + 1, if left ≤ 1 then .after else .data (left - 1), m.line, m.cr⟩, [c])
  | .done => (m, [])
  | .bad _ => (m, [])
  | _ => (lineStep m c, [])
def stop (m : M) : Bool :=
  match m.ph with
  | .done => true
  | .bad _ => true
  | _ => false
def run : M → List UInt8 → M × List UInt8 × Nat
  | m, [] => (m, [], 0)
  | m, c :: l => if stop m = true then (m, [], 0) else ((run (bstep m c).1 l).1, (bstep m c).2 ++ (run (bstep m c).1 l).2.1, (run (bstep m c).1 l).2.2 + 1)
theorem run_stop {m : M} (h : stop m = true) (l : List UInt8) : run m l = (m, [], 0) := by
  cases l with
  | nil => rfl
  | cons c l => unfold run; rw [if_pos h]
theorem run_cons {m : M} (h : stop m = false) (c : UInt8) (l : List UInt8) : run m (c :: l) = ((run (bstep m c).1 l).1, (bstep m c).2 ++ (run (bstep m c).1 l).2.1, (run (bstep m c).1 l).2.2 + 1) := by
  conv => lhs; unfold run
  rw [if_neg (by rw [h]; decide)]
theorem run_append : ∀ (m : M) (a b : List UInt8), run m (a ++ b) = ((run (run m a).1 b).1, (run m a).2.1 ++ (run (run m a).1 b).2.1, (run m a).2.2 + (run (run m a).1 b).2.2)
  | m, [], b => by
    rw [List.nil_append]
    show run m b = ((run m b).1, [] ++ (run m b).2.1, 0 + (run m b).2.2)
    rw [List.nil_append, Nat.zero_add]
  | m, c :: a, b => by
    cases h : stop m
    · rw [List.cons_append, run_cons h, run_cons h, run_append]
      simp only [List.append_assoc]
      congr 2
      omega
    · rw [run_stop h, run_stop h]
      show (m, [], 0) = ((run m b).1, [] ++ (run m b).2.1, 0 + (run m b).2.2)
      rw [run_stop h]
      rfl
theorem run_used (m : M) (l : List UInt8) : (run m l).2.2 ≤ l.length ∧ (run m l).2.1.length ≤ (run m l).2.2 ∧ (stop (run m l).1 = false → (run m l).2.2 = l.length) := by
  induction l generalizing m with
  | nil => exact ⟨Nat.le_refl _, Nat.le_refl _, fun _ => rfl⟩
  | cons c l ih =>
    cases h : stop m
    · rw [run_cons h]
      obtain ⟨h1, h2, h3⟩ := ih (bstep m c).1
      have h4 : (bstep m c).2.length ≤ 1 := by
        unfold bstep
        split <;> simp
      refine ⟨by simpa using h1, ?_, fun hs => ?_⟩
      · rw [List.length_append]
        show _ ≤ (run (bstep m c).1 l).2.2 + 1
        omega
      · show (run (bstep m c).1 l).2.2 + 1 = _
        rw [h3 hs, List.length_cons]
    · rw [run_stop h]
      exact ⟨Nat.zero_le _, Nat.le_refl _, fun hs => by rw [h] at hs; cases hs⟩
/-- the whole is in order -/
structure Ok (m : M) : Prop where
  most : (m.size : Int) ≤ m.most ∨ m.size = 0
  left : ∀ n, m.ph = .data n → 1 ≤ n ∧ (m.size : Int) + n ≤ m.most
  line : m.line.length ≤ 512
  trail : ∀ n, m.ph = .trail n → n ≤ 32
theorem Ok.start (most : Int) : Ok (begin_ most) := ⟨.inr rfl, fun n h => (by cases h), Nat.zero_le _, fun n h => (by cases h)⟩
theorem Ok.fail {m : M} (h : Ok m) (e : Int) : Ok (fail m e) := ⟨h.most, fun n h => (by cases h), Nat.zero_le _, fun n h => (by cases h)⟩
theorem numR_nonneg (base : Nat) (d : Int) (p : List UInt8) : 0 ≤ numR base d p := by
  unfold numR
  split
  · omega
  · exact Int.le_refl 0
theorem Ok.endLine {m : M} (h : Ok m) : Ok (endLine m) := by
  unfold ChunkPure.endLine
  split
  · split
    · exact h.fail _
    · split
      · exact h.fail _
      · split
        · exact ⟨h.most, fun n h => (by cases h), Nat.zero_le _, fun n h => (by cases h; exact Nat.zero_le _)⟩
        · rename_i h1 h2 h3
          refine ⟨h.most, fun n hn => ?_, Nat.zero_le _, fun n h => (by cases h)⟩
          have hn2 : (sizeL m.line).toNat = n := by
            have : Ph.data (sizeL m.line).toNat = Ph.data n := hn
            injection this
          have e : (goOn m (.data (sizeL m.line).toNat)).size = m.size := rfl
          have e2 : (goOn m (.data (sizeL m.line).toNat)).most = m.most := rfl
          rw [e, e2]
          omega
  · exact ⟨h.most, fun n h => (by cases h), Nat.zero_le _, fun n h => (by cases h)⟩
  · rename_i n hp
    split
    · exact ⟨h.most, fun n h => (by cases h), Nat.zero_le _, fun n h => (by cases h)⟩
    · split
      · exact h.fail _
      · rename_i h1 h2
        refine ⟨h.most, fun n h => (by cases h), Nat.zero_le _, fun k hk => ?_⟩
        have hk2 : n + 1 = k := by
          have : Ph.trail (n + 1) = Ph.trail k := hk
          injection this
        have := h.trail n hp
        omega
  · exact h
theorem Ok.lineStep {m : M} (h : Ok m) (c : UInt8) : Ok (lineStep m c) := by
  unfold ChunkPure.lineStep
  split
  · split
    · exact h.endLine
    · exact h.fail _
  · split
    · exact ⟨h.most, h.left, h.line, h.trail⟩
    · split
      rotate_left
      · exact h.fail _
      · rename_i h1 h2 h3
        replace h3 := fits_bound h3
        refine ⟨h.most, h.left, ?_, h.trail⟩
        show (m.line ++ [c]).length ≤ 512
        rw [List.length_append, List.length_singleton]
        have : bound m.ph ≤ 512 := by unfold bound; split <;> omega
        omega
theorem Ok.bstep {m : M} (h : Ok m) (c : UInt8) : Ok (bstep m c).1 := by
  unfold ChunkPure.bstep
  split
  · rename_i left hp
    obtain ⟨h1, h2⟩ := h.left left hp
    refine ⟨.inl (by show ((m.size + 1 : Nat) : Int) ≤ m.most; omega), fun n hn => ?_, h.line, fun n hn => ?_⟩
    · have hn2 : (if left ≤ 1 then Ph.after else Ph.data (left - 1)) = Ph.data n := hn
      by_cases hl : left ≤ 1
      · rw [if_pos hl] at hn2; cases hn2
      · rw [if_neg hl] at hn2
        injection hn2 with hn3
        show 1 ≤ n ∧ ((m.size + 1 : Nat) : Int) + n ≤ m.most
        omega
    · have hn2 : (if left ≤ 1 then Ph.after else Ph.data (left - 1)) = Ph.trail n := hn
      split at hn2 <;> cases hn2
  · exact h
  · exact h
  · exact h.lineStep c
theorem Ok.run {m : M} (h : Ok m) (l : List UInt8) : Ok (run m l).1 := by
  induction l generalizing m with
  | nil => exact h
  | cons c l ih =>
    cases hs : stop m
    · rw [run_cons hs]
      exact ih (h.bstep c)
    · rw [run_stop hs]
      exact h
theorem end_keeps (m : M) : (endLine m).size = m.size ∧ (endLine m).most = m.most := by
  unfold endLine
  split
  · split
    · exact ⟨rfl, rfl⟩
    · split
      · exact ⟨rfl, rfl⟩
      · split <;> exact ⟨rfl, rfl⟩
  · exact ⟨rfl, rfl⟩
  · split
    · exact ⟨rfl, rfl⟩
    · split <;> exact ⟨rfl, rfl⟩
  · exact ⟨rfl, rfl⟩
theorem step_size (m : M) (c : UInt8) : (bstep m c).1.size = m.size + (bstep m c).2.length ∧ (bstep m c).1.most = m.most := by
  unfold bstep
  split
  · exact ⟨rfl, rfl⟩
  · exact ⟨rfl, rfl⟩
  · exact ⟨rfl, rfl⟩
  · unfold lineStep
    split
    · split
      · exact end_keeps m
      · exact ⟨rfl, rfl⟩
    · split
      · exact ⟨rfl, rfl⟩
      · split <;> exact ⟨rfl, rfl⟩
theorem run_size (m : M) (l : List UInt8) : (run m l).1.size = m.size + (run m l).2.1.length ∧ (run m l).1.most = m.most := by
  induction l generalizing m with
  | nil => exact ⟨rfl, rfl⟩
  | cons c l ih =>
    cases hs : stop m
    · rw [run_cons hs]
      obtain ⟨h1, h2⟩ := ih (bstep m c).1
      obtain ⟨h3, h4⟩ := step_size m c
      refine ⟨?_, h2.trans h4⟩
      rw [List.length_append]
      show (run (bstep m c).1 l).1.size = _
      omega
    · rw [run_stop hs]
      exact ⟨rfl, rfl⟩
/-! ### what a call answers -/
/-- the bytes of the body, how many were read, whether it is whole, the error -/
def ans (m : M) (l : List UInt8) : List UInt8 × Nat × Bool × Int :=
  match (run m l).1.ph with
  | .bad e => ([], 0, false, e)
  | .done => ((run m l).2.1, (run m l).2.2, true, 0)
  | _ => ((run m l).2.1, (run m l).2.2, false, 0)
def next (m : M) (l : List UInt8) : M := (run m l).1
theorem ans_used (m : M) (l : List UInt8) : (ans m l).2.1 ≤ l.length ∧ (ans m l).1.length ≤ (ans m l).2.1 ∧ ((ans m l).2.2.2 ≠ 0 → (ans m l).1 = []) := by
  obtain ⟨h1, h2, _⟩ := run_used m l
  unfold ans
  split
  · exact ⟨Nat.zero_le _, Nat.le_refl _, fun _ => rfl⟩
  · exact ⟨h1, h2, fun h => absurd rfl h⟩
  · exact ⟨h1, h2, fun h => absurd rfl h⟩
theorem ans_size (m : M) (l : List UInt8) : m.size + (ans m l).1.length ≤ (next m l).size := by
  have := (run_size m l).1
  unfold ans next
  split
  · show m.size + 0 ≤ _
    omega
  · show m.size + (run m l).2.1.length ≤ _
    omega
  · show m.size + (run m l).2.1.length ≤ _
    omega
/-! ### in whatever pieces -/
/-- no error stands -/
def good (m : M) : Bool :=
  match m.ph with
  | .bad _ => false
  | _ => true
def whole (m : M) : Bool :=
  match m.ph with
  | .done => true
  | _ => false
theorem stop_say (m : M) : stop m = (!good m || whole m) := by
  unfold stop good whole
  split <;> simp_all
theorem ans_good {m : M} {l : List UInt8} (h : good (run m l).1 = true) : ans m l = ((run m l).2.1, (run m l).2.2, whole (run m l).1, 0) := by
  unfold ans whole
  unfold good at h
  split <;> simp_all
theorem ans_bad {m : M} {l : List UInt8} (h : good (run m l).1 = false) : ∃ e, (run m l).1.ph = .bad e ∧ ans m l = ([], 0, false, e) := by
  unfold good at h
  split at h
  · rename_i e he
    refine ⟨e, he, ?_⟩
    unfold ans
    rw [he]
  · cases h
/-- errors have numbers -/
def Told (m : M) : Prop := ∀ e, m.ph = .bad e → e = 100 ∨ e = 101
theorem Told.start (most : Int) : Told (begin_ most) := fun e h => by cases h
theorem told_fail {m : M} {e : Int} (he : e = 100 ∨ e = 101) : Told (fail m e) := fun k h => by
  have : Ph.bad e = Ph.bad k := h
  injection this with h2
  rw [← h2]
  exact he
theorem told_end {m : M} (h : Told m) : Told (endLine m) := by
  unfold endLine
  split
  · split
    · exact told_fail (.inl rfl)
    · split
      · exact told_fail (.inr rfl)
      · split
        · exact fun e he => by cases he
        · exact fun e he => by cases he
  · exact fun e he => by cases he
  · split
    · exact fun e he => by cases he
    · split
      · exact told_fail (.inl rfl)
      · exact fun e he => by cases he
  · exact h
theorem told_step {m : M} (h : Told m) (c : UInt8) : Told (bstep m c).1 := by
  unfold bstep
  split
  · intro e he
    have he2 : (if _ ≤ 1 then Ph.after else Ph.data _) = Ph.bad e := he
    split at he2 <;> cases he2
  · exact h
  · exact h
  · unfold lineStep
    split
    · split
      · exact told_end h
      · exact told_fail (.inl rfl)
    · split
      · exact h
      · split
        · exact h
        · exact told_fail (.inl rfl)
theorem Told.run {m : M} (h : Told m) (l : List UInt8) : Told (run m l).1 := by
  induction l generalizing m with
  | nil => exact h
  | cons c l ih =>
    cases hs : stop m
    · rw [run_cons hs]
      exact ih (told_step h c)
    · rw [run_stop hs]
      exact h
theorem ans_err {m : M} {l : List UInt8} (ht : Told m) : (ans m l).2.2.2 = 0 ↔ good (run m l).1 = true := by
  cases h : good (run m l).1
  · obtain ⟨e, he, ha⟩ := ans_bad h
    rw [ha]
    have := ht.run l e he
    simp
    omega
  · rw [ans_good h]
    simp
theorem next_next (m : M) (a b : List UInt8) : next (next m a) b = next m (a ++ b) := by
  unfold next
  rw [run_append]
theorem piece_bad {m : M} (ht : Told m) {a b d : List UInt8} (h : (ans (next m a) b).2.2.2 ≠ 0) : ans m (a ++ b ++ d) = ([], 0, false, (ans (next m a) b).2.2.2) := by
  have ht2 : Told (next m a) := ht.run a
  have hg : good (run (next m a) b).1 = false := by
    cases q : good (run (next m a) b).1
    · rfl
    · exact absurd ((ans_err ht2).2 q) h
  obtain ⟨e, he, ha⟩ := ans_bad hg
  have h1 : (run m (a ++ b)).1 = (run (next m a) b).1 := by rw [run_append]; rfl
  have hs : stop (run m (a ++ b)).1 = true := by rw [stop_say, h1, hg]; rfl
  have h2 : (run m (a ++ b ++ d)).1 = (run (next m a) b).1 := by
    rw [run_append, run_stop hs, h1]
  rw [ha]
  unfold ans
  rw [h2, he]
theorem piece_ok {m : M} (ht : Told m) {a b : List UInt8} (d : List UInt8) (h : (ans (next m a) b).2.2.2 = 0) :
    good (run m (a ++ b)).1 = true ∧ (run m (a ++ b)).2.1 = (run m a).2.1 ++ (ans (next m a) b).1 ∧ (run m (a ++ b)).2.2 = (run m a).2.2 + (ans (next m a) b).2.1 ∧
      (ans (next m a) b).2.2.1 = ((ans m (a ++ b ++ d)).2.2.1 && decide ((run m (a ++ b)).2.2 = (ans m (a ++ b ++ d)).2.1)) := by
  have ht2 : Told (next m a) := ht.run a
  have hg := (ans_err ht2).1 h
  have h1 : (run m (a ++ b)).1 = (run (next m a) b).1 := by rw [run_append]; rfl
  refine ⟨by rw [h1]; exact hg, by rw [ans_good hg, run_append]; rfl, by rw [ans_good hg, run_append]; rfl, ?_⟩
  rw [show (ans (next m a) b).2.2.1 = whole (run (next m a) b).1 by rw [ans_good hg], ← h1]
  rw [← h1] at hg
  cases hw : whole (run m (a ++ b)).1
  · have hs : stop (run m (a ++ b)).1 = false := by rw [stop_say, hg, hw]; rfl
    cases hr : good (run m (a ++ b ++ d)).1
    · obtain ⟨e, _, ha⟩ := ans_bad hr
      rw [ha]
      rfl
    · rw [ans_good hr]
      cases hw2 : whole (run m (a ++ b ++ d)).1
      · rfl
      · rw [Bool.true_and]
        symm
        rw [decide_eq_false_iff_not]
        intro heq
        have hra := run_append m (a ++ b) d
        have h3 : (run (run m (a ++ b)).1 d).2.2 = 0 := by
          have := congrArg (fun r => r.2.2) hra
          dsimp only at this heq
          omega
        have h4 : (run (run m (a ++ b)).1 d).1 = (run m (a ++ b)).1 := by
          cases d with
          | nil => rfl
          | cons c d =>
            rw [run_cons hs] at h3
            cases h3
        have h5 : (run m (a ++ b ++ d)).1 = (run m (a ++ b)).1 := by rw [hra]; exact h4
        rw [h5, hw] at hw2
        cases hw2
  · have hs : stop (run m (a ++ b)).1 = true := by rw [stop_say, hw, Bool.or_true]
    have h2 : run m (a ++ b ++ d) = run m (a ++ b) := by
      rw [run_append, run_stop hs]
      simp
    have hr : good (run m (a ++ b ++ d)).1 = true := by rw [h2]; exact hg
    rw [ans_good hr, h2, hw]
    simp
end Go.Proofs.YtblpooddamkfdaaGreatDoor.ChunkPure

/- Layer 11: requests read off a connection's bytes. No program is named. -/
namespace Go.Proofs.YtblpooddamkfdaaGreatDoor.InflowPure
open Bytes LexPure LexNum FieldsPure HeadPure HostPure TargetPure FramePure ChunkPure
set_option maxRecDepth 20000
structure Rq where
  head : H8
  target : Tgt
  host : List UInt8
  port : Int
  body : List UInt8
  sized : Bool
  keep : Bool
  upgrade : List UInt8
def zeroQ : Rq := ⟨zero8, zero, [], 0, [], false, false, []⟩
/-- the status of an error -/
def status11 (e : Int) : Int := if e = 82 then 414 else if e = 83 then 431 else if e = 81 then 505 else if e = 91 then 501 else if e = 101 then 413 else 400
def HOSTN : List UInt8 := [104, 111, 115, 116]
def UPG : List UInt8 := [117, 112, 103, 114, 97, 100, 101]
def EXPECT : List UInt8 := [101, 120, 112, 101, 99, 116]
/-- whom it is for; none: refused -/
def host11 (h : H8) (t : Tgt) : Option (List UInt8 × Int) :=
  if 1 < getN h.fields HOSTN ∨ (getN h.fields HOSTN = 0 ∧ 0 < h.minor) then none
  else if getN h.fields HOSTN = 1 ∧ authE (getV h.fields HOSTN) ≠ 0 then none
  else if t.form = 2 ∨ t.form = 3 then some (t.host, t.port)
  else if getN h.fields HOSTN = 0 then some ([], 0)
  else some (authH (getV h.fields HOSTN), authP (getV h.fields HOSTN))
def up11 (h : H8) (kind : Int) : List UInt8 :=
  if h.method = GET ∧ 0 < h.minor ∧ kind = 1 ∧ (elems h.fields UPG).length = 1 ∧ hasE h.fields CONNECTION UPG = true then lower ((elems h.fields UPG).headD []) else []
inductive In where
  | wait
  | fail (s : Int)
  | whole (q : Rq) (n : Nat)
/-- the body, of the bytes behind the head -/
def body11 (q : Rq) (n : Nat) (kind len most : Int) (D : List UInt8) : In :=
  if kind = 1 then .whole q n
  else if kind = 2 then (if (D.length : Int) < len then .wait else .whole { q with body := D.take len.toNat } (n + len.toNat))
  else if (ans (begin_ most) D).2.2.2 ≠ 0 then .fail (status11 (ans (begin_ most) D).2.2.2)
  else if (ans (begin_ most) D).2.2.1 = true then .whole { q with body := (ans (begin_ most) D).1 } (n + (ans (begin_ most) D).2.1)
  else .wait
/-- behind a whole head of n bytes -/
def rest11 (h : H8) (n : Nat) (most : Int) (D : List UInt8) : In :=
  if (parse6 h.method h.target).2 ≠ 0 then .fail 400
  else match host11 h (parse6 h.method h.target).1 with
    | none => .fail 400
    | some (hn, hp) =>
      if 0 < getN h.fields EXPECT then .fail 417
      else if (request9 h.minor h.fields most).2.2 ≠ 0 then .fail (status11 (request9 h.minor h.fields most).2.2)
      else if h.method = TargetPure.CONNECT ∧ (request9 h.minor h.fields most).1 ≠ 1 then .fail 400
      else body11 ⟨h, (parse6 h.method h.target).1, hn, hp, [], decide ((request9 h.minor h.fields most).1 ≠ 1), keep9 h.minor h.fields, up11 h (request9 h.minor h.fields most).1⟩ n (request9 h.minor h.fields most).1 (request9 h.minor h.fields most).2.1 most D
def read11 (most : Int) (D : List UInt8) : In :=
  match read8 false D with
  | .wait => .wait
  | .bad e => .fail (status11 e)
  | .done h n => rest11 h n most (D.drop n)
theorem body_append {q : Rq} {n : Nat} {kind len most : Int} {D : List UInt8} (x : List UInt8) (h : body11 q n kind len most D ≠ .wait) : body11 q n kind len most (D ++ x) = body11 q n kind len most D := by
  unfold body11 at *
  by_cases h1 : kind = 1
  · rw [if_pos h1, if_pos h1]
  rw [if_neg h1] at h ⊢
  rw [if_neg h1]
  by_cases h2 : kind = 2
  · rw [if_pos h2] at h ⊢
    rw [if_pos h2]
    by_cases h3 : (D.length : Int) < len
    · rw [if_pos h3] at h
      exact absurd rfl h
    · rw [if_neg h3, if_neg (by rw [List.length_append]; omega), List.take_append_of_le_length (by omega)]
  rw [if_neg h2] at h ⊢
  rw [if_neg h2]
  have key : (ans (begin_ most) D).2.2.2 ≠ 0 ∨ (ans (begin_ most) D).2.2.1 = true → ans (begin_ most) (D ++ x) = ans (begin_ most) D := by
    intro hk
    have hs : stop (run (begin_ most) D).1 = true := by
      unfold ans at hk
      unfold stop
      split at hk <;> simp_all
    have : run (begin_ most) (D ++ x) = run (begin_ most) D := by
      rw [run_append, run_stop hs]
      simp
    unfold ans
    rw [this]
  by_cases h4 : (ans (begin_ most) D).2.2.2 ≠ 0
  · rw [key (.inl h4)]
  · by_cases h5 : (ans (begin_ most) D).2.2.1 = true
    · rw [key (.inr h5)]
    · rw [if_neg h4, if_neg h5] at h
      exact absurd rfl h
theorem rest_append {h : H8} {n : Nat} {most : Int} {D : List UInt8} (x : List UInt8) (hn : rest11 h n most D ≠ .wait) : rest11 h n most (D ++ x) = rest11 h n most D := by
  unfold rest11 at *
  by_cases h1 : (parse6 h.method h.target).2 ≠ 0
  · rw [if_pos h1, if_pos h1]
  rw [if_neg h1] at hn ⊢
  rw [if_neg h1]
  cases hh : host11 h (parse6 h.method h.target).1 with
  | none => rfl
  | some p =>
    rw [hh] at hn
    dsimp only at hn ⊢
    by_cases h2 : 0 < getN h.fields EXPECT
    · rw [if_pos h2, if_pos h2]
    rw [if_neg h2] at hn ⊢
    rw [if_neg h2]
    by_cases h3 : (request9 h.minor h.fields most).2.2 ≠ 0
    · rw [if_pos h3, if_pos h3]
    rw [if_neg h3] at hn ⊢
    rw [if_neg h3]
    by_cases h4 : h.method = TargetPure.CONNECT ∧ (request9 h.minor h.fields most).1 ≠ 1
    · rw [if_pos h4, if_pos h4]
    rw [if_neg h4] at hn ⊢
    rw [if_neg h4]
    exact body_append x hn
theorem read11_append {most : Int} {D : List UInt8} (x : List UInt8) (h : read11 most D ≠ .wait) : read11 most (D ++ x) = read11 most D := by
  unfold read11 at h ⊢
  have h8 : read8 false D ≠ .wait := by
    intro e
    rw [e] at h
    exact h rfl
  rw [read_append false D x h8]
  cases hr : read8 false D with
  | wait => exact absurd hr h8
  | bad e => rfl
  | done hd n =>
    rw [hr] at h
    dsimp only at h ⊢
    obtain ⟨h1, _, _, _⟩ := read_front false D hd n hr
    rw [List.drop_append_of_le_length h1]
    exact rest_append x h
theorem status_pos (e : Int) : status11 e ≠ 0 := by
  unfold status11
  split
  · decide
  split
  · decide
  split
  · decide
  split
  · decide
  split <;> decide
theorem body_say {q : Rq} {n : Nat} {kind len most : Int} {D : List UInt8} : (∀ s, body11 q n kind len most D = .fail s → s ≠ 0) ∧ ∀ q' m, body11 q n kind len most D = .whole q' m → n ≤ m ∧ m ≤ n + D.length := by
  unfold body11
  by_cases h1 : kind = 1
  · rw [if_pos h1]
    exact ⟨fun s h => (by cases h), fun q' m h => (by cases h; omega)⟩
  rw [if_neg h1]
  by_cases h2 : kind = 2
  · rw [if_pos h2]
    by_cases h3 : (D.length : Int) < len
    · rw [if_pos h3]
      exact ⟨fun s h => (by cases h), fun q' m h => (by cases h)⟩
    · rw [if_neg h3]
      exact ⟨fun s h => (by cases h), fun q' m h => (by cases h; omega)⟩
  rw [if_neg h2]
  by_cases h4 : (ans (begin_ most) D).2.2.2 ≠ 0
  · rw [if_pos h4]
    exact ⟨fun s h => (by cases h; exact status_pos _), fun q' m h => (by cases h)⟩
  rw [if_neg h4]
  by_cases h5 : (ans (begin_ most) D).2.2.1 = true
  · rw [if_pos h5]
    have := (ans_used (begin_ most) D).1
    exact ⟨fun s h => (by cases h), fun q' m h => (by cases h; omega)⟩
  · rw [if_neg h5]
    exact ⟨fun s h => (by cases h), fun q' m h => (by cases h)⟩
theorem rest_say {h : H8} {n : Nat} {most : Int} {D : List UInt8} : (∀ s, rest11 h n most D = .fail s → s ≠ 0) ∧ ∀ q' m, rest11 h n most D = .whole q' m → n ≤ m ∧ m ≤ n + D.length := by
  unfold rest11
  by_cases h1 : (parse6 h.method h.target).2 ≠ 0
  · rw [if_pos h1]
    exact ⟨fun s h => (by cases h; decide), fun q' m h => (by cases h)⟩
  rw [if_neg h1]
  cases hh : host11 h (parse6 h.method h.target).1 with
  | none => exact ⟨fun s h => (by cases h; decide), fun q' m h => (by cases h)⟩
  | some p =>
    dsimp only
    by_cases h2 : 0 < getN h.fields EXPECT
    · rw [if_pos h2]
      exact ⟨fun s h => (by cases h; decide), fun q' m h => (by cases h)⟩
    rw [if_neg h2]
    by_cases h3 : (request9 h.minor h.fields most).2.2 ≠ 0
    · rw [if_pos h3]
      exact ⟨fun s h => (by cases h; exact status_pos _), fun q' m h => (by cases h)⟩
    rw [if_neg h3]
    by_cases h4 : h.method = TargetPure.CONNECT ∧ (request9 h.minor h.fields most).1 ≠ 1
    · rw [if_pos h4]
      exact ⟨fun s h => (by cases h; decide), fun q' m h => (by cases h)⟩
    rw [if_neg h4]
    exact body_say
theorem read11_say {most : Int} {D : List UInt8} : (∀ s, read11 most D = .fail s → s ≠ 0) ∧ ∀ q n, read11 most D = .whole q n → 0 < n ∧ n ≤ D.length := by
  unfold read11
  cases hr : read8 false D with
  | wait => exact ⟨fun s h => (by cases h), fun q' m h => (by cases h)⟩
  | bad e => exact ⟨fun s h => (by cases h; exact status_pos _), fun q' m h => (by cases h)⟩
  | done hd n =>
    obtain ⟨h1, h2, _, _⟩ := read_front false D hd n hr
    obtain ⟨r1, r2⟩ := rest_say (h := hd) (n := n) (most := most) (D := D.drop n)
    refine ⟨r1, fun q m h => ?_⟩
    have := r2 q m h
    rw [List.length_drop] at this
    omega
theorem read11_nil (most : Int) : read11 most [] = .wait := by
  cases h : read11 most [] with
  | wait => rfl
  | fail s =>
    have : read8 false [] = .wait := rfl
    unfold read11 at h
    rw [this] at h
    cases h
  | whole q n =>
    have := read11_say.2 q n h
    simp at this
    omega
/-! ### one behind the other -/
/-- the requests, the status with which reading ends (0: it goes on), the bytes that aren't used -/
def all11 (most : Int) : Nat → List UInt8 → List Rq × Int × List UInt8
  | 0, D => ([], 0, D)
  | f + 1, D => match read11 most D with
    | .wait => ([], 0, D)
    | .fail s => ([], s, D)
    | .whole q n => (q :: (all11 most f (D.drop n)).1, (all11 most f (D.drop n)).2.1, (all11 most f (D.drop n)).2.2)
theorem all_fuel (most : Int) : ∀ (f g : Nat) (D : List UInt8), D.length ≤ f → D.length ≤ g → all11 most f D = all11 most g D
  | 0, 0, D, _, _ => rfl
  | 0, g + 1, D, h, _ => by
    have : D = [] := List.length_eq_zero_iff.1 (by omega)
    subst this
    unfold all11
    rw [read11_nil]
  | f + 1, 0, D, _, h => by
    have : D = [] := List.length_eq_zero_iff.1 (by omega)
    subst this
    unfold all11
    rw [read11_nil]
  | f + 1, g + 1, D, h1, h2 => by
    unfold all11
    cases hr : read11 most D with
    | wait => rfl
    | fail s => rfl
    | whole q n =>
      have hn := read11_say.2 q n hr
      dsimp only
      rw [all_fuel most f g (D.drop n) (by rw [List.length_drop]; omega) (by rw [List.length_drop]; omega)]
def allOf (most : Int) (D : List UInt8) : List Rq × Int × List UInt8 := all11 most D.length D
theorem allOf_step (most : Int) (D : List UInt8) : allOf most D = match read11 most D with
    | .wait => ([], 0, D)
    | .fail s => ([], s, D)
    | .whole q n => (q :: (allOf most (D.drop n)).1, (allOf most (D.drop n)).2.1, (allOf most (D.drop n)).2.2) := by
  unfold allOf
  rw [all_fuel most D.length (D.length + 1) D (Nat.le_refl _) (Nat.le_succ _)]
  conv => lhs; unfold all11
  cases hr : read11 most D with
  | wait => rfl
  | fail s => rfl
  | whole q n =>
    dsimp only
    rw [all_fuel most D.length (D.drop n).length (D.drop n) (by rw [List.length_drop]; omega) (Nat.le_refl _)]
/-- what comes behind: nothing is told otherwise -/
theorem all_append (most : Int) (x : List UInt8) : ∀ (N : Nat) (D : List UInt8), D.length ≤ N → allOf most (D ++ x) =
    if (allOf most D).2.1 ≠ 0 then ((allOf most D).1, (allOf most D).2.1, (allOf most D).2.2 ++ x)
    else ((allOf most D).1 ++ (allOf most ((allOf most D).2.2 ++ x)).1, (allOf most ((allOf most D).2.2 ++ x)).2.1, (allOf most ((allOf most D).2.2 ++ x)).2.2)
  | N, D, hN => by
    cases hr : read11 most D with
    | wait =>
      have : allOf most D = ([], 0, D) := by rw [allOf_step, hr]
      rw [this, if_neg (fun h => h rfl)]
      rfl
    | fail s =>
      have h1 : allOf most D = ([], s, D) := by rw [allOf_step, hr]
      have h2 : read11 most (D ++ x) = .fail s := by rw [read11_append x (by rw [hr]; intro h; cases h), hr]
      have h3 : allOf most (D ++ x) = ([], s, D ++ x) := by rw [allOf_step, h2]
      rw [h1, h3, if_pos (read11_say.1 s hr)]
    | whole q n =>
      have hn := read11_say.2 q n hr
      have h1 : allOf most D = (q :: (allOf most (D.drop n)).1, (allOf most (D.drop n)).2.1, (allOf most (D.drop n)).2.2) := by rw [allOf_step, hr]
      have h2 : read11 most (D ++ x) = .whole q n := by rw [read11_append x (by rw [hr]; intro h; cases h), hr]
      have h3 : allOf most (D ++ x) = (q :: (allOf most (D.drop n ++ x)).1, (allOf most (D.drop n ++ x)).2.1, (allOf most (D.drop n ++ x)).2.2) := by
        rw [allOf_step, h2]
        dsimp only
        rw [List.drop_append_of_le_length hn.2]
      match N, hN with
      | 0, hN => omega
      | N + 1, hN =>
        have ih := all_append most x N (D.drop n) (by rw [List.length_drop]; omega)
        rw [h3, h1, ih]
        by_cases h : (allOf most (D.drop n)).2.1 ≠ 0
        · rw [if_pos h, if_pos h]
        · rw [if_neg h, if_neg h]
          rfl
end Go.Proofs.YtblpooddamkfdaaGreatDoor.InflowPure

/- Layer 11, the document's own upgrade. -/
namespace Go.Proofs.YtblpooddamkfdaaGreatDoor.R11Up
open Go.ChangeShapes Go.WideShapes Go.ChangeAt Go.RowKit LexPure Bytes Ret Rows1 Texts FieldsPure Flds HeadPure HBox TargetPure InflowPure R7Elements R7Has RLower Mem
set_option maxRecDepth 20000
theorem ret_s {a b : ByteArray} (h : a = b) : Ending.returned (.string a) = .returned (.string b) := by rw [h]
theorem text_at (m : ByteArray) (l : List UInt8) : (m.toList == l) = decide (toL m = l) := by
  rw [ByteArray.toList_eq, show m.data.toList = toL m from rfl]
  by_cases h : toL m = l
  · rw [decide_eq_true h, h]; exact beq_self_eq_true _
  · rw [decide_eq_false h]; exact beq_eq_false_iff_ne.2 h
set_option maxHeartbeats 3200000 in
theorem r11up_any (h : H8) (v : Value) (kind : Int) (hG : Few h.fields) (hle : h.fields.length ≤ 1048576) (w : World) (hF : FL w v h.fields) :
    Calls Tryz.prog 27 #[hv h v, .int .i64 kind] w fun e w' => e = .returned (.string (ofL (up11 h kind))) ∧ Below w.heap.size w w' := by
  have hb1 := (Below.refl w.heap.size w).alloc (Nat.le_refl _) (.cells (hc h v) 25)
  have B0 : HBox (w.alloc (.cells (hc h v) 25)) w.heap.size h v := ⟨Has.new w _ _⟩
  have hsz : w.heap.size < (w.alloc (.cells (hc h v) 25)).heap.size := by simp
  have HR := Lib.hid (r7elements_any v h.fields ⟨#[117, 112, 103, 114, 97, 100, 101]⟩ (by decide) hG hle _ (hF.below hb1))
  rw [show toL ⟨#[117, 112, 103, 114, 97, 100, 101]⟩ = UPG from rfl] at HR
  have HH := Lib.hid (fun w hF => r7has_any v h.fields ⟨#[99, 111, 110, 110, 101, 99, 116, 105, 111, 110]⟩ ⟨#[117, 112, 103, 114, 97, 100, 101]⟩ (by decide) (by decide) hG hle w hF)
  rw [show toL ⟨#[117, 112, 103, 114, 97, 100, 101]⟩ = UPG from rfl, show toL ⟨#[99, 111, 110, 110, 101, 99, 116, 105, 111, 110]⟩ = CONNECTION from rfl] at HH
  have hS := Lib.hid (elems_short h.fields UPG hG)
  obtain ⟨X, hX⟩ : ∃ X, X = up11 h kind := ⟨_, rfl⟩
  rw [← hX]
  unfold up11 at hX
  have hF1 := Lib.hid (hF.below hb1)
  generalize elems h.fields UPG = E at *
  generalize hasE h.fields CONNECTION UPG = b at *
  have tm : ((ofL h.method).toList == [71, 69, 84]) = decide (h.method = GET) := by
    rw [text_at, toL_ofL]
    rfl
  unfold hc at hb1 B0 hsz HR hF1
  unfold hv
  replace hb1 := Lib.hid hb1
  replace B0 := Lib.hid B0
  clear hF
  go_enter Tryz.func27, Tryz.ntmps27
  go_wp2_with fail
  generalize w.alloc (.cells #[.string (ofL h.method), .string (ofL h.target), .int .i64 h.status, .string (ofL h.reason), .int .i64 h.minor, v] 25) = W at *
  refine HR.out.mono ?_
  rintro e w2 ⟨v2, rfl, hrow, hb2⟩
  obtain ⟨p, cap, rfl, hle2, hcl⟩ := texts_of hrow
  replace hcl := Lib.hid hcl
  have hF2 := Lib.hid (hF1.out.below hb2)
  have B2 := Lib.hid (B0.out.below hb2 hsz)
  have HB := Lib.hid (below_chain hb1.out hb2)
  obtain ⟨d0, d1, d2, d3, d4, d5⟩ := B2.out.cells
  clear HR hrow hb2 hb1 B0 B2 hF1 hsz
  rcases (show (¬ (h.method = GET ∧ 0 < h.minor ∧ kind = 1 ∧ E.length = 1) ∧ X = []) ∨ (h.method = GET ∧ 0 < h.minor ∧ kind = 1 ∧ (∃ x, E = [x] ∧ X = if b = true then lower x else [])) by
    by_cases c : h.method = GET ∧ 0 < h.minor ∧ kind = 1 ∧ E.length = 1
    · right
      obtain ⟨x, hx⟩ := List.length_eq_one_iff.1 c.2.2.2
      refine ⟨c.1, c.2.1, c.2.2.1, x, hx, ?_⟩
      rw [hX, hx]
      cases b
      · rw [if_neg (by rintro ⟨_, _, _, _, h⟩; cases h)]
        rfl
      · rw [if_pos ⟨c.1, c.2.1, c.2.2.1, rfl, rfl⟩]
        rfl
    · exact .inl ⟨c, by rw [hX, if_neg (fun x => c ⟨x.1, x.2.1, x.2.2.1, x.2.2.2.1⟩)]⟩) with ⟨c, hV⟩ | ⟨c1, c2, c3, x, rfl, hV⟩
  · replace hV := Lib.hid hV
    clear hX HH hS hcl hF2
    by_cases c1 : h.method = GET
    · rw [decide_eq_true c1] at tm
      by_cases c2 : 0 < h.minor
      · by_cases c3 : kind = 1
        · have c4 : ((E.length : Int) == 1) = false := beq_eq_false_iff_ne.2 (fun h => c ⟨c1, c2, c3, by omega⟩)
          have c3b : (kind == 1) = true := by rw [c3]; rfl
          clear c c3 c1
          go_wp2_with fail
          go_ret
          exact ⟨ret_s (by rw [hV.out]; rfl), HB.out⟩
        · have c3b : (kind == 1) = false := beq_eq_false_iff_ne.2 c3
          clear c c3 c1
          go_wp2_with fail
          go_ret
          exact ⟨ret_s (by rw [hV.out]; rfl), HB.out⟩
      · clear c c1
        go_wp2_with fail
        go_ret
        exact ⟨ret_s (by rw [hV.out]; rfl), HB.out⟩
    · rw [decide_eq_false c1] at tm
      clear c c1
      go_wp2_with fail
      go_ret
      exact ⟨ret_s (by rw [hV.out]; rfl), HB.out⟩
  · rw [decide_eq_true c1] at tm
    have c3b : (kind == 1) = true := by rw [c3]; rfl
    obtain ⟨g, o, rfl, hgl, hcell⟩ := hcl.out (Nat.zero_lt_one)
    have cx : w2.cell? ⟨g, o, none⟩ = some (.string (ofL x)) := hcell 0 Nat.zero_lt_one
    have hs1 : x.length ≤ 1048576 := hS.out 0 Nat.zero_lt_one
    have HL := Lib.hid (fun w => rlower_any (ofL x) (by rw [ofL_size]; omega) w)
    rw [toL_ofL] at HL
    rw [show ([x] : List (List UInt8)).length = 1 from rfl]
    clear hX hcl hcell hS c3 hs1 hle2 c1
    cases b
    · have HV : Hid (X = []) := Lib.hid hV
      clear hV HL
      go_wp2_with fail
      refine (HH.out _ hF2.out).mono ?_
      rintro e w3 ⟨rfl, hb3⟩
      have HB3 := Lib.hid (below_chain HB.out hb3)
      clear HH hb3 HB cx d0 d1 d2 d3 d4 d5
      go_wp2_with fail
      go_ret
      exact ⟨ret_s (by rw [HV.out]; rfl), HB3.out⟩
    · have HV : Hid (X = lower x) := Lib.hid hV
      clear hV
      go_wp2_with fail
      refine (HH.out _ hF2.out).mono ?_
      rintro e w3 ⟨rfl, hb3⟩
      have HB3 := Lib.hid (below_chain HB.out hb3)
      replace cx := (hb3.cell (p := ⟨g, o, none⟩) hgl).trans cx
      clear HH hb3 HB d0 d1 d2 d3 d4 d5
      go_wp2_with fail
      refine (HL.out _).mono ?_
      rintro e w4 ⟨rfl, hb4⟩
      have HB4 := Lib.hid (below_chain HB3.out hb4)
      clear HL hb4 HB3 cx
      go_wp2_with fail
      go_ret
      exact ⟨ret_s (by rw [HV.out]), HB4.out⟩
end Go.Proofs.YtblpooddamkfdaaGreatDoor.R11Up

/- Layer 11, the document's own host. -/
namespace Go.Proofs.YtblpooddamkfdaaGreatDoor.R11Host
open Go.ChangeShapes Go.WideShapes Go.ChangeAt Go.RowKit LexPure Bytes Ret FieldsPure Flds HeadPure HBox HostPure TargetPure InflowPure R7Get RAuth Mem
set_option maxRecDepth 20000
/-- a target's cells -/
def tcs (t : Tgt) : Array Value := #[.int .i64 t.form, .string (ofL t.host), .int .i64 t.port, .string (ofL t.path), .string (ofL t.query), .bool t.has]
def hostT (r : Option (List UInt8 × Int)) : Value := match r with
  | some (a, p) => .tuple #[.string (ofL a), .int .i64 p, .bool true]
  | none => .tuple #[.string (ofL []), .int .i64 0, .bool false]
theorem ret_v {a b : Value} (h : a = b) : Ending.returned a = .returned b := by rw [h]
theorem getV_few (n : List UInt8) : ∀ {G : List HField}, Few G → (getV G n).length ≤ 1048576
  | [], _ => Nat.zero_le _
  | f :: G, h => by
    rw [getV_cons]
    split
    · exact (h 0 (Nat.zero_lt_succ _)).2
    · exact getV_few n (fun j hj => h (j + 1) (Nat.succ_lt_succ hj))
set_option maxHeartbeats 3200000 in
theorem r11host_any (h : H8) (v : Value) (t : Tgt) (hG : Few h.fields) (w : World) (hF : FL w v h.fields) :
    Calls Tryz.prog 24 #[hv h v, .agg (tcs t)] w fun e w' => e = .returned (hostT (host11 h t)) ∧ Below w.heap.size w w' := by
  have B0 : HBox ((w.alloc (.cells (hc h v) 25)).alloc (.cells (tcs t) 27)) w.heap.size h v := HBox.below ⟨Has.new w _ _⟩ ((Below.refl _ _).alloc (Nat.le_refl _) _) (by simp)
  have T0 : Has ((w.alloc (.cells (hc h v) 25)).alloc (.cells (tcs t) 27)) (w.heap.size + 1) 27 (tcs t) := by
    have := Has.new (w.alloc (.cells (hc h v) 25)) 27 (tcs t)
    rwa [World.size_alloc] at this
  have hb1 : Below w.heap.size w ((w.alloc (.cells (hc h v) 25)).alloc (.cells (tcs t) 27)) := ((Below.refl w.heap.size w).alloc (Nat.le_refl _) _).alloc (by simp) _
  have hsz : w.heap.size + 1 < ((w.alloc (.cells (hc h v) 25)).alloc (.cells (tcs t) 27)).heap.size := by simp
  have HR := Lib.hid (rget_any v h.fields ⟨#[104, 111, 115, 116]⟩ (by decide) hG _ (hF.below hb1))
  rw [show toL ⟨#[104, 111, 115, 116]⟩ = HOSTN from rfl] at HR
  have hvl : (getV h.fields HOSTN).length ≤ 1048576 := getV_few _ hG
  have HU := Lib.hid (fun w => rauth_any (ofL (getV h.fields HOSTN)) (by rw [ofL_size]; omega) w)
  rw [toL_ofL] at HU
  obtain ⟨X, hX⟩ : ∃ X, X = hostT (host11 h t) := ⟨_, rfl⟩
  rw [← hX]
  unfold host11 at hX
  generalize getN h.fields HOSTN = n at *
  generalize authE (getV h.fields HOSTN) = ae at *
  generalize authH (getV h.fields HOSTN) = ah at *
  generalize authP (getV h.fields HOSTN) = ap at *
  generalize ofL (getV h.fields HOSTN) = gv at *
  unfold hc tcs at B0 T0 hb1 hsz HR
  unfold hv tcs
  replace hb1 := Lib.hid hb1
  clear hF hvl
  rcases (show (1 < n ∧ X = .tuple #[.string ⟨#[]⟩, .int .i64 0, .bool false]) ∨ (n = 0 ∧ 0 < h.minor ∧ X = .tuple #[.string ⟨#[]⟩, .int .i64 0, .bool false]) ∨ (n = 0 ∧ ¬ 0 < h.minor ∧ (t.form == 2) = true ∧ X = .tuple #[.string (ofL t.host), .int .i64 t.port, .bool true]) ∨ (n = 0 ∧ ¬ 0 < h.minor ∧ (t.form == 2) = false ∧ (t.form == 3) = true ∧ X = .tuple #[.string (ofL t.host), .int .i64 t.port, .bool true]) ∨ (n = 0 ∧ ¬ 0 < h.minor ∧ (t.form == 2) = false ∧ (t.form == 3) = false ∧ X = .tuple #[.string ⟨#[]⟩, .int .i64 0, .bool true]) ∨
      (n = 1 ∧ (ae != 0) = true ∧ X = .tuple #[.string ⟨#[]⟩, .int .i64 0, .bool false]) ∨ (n = 1 ∧ ae = 0 ∧ (t.form == 2) = true ∧ X = .tuple #[.string (ofL t.host), .int .i64 t.port, .bool true]) ∨ (n = 1 ∧ ae = 0 ∧ (t.form == 2) = false ∧ (t.form == 3) = true ∧ X = .tuple #[.string (ofL t.host), .int .i64 t.port, .bool true]) ∨ (n = 1 ∧ ae = 0 ∧ (t.form == 2) = false ∧ (t.form == 3) = false ∧ X = .tuple #[.string (ofL ah), .int .i64 ap, .bool true]) by
    by_cases c1 : 1 < n
    · exact .inl ⟨c1, by rw [hX, if_pos (.inl c1)]; rfl⟩
    by_cases c2 : n = 0
    · by_cases c3 : 0 < h.minor
      · exact .inr (.inl ⟨c2, c3, by rw [hX, if_pos (.inr ⟨c2, c3⟩)]; rfl⟩)
      · rw [if_neg (by rintro (x | x); exact c1 x; exact c3 x.2), if_neg (by rintro ⟨x, _⟩; omega)] at hX
        by_cases c4 : t.form = 2
        · exact .inr (.inr (.inl ⟨c2, c3, by rw [c4]; rfl, by rw [hX, if_pos (.inl c4)]; rfl⟩))
        · by_cases c5 : t.form = 3
          · exact .inr (.inr (.inr (.inl ⟨c2, c3, beq_eq_false_iff_ne.2 c4, by rw [c5]; rfl, by rw [hX, if_pos (.inr c5)]; rfl⟩)))
          · exact .inr (.inr (.inr (.inr (.inl ⟨c2, c3, beq_eq_false_iff_ne.2 c4, beq_eq_false_iff_ne.2 c5, by rw [hX, if_neg (by rintro (x | x); exact c4 x; exact c5 x), if_pos c2]; rfl⟩))))
    · have n1 : n = 1 := by omega
      rw [if_neg (by rintro (x | x); exact c1 x; exact c2 x.1)] at hX
      by_cases c6 : ae = 0
      · rw [if_neg (by rintro ⟨_, x⟩; exact x c6)] at hX
        by_cases c4 : t.form = 2
        · exact .inr (.inr (.inr (.inr (.inr (.inr (.inl ⟨n1, c6, by rw [c4]; rfl, by rw [hX, if_pos (.inl c4)]; rfl⟩))))))
        · by_cases c5 : t.form = 3
          · exact .inr (.inr (.inr (.inr (.inr (.inr (.inr (.inl ⟨n1, c6, beq_eq_false_iff_ne.2 c4, by rw [c5]; rfl, by rw [hX, if_pos (.inr c5)]; rfl⟩)))))))
          · exact .inr (.inr (.inr (.inr (.inr (.inr (.inr (.inr ⟨n1, c6, beq_eq_false_iff_ne.2 c4, beq_eq_false_iff_ne.2 c5, by rw [hX, if_neg (by rintro (x | x); exact c4 x; exact c5 x), if_neg c2]; rfl⟩)))))))
      · exact .inr (.inr (.inr (.inr (.inr (.inl ⟨n1, bne_iff_ne.2 c6, by rw [hX, if_pos ⟨n1, c6⟩]; rfl⟩))))))
    with ⟨h1, hV⟩ | ⟨rfl, h1, hV⟩ | ⟨rfl, h1, h2, hV⟩ | ⟨rfl, h1, h2, h3, hV⟩ | ⟨rfl, h1, h2, h3, hV⟩ | ⟨rfl, h1, hV⟩ | ⟨rfl, rfl, h1, hV⟩ | ⟨rfl, rfl, h1, h2, hV⟩ | ⟨rfl, rfl, h1, h2, hV⟩
  · have HV := Lib.hid hV
    have h1i : (1 : Int) < (n : Int) := by omega
    clear hX hV HU h1
    go_enter Tryz.func24, Tryz.ntmps24
    go_wp2_with fail
    generalize (w.alloc (.cells #[.string (ofL h.method), .string (ofL h.target), .int .i64 h.status, .string (ofL h.reason), .int .i64 h.minor, v] 25)).alloc (.cells #[.int .i64 t.form, .string (ofL t.host), .int .i64 t.port, .string (ofL t.path), .string (ofL t.query), .bool t.has] 27) = W at *
    refine HR.out.mono ?_
    rintro e w2 ⟨rfl, hb2⟩
    have B2 := B0.below hb2 (by omega)
    have T2 := T0.below hb2 hsz
    have HB2 := Lib.hid (below_chain hb1.out hb2)
    have hs2 := Nat.lt_of_lt_of_le hsz hb2.size
    obtain ⟨d0, d1, d2, d3, d4, d5⟩ := B2.cells
    clear HR hb2 B0 T0 hb1 B2 hsz
    clear T2 hs2
    go_wp2_with fail
    go_ret3
    exact ⟨ret_v HV.out.symm, HB2.out⟩
  · have HV := Lib.hid hV
    clear hX hV HU
    go_enter Tryz.func24, Tryz.ntmps24
    go_wp2_with fail
    generalize (w.alloc (.cells #[.string (ofL h.method), .string (ofL h.target), .int .i64 h.status, .string (ofL h.reason), .int .i64 h.minor, v] 25)).alloc (.cells #[.int .i64 t.form, .string (ofL t.host), .int .i64 t.port, .string (ofL t.path), .string (ofL t.query), .bool t.has] 27) = W at *
    refine HR.out.mono ?_
    rintro e w2 ⟨rfl, hb2⟩
    have B2 := B0.below hb2 (by omega)
    have T2 := T0.below hb2 hsz
    have HB2 := Lib.hid (below_chain hb1.out hb2)
    have hs2 := Nat.lt_of_lt_of_le hsz hb2.size
    obtain ⟨d0, d1, d2, d3, d4, d5⟩ := B2.cells
    clear HR hb2 B0 T0 hb1 B2 hsz
    clear T2 hs2
    go_wp2_with fail
    go_ret3
    exact ⟨ret_v HV.out.symm, HB2.out⟩
  · have HV := Lib.hid hV
    clear hX hV
    go_enter Tryz.func24, Tryz.ntmps24
    go_wp2_with fail
    generalize (w.alloc (.cells #[.string (ofL h.method), .string (ofL h.target), .int .i64 h.status, .string (ofL h.reason), .int .i64 h.minor, v] 25)).alloc (.cells #[.int .i64 t.form, .string (ofL t.host), .int .i64 t.port, .string (ofL t.path), .string (ofL t.query), .bool t.has] 27) = W at *
    refine HR.out.mono ?_
    rintro e w2 ⟨rfl, hb2⟩
    have B2 := B0.below hb2 (by omega)
    have T2 := T0.below hb2 hsz
    have HB2 := Lib.hid (below_chain hb1.out hb2)
    have hs2 := Nat.lt_of_lt_of_le hsz hb2.size
    obtain ⟨d0, d1, d2, d3, d4, d5⟩ := B2.cells
    clear HR hb2 B0 T0 hb1 B2 hsz
    replace T2 := Lib.hid T2
    go_wp2_with fail
    refine (HU.out _).mono ?_
    rintro e w3 ⟨rfl, hb3⟩
    have T3 := T2.out.below hb3 hs2
    have HB3 := Lib.hid (below_chain HB2.out hb3)
    have t0 := (T3.cell 0).trans rfl
    have t1 := (T3.cell 1).trans rfl
    have t2 := (T3.cell 2).trans rfl
    clear HU hb3 T3 T2 HB2 d0 d1 d2 d3 d4 d5 hs2
    go_wp2_with fail
    first
      | (go_ret3; exact ⟨ret_v HV.out.symm, HB3.out⟩)
      | (go_quiet (fail)
         go_wp2_with fail
         go_ret3
         exact ⟨ret_v HV.out.symm, below_drewN HB3.out _⟩)
  · have HV := Lib.hid hV
    clear hX hV
    go_enter Tryz.func24, Tryz.ntmps24
    go_wp2_with fail
    generalize (w.alloc (.cells #[.string (ofL h.method), .string (ofL h.target), .int .i64 h.status, .string (ofL h.reason), .int .i64 h.minor, v] 25)).alloc (.cells #[.int .i64 t.form, .string (ofL t.host), .int .i64 t.port, .string (ofL t.path), .string (ofL t.query), .bool t.has] 27) = W at *
    refine HR.out.mono ?_
    rintro e w2 ⟨rfl, hb2⟩
    have B2 := B0.below hb2 (by omega)
    have T2 := T0.below hb2 hsz
    have HB2 := Lib.hid (below_chain hb1.out hb2)
    have hs2 := Nat.lt_of_lt_of_le hsz hb2.size
    obtain ⟨d0, d1, d2, d3, d4, d5⟩ := B2.cells
    clear HR hb2 B0 T0 hb1 B2 hsz
    replace T2 := Lib.hid T2
    go_wp2_with fail
    refine (HU.out _).mono ?_
    rintro e w3 ⟨rfl, hb3⟩
    have T3 := T2.out.below hb3 hs2
    have HB3 := Lib.hid (below_chain HB2.out hb3)
    have t0 := (T3.cell 0).trans rfl
    have t1 := (T3.cell 1).trans rfl
    have t2 := (T3.cell 2).trans rfl
    clear HU hb3 T3 T2 HB2 d0 d1 d2 d3 d4 d5 hs2
    go_wp2_with fail
    first
      | (go_ret3; exact ⟨ret_v HV.out.symm, HB3.out⟩)
      | (go_quiet (fail)
         go_wp2_with fail
         go_ret3
         exact ⟨ret_v HV.out.symm, below_drewN HB3.out _⟩)
  · have HV := Lib.hid hV
    clear hX hV
    go_enter Tryz.func24, Tryz.ntmps24
    go_wp2_with fail
    generalize (w.alloc (.cells #[.string (ofL h.method), .string (ofL h.target), .int .i64 h.status, .string (ofL h.reason), .int .i64 h.minor, v] 25)).alloc (.cells #[.int .i64 t.form, .string (ofL t.host), .int .i64 t.port, .string (ofL t.path), .string (ofL t.query), .bool t.has] 27) = W at *
    refine HR.out.mono ?_
    rintro e w2 ⟨rfl, hb2⟩
    have B2 := B0.below hb2 (by omega)
    have T2 := T0.below hb2 hsz
    have HB2 := Lib.hid (below_chain hb1.out hb2)
    have hs2 := Nat.lt_of_lt_of_le hsz hb2.size
    obtain ⟨d0, d1, d2, d3, d4, d5⟩ := B2.cells
    clear HR hb2 B0 T0 hb1 B2 hsz
    replace T2 := Lib.hid T2
    go_wp2_with fail
    refine (HU.out _).mono ?_
    rintro e w3 ⟨rfl, hb3⟩
    have T3 := T2.out.below hb3 hs2
    have HB3 := Lib.hid (below_chain HB2.out hb3)
    have t0 := (T3.cell 0).trans rfl
    have t1 := (T3.cell 1).trans rfl
    have t2 := (T3.cell 2).trans rfl
    clear HU hb3 T3 T2 HB2 d0 d1 d2 d3 d4 d5 hs2
    go_wp2_with fail
    first
      | (go_ret3; exact ⟨ret_v HV.out.symm, HB3.out⟩)
      | (go_quiet (fail)
         go_wp2_with fail
         go_ret3
         exact ⟨ret_v HV.out.symm, below_drewN HB3.out _⟩)
  · have HV := Lib.hid hV
    clear hX hV
    go_enter Tryz.func24, Tryz.ntmps24
    go_wp2_with fail
    generalize (w.alloc (.cells #[.string (ofL h.method), .string (ofL h.target), .int .i64 h.status, .string (ofL h.reason), .int .i64 h.minor, v] 25)).alloc (.cells #[.int .i64 t.form, .string (ofL t.host), .int .i64 t.port, .string (ofL t.path), .string (ofL t.query), .bool t.has] 27) = W at *
    refine HR.out.mono ?_
    rintro e w2 ⟨rfl, hb2⟩
    have B2 := B0.below hb2 (by omega)
    have T2 := T0.below hb2 hsz
    have HB2 := Lib.hid (below_chain hb1.out hb2)
    have hs2 := Nat.lt_of_lt_of_le hsz hb2.size
    obtain ⟨d0, d1, d2, d3, d4, d5⟩ := B2.cells
    clear HR hb2 B0 T0 hb1 B2 hsz
    replace T2 := Lib.hid T2
    go_wp2_with fail
    refine (HU.out _).mono ?_
    rintro e w3 ⟨rfl, hb3⟩
    have T3 := T2.out.below hb3 hs2
    have HB3 := Lib.hid (below_chain HB2.out hb3)
    have t0 := (T3.cell 0).trans rfl
    have t1 := (T3.cell 1).trans rfl
    have t2 := (T3.cell 2).trans rfl
    clear HU hb3 T3 T2 HB2 d0 d1 d2 d3 d4 d5 hs2
    go_wp2_with fail
    first
      | (go_ret3; exact ⟨ret_v HV.out.symm, HB3.out⟩)
      | (go_quiet (fail)
         go_wp2_with fail
         go_ret3
         exact ⟨ret_v HV.out.symm, below_drewN HB3.out _⟩)
  · have HV := Lib.hid hV
    clear hX hV
    go_enter Tryz.func24, Tryz.ntmps24
    go_wp2_with fail
    generalize (w.alloc (.cells #[.string (ofL h.method), .string (ofL h.target), .int .i64 h.status, .string (ofL h.reason), .int .i64 h.minor, v] 25)).alloc (.cells #[.int .i64 t.form, .string (ofL t.host), .int .i64 t.port, .string (ofL t.path), .string (ofL t.query), .bool t.has] 27) = W at *
    refine HR.out.mono ?_
    rintro e w2 ⟨rfl, hb2⟩
    have B2 := B0.below hb2 (by omega)
    have T2 := T0.below hb2 hsz
    have HB2 := Lib.hid (below_chain hb1.out hb2)
    have hs2 := Nat.lt_of_lt_of_le hsz hb2.size
    obtain ⟨d0, d1, d2, d3, d4, d5⟩ := B2.cells
    clear HR hb2 B0 T0 hb1 B2 hsz
    replace T2 := Lib.hid T2
    go_wp2_with fail
    refine (HU.out _).mono ?_
    rintro e w3 ⟨rfl, hb3⟩
    have T3 := T2.out.below hb3 hs2
    have HB3 := Lib.hid (below_chain HB2.out hb3)
    have t0 := (T3.cell 0).trans rfl
    have t1 := (T3.cell 1).trans rfl
    have t2 := (T3.cell 2).trans rfl
    clear HU hb3 T3 T2 HB2 d0 d1 d2 d3 d4 d5 hs2
    go_wp2_with fail
    first
      | (go_ret3; exact ⟨ret_v HV.out.symm, HB3.out⟩)
      | (go_quiet (fail)
         go_wp2_with fail
         go_ret3
         exact ⟨ret_v HV.out.symm, below_drewN HB3.out _⟩)
  · have HV := Lib.hid hV
    clear hX hV
    go_enter Tryz.func24, Tryz.ntmps24
    go_wp2_with fail
    generalize (w.alloc (.cells #[.string (ofL h.method), .string (ofL h.target), .int .i64 h.status, .string (ofL h.reason), .int .i64 h.minor, v] 25)).alloc (.cells #[.int .i64 t.form, .string (ofL t.host), .int .i64 t.port, .string (ofL t.path), .string (ofL t.query), .bool t.has] 27) = W at *
    refine HR.out.mono ?_
    rintro e w2 ⟨rfl, hb2⟩
    have B2 := B0.below hb2 (by omega)
    have T2 := T0.below hb2 hsz
    have HB2 := Lib.hid (below_chain hb1.out hb2)
    have hs2 := Nat.lt_of_lt_of_le hsz hb2.size
    obtain ⟨d0, d1, d2, d3, d4, d5⟩ := B2.cells
    clear HR hb2 B0 T0 hb1 B2 hsz
    replace T2 := Lib.hid T2
    go_wp2_with fail
    refine (HU.out _).mono ?_
    rintro e w3 ⟨rfl, hb3⟩
    have T3 := T2.out.below hb3 hs2
    have HB3 := Lib.hid (below_chain HB2.out hb3)
    have t0 := (T3.cell 0).trans rfl
    have t1 := (T3.cell 1).trans rfl
    have t2 := (T3.cell 2).trans rfl
    clear HU hb3 T3 T2 HB2 d0 d1 d2 d3 d4 d5 hs2
    go_wp2_with fail
    first
      | (go_ret3; exact ⟨ret_v HV.out.symm, HB3.out⟩)
      | (go_quiet (fail)
         go_wp2_with fail
         go_ret3
         exact ⟨ret_v HV.out.symm, below_drewN HB3.out _⟩)
  · have HV := Lib.hid hV
    clear hX hV
    go_enter Tryz.func24, Tryz.ntmps24
    go_wp2_with fail
    generalize (w.alloc (.cells #[.string (ofL h.method), .string (ofL h.target), .int .i64 h.status, .string (ofL h.reason), .int .i64 h.minor, v] 25)).alloc (.cells #[.int .i64 t.form, .string (ofL t.host), .int .i64 t.port, .string (ofL t.path), .string (ofL t.query), .bool t.has] 27) = W at *
    refine HR.out.mono ?_
    rintro e w2 ⟨rfl, hb2⟩
    have B2 := B0.below hb2 (by omega)
    have T2 := T0.below hb2 hsz
    have HB2 := Lib.hid (below_chain hb1.out hb2)
    have hs2 := Nat.lt_of_lt_of_le hsz hb2.size
    obtain ⟨d0, d1, d2, d3, d4, d5⟩ := B2.cells
    clear HR hb2 B0 T0 hb1 B2 hsz
    replace T2 := Lib.hid T2
    go_wp2_with fail
    refine (HU.out _).mono ?_
    rintro e w3 ⟨rfl, hb3⟩
    have T3 := T2.out.below hb3 hs2
    have HB3 := Lib.hid (below_chain HB2.out hb3)
    have t0 := (T3.cell 0).trans rfl
    have t1 := (T3.cell 1).trans rfl
    have t2 := (T3.cell 2).trans rfl
    clear HU hb3 T3 T2 HB2 d0 d1 d2 d3 d4 d5 hs2
    go_wp2_with fail
    first
      | (go_ret3; exact ⟨ret_v HV.out.symm, HB3.out⟩)
      | (go_quiet (fail)
         go_wp2_with fail
         go_ret3
         exact ⟨ret_v HV.out.symm, below_drewN HB3.out _⟩)
end Go.Proofs.YtblpooddamkfdaaGreatDoor.R11Host

/- Layer 11, the document's own Status. -/
namespace Go.Proofs.YtblpooddamkfdaaGreatDoor.R11Stat
open Go.ChangeShapes Go.WideShapes Go.ChangeAt Go.RowKit Ret InflowPure
set_option maxRecDepth 20000
theorem ret_int {a b : Int} (h : a = b) : Ending.returned (.int .i64 a) = .returned (.int .i64 b) := by rw [h]
theorem r11status_any (e : Int) (w : World) :
    Calls Tryz.prog 22 #[.int .i64 e] w fun r w' => r = .returned (.int .i64 (status11 e)) ∧ w = w' := by
  obtain ⟨X, hX⟩ : ∃ X, X = status11 e := ⟨_, rfl⟩
  rw [← hX]
  unfold status11 at hX
  have q : ∀ k : Int, e ≠ k → (e == k) = false := fun k h => beq_eq_false_iff_ne.2 h
  rcases (show (e = 82 ∧ X = 414) ∨ ((e == 82) = false ∧ e = 83 ∧ X = 431) ∨ ((e == 82) = false ∧ (e == 83) = false ∧ e = 81 ∧ X = 505) ∨ ((e == 82) = false ∧ (e == 83) = false ∧ (e == 81) = false ∧ e = 91 ∧ X = 501) ∨ ((e == 82) = false ∧ (e == 83) = false ∧ (e == 81) = false ∧ (e == 91) = false ∧ e = 101 ∧ X = 413) ∨ ((e == 82) = false ∧ (e == 83) = false ∧ (e == 81) = false ∧ (e == 91) = false ∧ (e == 101) = false ∧ X = 400) by
    by_cases c1 : e = 82
    · exact .inl ⟨c1, by rw [hX, if_pos c1]⟩
    rw [if_neg c1] at hX
    by_cases c2 : e = 83
    · exact .inr (.inl ⟨q _ c1, c2, by rw [hX, if_pos c2]⟩)
    rw [if_neg c2] at hX
    by_cases c3 : e = 81
    · exact .inr (.inr (.inl ⟨q _ c1, q _ c2, c3, by rw [hX, if_pos c3]⟩))
    rw [if_neg c3] at hX
    by_cases c4 : e = 91
    · exact .inr (.inr (.inr (.inl ⟨q _ c1, q _ c2, q _ c3, c4, by rw [hX, if_pos c4]⟩)))
    rw [if_neg c4] at hX
    by_cases c5 : e = 101
    · exact .inr (.inr (.inr (.inr (.inl ⟨q _ c1, q _ c2, q _ c3, q _ c4, c5, by rw [hX, if_pos c5]⟩))))
    rw [if_neg c5] at hX
    exact .inr (.inr (.inr (.inr (.inr ⟨q _ c1, q _ c2, q _ c3, q _ c4, q _ c5, hX⟩))))) with ⟨rfl, hV⟩ | ⟨h1, rfl, hV⟩ | ⟨h1, h2, rfl, hV⟩ | ⟨h1, h2, h3, rfl, hV⟩ | ⟨h1, h2, h3, h4, rfl, hV⟩ | ⟨h1, h2, h3, h4, h5, hV⟩
  all_goals
    replace hV := Lib.hid hV
    clear hX q
    go_enter Tryz.func22, Tryz.ntmps22
    go_wp2_with fail
    go_ret
    exact ⟨ret_int hV.out.symm, rfl⟩
end Go.Proofs.YtblpooddamkfdaaGreatDoor.R11Stat
