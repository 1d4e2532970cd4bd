/- Layer 7, the document's own Remove. -/
import Derived.Test.YtgkmkkgneipabaaDoorR7Get
import Derived.OwnWalk
import Derived.Maps.AppendAt
import Derived.Deep.AppendLies
namespace Go.Proofs.YtgkmkkgneipabaaDoor.R7Remove
open Go.ChangeShapes Go.WideShapes Go.ChangeAt Go.RowKit LexPure Bytes Ret Rows1 FieldsPure Flds RAlike7 R7Get Mem
set_option maxRecDepth 20000
theorem remove_snoc (l : List HField) (f : HField) (n : List UInt8) : remove (l ++ [f]) n = if hit n f then remove l n else remove l n ++ [f] := by
  unfold remove
  rw [List.filter_append]
  cases h : hit n f <;> simp [h]
theorem remove_len (l : List HField) (n : List UInt8) : (remove l n).length ≤ l.length := List.length_filter_le _ _
/-- what is kept of the first k -/
structure Kept (w : World) (X : List HField) (v : Value) (wr : World) : Prop where
  row : wr.ownsRow w.heap.size 38 2 v X.length (encFs X)
  below : Below w.heap.size w wr
theorem Kept.start (w : World) : Kept w [] (.slice none 0 0) w := ⟨World.ownsRow_nil _ _ _ _, Below.refl _ _⟩
theorem row_below {w w' : World} {base n size : Nat} {e : TypeId} {v : Value} {xs : List Value} (h : w.ownsRow base e size v n xs) (hb : Below w.heap.size w w') : w'.ownsRow base e size v n xs := by
  refine ⟨h.1, ?_⟩
  rcases h.2 with h0 | ⟨g, cap, cur, hv, h1, hg, rest⟩
  · exact .inl h0
  · exact .inr ⟨g, cap, cur, hv, h1, (hb.block g (Array.getElem?_eq_some_iff.1 hg).1).trans hg, rest⟩
theorem row_mono {w : World} {base base' n size : Nat} {e : TypeId} {v : Value} {xs : List Value} (h : w.ownsRow base e size v n xs) (hb : base' ≤ base) : w.ownsRow base' e size v n xs := by
  refine ⟨h.1, ?_⟩
  rcases h.2 with h0 | ⟨g, cap, cur, h1, h2, h3⟩
  · exact .inl h0
  · exact .inr ⟨g, cap, cur, h1, Nat.le_trans hb h2, h3⟩
theorem Kept.call {w w1 w2 : World} {X : List HField} {v : Value} (h : Kept w X v w1) (hb : Below w1.heap.size w1 w2) : Kept w X v w2 :=
  ⟨row_below h.row hb, below_chain h.below hb⟩
theorem Kept.alloc {w w1 : World} {X : List HField} {v : Value} (h : Kept w X v w1) (o : Obj) : Kept w X v (w1.alloc o) := h.call ((Below.refl _ _).alloc (Nat.le_refl _) o)
theorem Kept.lt {w w1 : World} {X : List HField} {v : Value} (h : Kept w X v w1) : ∀ j, v.ownBlock = some j → w.heap.size ≤ j := fun j hj => (h.row.lt j hj).1
set_option maxHeartbeats 1600000 in
theorem rremove_any (v : Value) (G : List HField) (n : ByteArray) (hn : n.size ≤ 1048576) (hG : Few G) (hle2 : G.length ≤ 1048576) (w : World) (hF : FL w v G) :
    Calls Tryd.prog 23 #[v, .string n] w fun e w' => ∃ v', e = .returned v' ∧ w'.ownsRow w.heap.size 38 2 v' (remove G (toL n)).length (encFs (remove G (toL n))) ∧ Below w.heap.size w w' := by
  obtain ⟨i0, hi, hz0, hz1, hz2⟩ := info_parts infoF
  obtain ⟨p, cap, rfl, hle, hc⟩ := hF
  replace hc := Lib.hid hc
  replace hG := Lib.hid hG
  have HK := Lib.hid (Kept.start w)
  go_enter Tryd.func23, Tryd.ntmps23
  go_wp2_with fail
  go_loopw [5, 6] (fun x i wr => ∃ k : Nat, k ≤ G.length ∧ i = .int .i64 k ∧ Hid (Kept w (remove (G.take k) (toL n)) x wr)) (fun _ i _ => G.length - (intOf i).toNat)
  case atStart => exact ⟨0, Nat.zero_le _, rfl, HK⟩
  case round =>
    obtain ⟨k, hk, rfl, HI⟩ := hrel
    clear HK
    by_cases hlt : k < G.length
    · obtain ⟨g, o, rfl, hgl, hcell⟩ := hc.out (by omega)
      obtain ⟨c1, c2⟩ := hcell k hlt
      have hki : (k : Int) < (G.length : Int) := by omega
      obtain ⟨s1, s2⟩ := hG.out k hlt
      have HA := Lib.hid (fun w => ralike7_any (ofL G[k].1) n (by rw [ofL_size]; omega) (by omega) w)
      rw [toL_ofL] at HA
      have HT : Hid (remove (G.take (k + 1)) (toL n) = if hit (toL n) G[k] then remove (G.take k) (toL n) else remove (G.take k) (toL n) ++ [G[k]]) := Lib.hid (by rw [← remove_snoc, List.take_add_one, List.getElem?_eq_getElem hlt]; rfl)
      replace c1 := (HI.out.below.cell (p := ⟨g, o + k * 2, none⟩) hgl).trans c1
      replace c2 := (HI.out.below.cell (p := ⟨g, o + k * 2 + 1, none⟩) hgl).trans c2
      have hgl2 := Nat.lt_of_lt_of_le hgl HI.out.below.size
      clear hcell
      cases hh : hit (toL n) G[k]
      · rw [hh] at HT
        rw [show alike G[k].1 (toL n) = false from hh] at HA
        clear hh
        go_wp2_with fail
        refine (HA.out _).mono ?_
        rintro e w2 ⟨rfl, hb2⟩
        have HK2 := (HI.out.call hb2).alloc (.cells #[.string (ofL G[k].1), .string (ofL G[k].2)] 38)
        have hlen := Nat.le_trans (remove_len (G.take k) (toL n)) (List.length_take_le _ _)
        replace c1 := (hb2.cell (p := ⟨g, o + k * 2, none⟩) hgl2).trans c1
        replace c2 := (hb2.cell (p := ⟨g, o + k * 2 + 1, none⟩) hgl2).trans c2
        have HN := Lib.hid (World.news_of_block (heap_alloc_new w2 (.cells #[.string (ofL G[k].1), .string (ofL G[k].2)] 38)))
        have HKH := Lib.hid HK2
        have hrow := HK2.row
        clear hb2 HK2
        go_wp2_with (at_builtin; refine wpList_append_own_at _ rfl (.tmp 21) (.tmp 26) 22 rfl w.heap.size 38 i0 _ 2 32 Tryd.underlying22 hi hz0 hz1 hz2 rfl (by omega) _ _ _ rfl hrow ⟨w2.heap.size, 0, none⟩ 1 1 (encF G[k]) rfl rfl HN.out (by simp [encF, Value.oneCell']) (by simp only [maxLen]; omega) (by omega) (by have := HKH.out.below.size; exact this) ?_; intro v4 w4 hown4 hg4 _ hat4)
        have HK3 : Hid (Kept w (remove (G.take (k + 1)) (toL n)) v4 w4) := Lib.hid (by
          rw [HT.out]
          refine ⟨?_, Below.grown HKH.out.below hg4 HKH.out.below.size HKH.out.lt⟩
          rw [if_neg (by decide), encFs_append, List.length_append]
          exact hown4)
        clear hown4 hg4 hat4 hrow
        go_wp2_with fail
        go_roundw
        case rel => exact ⟨k + 1, by omega, by go_num, HK3⟩
        case measure => simp [intOf]; omega
      · rw [hh] at HT
        rw [show alike G[k].1 (toL n) = true from hh] at HA
        clear hh
        go_wp2_with fail
        refine (HA.out _).mono ?_
        rintro e w2 ⟨rfl, hb2⟩
        have HK3 : Hid (Kept w (remove (G.take (k + 1)) (toL n)) u5 w2) := Lib.hid (by
          rw [HT.out]
          exact HI.out.call hb2)
        clear hb2
        go_wp2_with fail
        go_roundw
        case rel => exact ⟨k + 1, by omega, by go_num, HK3⟩
        case measure => simp [intOf]; omega
    · have hall : G.take k = G := List.take_of_length_le (by omega)
      have HE := HI.out
      rw [hall] at HE
      have HEH := Lib.hid HE
      clear HE HI hall
      go_wp2_with fail
      go_ret
      exact ⟨_, rfl, HEH.out.row, HEH.out.below⟩
end Go.Proofs.YtgkmkkgneipabaaDoor.R7Remove
