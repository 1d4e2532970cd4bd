/- Layer 7 of the program: without, over whatever its function answers. -/
import Derived.Test.YtgkmkkgneipabaaDoorR7Remove
namespace Go.Proofs.YtgkmkkgneipabaaDoor.PWithout
open Go.ChangeShapes Go.WideShapes Go.ChangeAt Go.RowKit LexPure Bytes Ret Rows1 FieldsPure Flds R7Get R7Remove Mem
set_option maxRecDepth 20000
def keepBy (q : HField → Bool) (l : List HField) : List HField := l.filter (fun f => !q f)
theorem keepBy_snoc (q : HField → Bool) (l : List HField) (f : HField) : keepBy q (l ++ [f]) = if q f then keepBy q l else keepBy q l ++ [f] := by
  unfold keepBy
  rw [List.filter_append]
  cases h : q f <;> simp [h]
set_option maxHeartbeats 1600000 in
theorem pwithout_any (fid bx : Nat) (hent : ∀ args w, (callFunc fid args).run Tryd.prog w = .ok (.enter fid args) w) (q : HField → Bool) (v : Value) (G : List HField) (hle2 : G.length ≤ 4398046511104) (w : World) (hF : FL w v G)
    (hcall : ∀ (j : Nat) (hj : j < G.length) (W : World), Below w.heap.size w W → Calls Tryd.prog fid #[.agg #[.string (ofL G[j].1), .string (ofL G[j].2)], .pointer (some ⟨bx, 0, none⟩)] W fun e w' => e = .returned (.bool (q G[j])) ∧ Below W.heap.size W w') :
    Calls Tryd.prog 38 #[v, .func (.func fid) #[] #[.pointer (some ⟨bx, 0, none⟩)]] w fun e w' => ∃ v', e = .returned v' ∧ w'.ownsRow w.heap.size 38 2 v' (keepBy q G).length (encFs (keepBy q G)) ∧ Below w.heap.size w w' := by
  obtain ⟨i0, hi, hz0, hz1, hz2⟩ := info_parts infoF
  obtain ⟨p, cap, rfl, hle, hc⟩ := hF
  replace hc := Lib.hid hc
  replace hcall := Lib.hid hcall
  have HK := Lib.hid (Kept.start w)
  go_enter Tryd.func38, Tryd.ntmps38
  go_wp2_with fail
  go_loopw [5, 10] (fun x i wr => ∃ k : Nat, k ≤ G.length ∧ i = .int .i64 k ∧ Hid (Kept w (keepBy q (G.take k)) x wr)) (fun _ i _ => G.length - (intOf i).toNat)
  case atStart => exact ⟨0, Nat.zero_le _, rfl, HK⟩
  case round =>
    obtain ⟨k, hk, rfl, HI⟩ := hrel
    clear HK
    by_cases hlt : k < G.length
    · obtain ⟨g, o, rfl, hgl, hcell⟩ := hc.out (by omega)
      obtain ⟨c1, c2⟩ := hcell k hlt
      have hki : (k : Int) < (G.length : Int) := by omega
      have HT : Hid (keepBy q (G.take (k + 1)) = if q G[k] then keepBy q (G.take k) else keepBy q (G.take k) ++ [G[k]]) := Lib.hid (by rw [← keepBy_snoc, List.take_add_one, List.getElem?_eq_getElem hlt]; rfl)
      replace c1 := (HI.out.below.cell (p := ⟨g, o + k * 2, none⟩) hgl).trans c1
      replace c2 := (HI.out.below.cell (p := ⟨g, o + k * 2 + 1, none⟩) hgl).trans c2
      have HI1 := Lib.hid (HI.out.alloc (.cells #[.string (ofL G[k].1), .string (ofL G[k].2)] 38))
      have HA := Lib.hid (hcall.out k hlt _ HI1.out.below)
      have d := (Has.new wr 38 #[.string (ofL G[k].1), .string (ofL G[k].2)]).cell
      have d0 := d 0
      have d1 := d 1
      have hsz : wr.heap.size < (wr.alloc (.cells #[.string (ofL G[k].1), .string (ofL G[k].2)] 38)).heap.size := by simp
      clear hcell d
      cases hh : q G[k]
      · rw [hh] at HT HA
        clear hh
        go_wp2_with fail
        refine HA.out.mono ?_
        rintro e w2 ⟨rfl, hb2⟩
        have e0 := (hb2.cell (p := ⟨wr.heap.size, 0, none⟩) hsz).trans d0
        have e1 := (hb2.cell (p := ⟨wr.heap.size, 1, none⟩) hsz).trans d1
        have HK2 := (HI1.out.call hb2).alloc (.cells #[.string (ofL G[k].1), .string (ofL G[k].2)] 38)
        have hlen : (keepBy q (G.take k)).length ≤ k := Nat.le_trans (List.length_filter_le _ _) (List.length_take_le _ _)
        have HN := Lib.hid (World.news_of_block (heap_alloc_new w2 (.cells #[.string (ofL G[k].1), .string (ofL G[k].2)] 38)))
        have HKH := Lib.hid HK2
        have hrow := HK2.row
        clear hb2 HK2 d0 d1 hsz c1 c2
        go_wp2_with (at_builtin; refine wpList_append_own_at _ rfl (.tmp 18) (.tmp 20) 22 rfl w.heap.size 38 i0 _ 2 32 Tryd.underlying22 hi hz0 hz1 hz2 rfl (by omega) _ _ _ rfl hrow ⟨w2.heap.size, 0, none⟩ 1 1 (encF G[k]) rfl rfl HN.out (by simp [encF, Value.oneCell']) (by simp only [maxLen]; omega) (by omega) (by have := HKH.out.below.size; exact this) ?_; intro v4 w4 hown4 hg4 _ hat4)
        have HK3 : Hid (Kept w (keepBy q (G.take (k + 1))) v4 w4) := Lib.hid (by
          rw [HT.out]
          refine ⟨?_, Below.grown HKH.out.below hg4 HKH.out.below.size HKH.out.lt⟩
          rw [if_neg (by decide), encFs_append, List.length_append]
          exact hown4)
        clear hown4 hg4 hat4 hrow
        go_wp2_with fail
        go_roundw
        case rel => exact ⟨k + 1, by omega, by go_num, HK3⟩
        case measure => simp [intOf]; omega
      · rw [hh] at HT HA
        clear hh
        go_wp2_with fail
        refine HA.out.mono ?_
        rintro e w2 ⟨rfl, hb2⟩
        have HK3 : Hid (Kept w (keepBy q (G.take (k + 1))) u5 w2) := Lib.hid (by
          rw [HT.out]
          exact HI1.out.call hb2)
        clear hb2 d0 d1 hsz
        go_wp2_with fail
        go_roundw
        case rel => exact ⟨k + 1, by omega, by go_num, HK3⟩
        case measure => simp [intOf]; omega
    · have hall : G.take k = G := List.take_of_length_le (by omega)
      have HE := HI.out
      rw [hall] at HE
      have HEH := Lib.hid HE
      clear HE HI hall
      go_wp2_with fail
      go_ret
      exact ⟨_, rfl, HEH.out.row, HEH.out.below⟩
end Go.Proofs.YtgkmkkgneipabaaDoor.PWithout
