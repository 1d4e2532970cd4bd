/- No body has more bytes than it may have, whatever comes: ChunkBound returns true. -/
import Derived.Test.YtlgohmghjffiaaaDoorChAnchor
import Derived.Test.YtlgohmghjffiaaaDoorLexList
import Derived.Test.YtlgohmghjffiaaaDoorSArg
namespace Go.Proofs.YtlgohmghjffiaaaDoor.ChunkBoundW
open Go.ChangeShapes Go.WideShapes Go.ChangeAt Go.RowKit Bytes LexPure Ret Rows1 Texts ChunkPure ChunkHex ChunkText ChunkObj Held10 ChAnchor SArg Mem Step
set_option maxRecDepth 100000
set_option maxHeartbeats 1600000 in
theorem walkIn (most : Int) (hmr : ChObj.InR most) (v : Value) (T : List (List UInt8)) (hT : ∀ t ∈ T, t.length ≤ 140737488351232) (w : World) (hV : Texts w v T) (hm : Fit w) :
    Calls Tryd.prog 5 #[.int .i64 most, v] w fun e w' => e = .returned (.bool true) ∧ Below w.heap.size w w' := by
  have hmost : most ≤ 9223372036854775807 := hmr.2
  have HA := Lib.hid (anchor_any w hm)
  have HM := Lib.hid hm
  obtain ⟨p, cap, rfl, hle, hcl⟩ := hV
  replace hcl := Lib.hid hcl
  replace hT := Lib.hid hT
  clear hm
  go_enter Tryd.func5, Tryd.ntmps5
  go_wp2_with fail
  refine HA.out.mono ?_
  rintro e w1 ⟨rfl, hb1⟩
  have HN := Lib.hid (pnew_any most hmr w1 (HM.out.below hb1))
  have HB1 := Lib.hid hb1
  clear HA hb1
  go_wp2_with fail
  refine HN.out.mono ?_
  rintro e w2 ⟨⟨g, F, rfl, hD, hlo⟩, hb⟩
  have P : Hid (DBF w w2 g (begin_ most)) := Lib.hid ⟨F, DB.new hD hlo hb HB1.out⟩
  clear HN hD hlo hb HB1
  go_wp2_with fail
  have HX : Hid (DBF w w2 g (begin_ most) ∧ Ok (begin_ most) ∧ 0 ≤ (begin_ most).size ∧ (begin_ most).most = most) := Lib.hid ⟨P.out, Ok.start most, Nat.zero_le _, rfl⟩
  clear P
  go_loopw [6, 21] (fun n i wr => ∃ (k c : Nat) (m : M), k ≤ T.length ∧ i = .int .i64 k ∧ n = .int .i64 c ∧ Hid (DBF w wr g m ∧ Ok m ∧ c ≤ m.size ∧ m.most = most)) (fun _ i _ => T.length - (intOf i).toNat)
  case atStart => exact ⟨0, 0, begin_ most, Nat.zero_le _, rfl, rfl, HX⟩
  case round =>
    obtain ⟨k, c, m, hk, rfl, rfl, HI⟩ := hrel
    clear HX
    by_cases hlt : k < T.length
    · obtain ⟨gp, o, rfl, hgl, hcell⟩ := hcl.out (by omega)
      have hki : (k : Int) < (T.length : Int) := by omega
      have ht := hT.out T[k] (List.getElem_mem hlt)
      obtain ⟨⟨F3, P3⟩, hok, hc, hmm⟩ := HI.out
      have d1 := (P3.below.cell (p := ⟨gp, o + k, none⟩) hgl).trans (hcell k hlt)
      have HF := Lib.hid (P3.feed (ofL T[k]) (by rw [ofL_size]; omega) (.inl (by rw [ofL_size]; omega)) hok HM.out)
      obtain ⟨u1, u2, u3⟩ := ans_used m (toL (ofL T[k]))
      have u4 := ans_size m (toL (ofL T[k]))
      have hok2 : Ok (next m (toL (ofL T[k]))) := hok.run _
      have hm2 : (next m (toL (ofL T[k]))).most = most := (run_size m _).2.trans hmm
      rw [toL_length, ofL_size] at u1
      have sT : (ofL T[k]).size = T[k].length := ofL_size _
      generalize hm3 : next m (toL (ofL T[k])) = m2 at *
      generalize ans m (toL (ofL T[k])) = r at *
      obtain ⟨b, us, dn, er⟩ := r
      unfold ansV at HF
      dsimp only at HF u1 u2 u3 u4
      have hb2 := hok2.most
      rw [hm2] at hb2
      obtain ⟨S, hS⟩ : ∃ S, S = ofL b := ⟨_, rfl⟩
      have sS : S.size = b.length := by rw [hS, ofL_size]
      have u5 : er ≠ 0 → S = ⟨#[]⟩ := fun h => by rw [hS, u3 h]; rfl
      rw [← hS] at HF
      generalize ofL T[k] = A at *
      clear hcell hm3 hS u3 P3 HI
      have q1 : (0 : Int) ≤ (us : Int) := by omega
      have q2 : (us : Int) ≤ (A.size : Int) := by omega
      have q3 : (S.size : Int) ≤ (us : Int) := by omega
      have q4 : (c : Int) + (S.size : Int) ≤ 9223372036854775807 := by omega
      have q5 : (c : Int) + (S.size : Int) ≤ most ∨ (c = 0 ∧ S.size = 0) := by omega
      have HY : ∀ w', DBF w w' g m2 → Hid (DBF w w' g m2 ∧ Ok m2 ∧ c + S.size ≤ m2.size ∧ m2.most = most) := fun w' h => Lib.hid ⟨h, hok2, by omega, hm2⟩
      replace HY := Lib.hid HY
      clear hok2 hm2 hb2 u1 u2 u4 sT sS hok hmm hc
      go_wp2_with fail
      refine HF.out.mono ?_
      rintro e w3 ⟨rfl, hD⟩
      replace HY := HY.out w3 hD
      clear HF hD d1
      have hcs : (er = 0 ∧ (c : Int) + (S.size : Int) ≤ most) ∨ (er = 0 ∧ c = 0 ∧ S = ⟨#[]⟩ ∧ most < 0) ∨ ((er != 0) = true ∧ S = ⟨#[]⟩ ∧ (c : Int) ≤ most) ∨ ((er != 0) = true ∧ S = ⟨#[]⟩ ∧ c = 0 ∧ most < 0) := by
        have hz : S.size = 0 → S = ⟨#[]⟩ := fun h => toL_inj (by
          have : (toL S).length = 0 := by rw [toL_length]; exact h
          rw [List.length_eq_zero_iff.1 this])
        by_cases he : er = 0
        · rcases q5 with h | ⟨h1, h2⟩
          · exact .inl ⟨he, h⟩
          · by_cases hm : most < 0
            · exact .inr (.inl ⟨he, h1, hz h2, hm⟩)
            · exact .inl ⟨he, by omega⟩
        · have he2 : (er != 0) = true := bne_iff_ne.2 he
          have hs := u5 he
          have hs2 : S.size = 0 := by rw [hs]; rfl
          rcases q5 with h | ⟨h1, h2⟩
          · exact .inr (.inr (.inl ⟨he2, hs, by omega⟩))
          · by_cases hm : most < 0
            · exact .inr (.inr (.inr ⟨he2, hs, h1, hm⟩))
            · exact .inr (.inr (.inl ⟨he2, hs, by omega⟩))
      clear q5 u5
      rcases hcs with ⟨rfl, h1⟩ | ⟨rfl, rfl, rfl, h1⟩ | ⟨h1, rfl, h2⟩ | ⟨h1, rfl, rfl, h2⟩
      · have h2 : ¬ most < (c : Int) + (S.size : Int) := by omega
        clear hcl hT
        go_wp2_with fail
        go_roundw
        case rel => exact ⟨k + 1, c + S.size, m2, by omega, by go_num, by go_num, HY⟩
        case measure => simp [intOf]; omega
      · have q6 : ¬ (us : Int) < 0 := by omega
        clear hcl hT
        go_wp2_with fail
        go_roundw
        case rel => exact ⟨k + 1, 0, m2, by omega, by go_num, by go_num, HY⟩
        case measure => simp [intOf]; omega
      · have q6 : ¬ most < (c : Int) := by omega
        clear hcl hT
        go_wp2_with fail
        go_roundw
        case rel => exact ⟨k + 1, c, m2, by omega, by go_num, by go_num, HY⟩
        case measure => simp [intOf]; omega
      · have q6 : ¬ (us : Int) < 0 := by omega
        clear hcl hT
        go_wp2_with fail
        go_roundw
        case rel => exact ⟨k + 1, 0, m2, by omega, by go_num, by go_num, HY⟩
        case measure => simp [intOf]; omega
    · have hki : ¬ ((k : Int) < (T.length : Int)) := by omega
      obtain ⟨⟨F3, P3⟩, _⟩ := HI.out
      have HB := Lib.hid P3.below
      clear HI P3 hcl hT
      go_wp2_with fail
      go_ret
      exact ⟨rfl, HB.out⟩
theorem walk {H : Type} {enc : TypeId × Value → H} {W : World} {base : Nat} (most : Int) (hmost : (Lit.int .i64 most).wf = true) (v : Value) (d : DataW H) (p : List MemPlace) (hv : Value.okWide Tryd.prog W .any base 29 v)
    (hd : DataW.Trod enc Tryd.prog W 0 (fun _ => true) true 29 v d p) (_hl : ∀ x ∈ p, x.block < W.heap.size) (hb : (d.weights Tryd.prog 29).all (· ≤ reachBytes) = true) (hsh : W.ShapedOpen Tryd.prog) :
    Calls Tryd.prog 5 #[.int .i64 most, v] W fun e w' => e = .returned (.bool true) ∧ Below W.heap.size W w' := by
  obtain ⟨T, hT, hlen, _⟩ := texts_reach hv hd hb
  exact walkIn most (ChObj.InR.of_wf hmost) v T hlen W hT (Fit.of_shape hsh)
end Go.Proofs.YtlgohmghjffiaaaDoor.ChunkBoundW
