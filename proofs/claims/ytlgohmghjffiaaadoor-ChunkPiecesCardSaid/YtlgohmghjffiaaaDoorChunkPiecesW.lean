/- A body in chunks is read alike in whatever pieces it comes: ChunkPieces returns true. -/
import Derived.Test.YtlgohmghjffiaaaDoorChAnchor
import Derived.Deep.QuietTactic
import Derived.BigQuiet
import Derived.Laws.DeepStrings4
namespace Go.Proofs.YtlgohmghjffiaaaDoor.ChunkPiecesW
open Go.ChangeShapes Go.WideShapes Go.ChangeAt Go.RowKit Bytes LexPure Ret Rows1 ChunkPure ChunkHex ChunkText ChunkObj Held10 ChAnchor Mem Step
set_option maxRecDepth 100000
set_option maxHeartbeats 1600000 in
theorem walkIn (most : Int) (hmr : ChObj.InR most) (s : ByteArray) (hs : s.size ≤ 140737488351232) (w : World) (hm : Fit w) :
    Calls Tryd.prog 3 #[.int .i64 most, .string s] w fun e w' => e = .returned (.bool true) ∧ Below w.heap.size w w' := by
  have HA := Lib.hid (anchor_any w hm)
  have HM := Lib.hid hm
  clear hm
  by_cases h5 : 5000 < s.size
  · have h5i : (5000 : Int) < (s.size : Int) := by omega
    clear h5
    go_enter Tryd.func3, Tryd.ntmps3
    go_wp2_with fail
    refine HA.out.mono ?_
    rintro e w1 ⟨rfl, hb1⟩
    have HB1 := Lib.hid hb1
    clear HA hb1
    go_wp2_with fail
    go_ret
    exact ⟨rfl, HB1.out⟩
  have h5i : ¬ (5000 : Int) < (s.size : Int) := by omega
  have h5j : s.size ≤ 5000 := by omega
  clear h5
  go_enter Tryd.func3, Tryd.ntmps3
  go_wp2_with fail
  refine HA.out.mono ?_
  rintro e w1 ⟨rfl, hb1⟩
  have HN := Lib.hid (pnew_any most hmr w1 (HM.out.below hb1))
  have HB1 := Lib.hid hb1
  clear HA hb1
  go_wp2_with fail
  refine HN.out.mono ?_
  rintro e w2 ⟨⟨ga, Fa, rfl, hD, hlo⟩, hb⟩
  have PA := Lib.hid (DB.new hD hlo hb HB1.out)
  have HN2 := Lib.hid (pnew_any most hmr w2 (HM.out.below PA.out.below))
  clear HN hD hlo hb HB1
  go_wp2_with fail
  refine HN2.out.mono ?_
  rintro e w3 ⟨⟨gb, Fb, rfl, hD, hlo⟩, hb⟩
  have PB := Lib.hid (DB.new hD hlo hb PA.out.below)
  have HDis : Hid (∀ k, Fb k → ¬ Fa k) := Lib.hid (fun k hk ha => by have := hlo k hk; have := PA.out.dec.lt k ha; omega)
  replace PA := Lib.hid (PA.out.call hb)
  clear HN2 hD hlo hb
  have HF := Lib.hid (pfeed_any Fa ga (begin_ most) s (by omega) (.inl (by omega)) (Ok.start most) w3 PA.out.dec)
  unfold ansV at HF
  obtain ⟨R, hR⟩ : ∃ R, R = ans (begin_ most) (toL s) := ⟨_, rfl⟩
  rw [← hR] at HF
  obtain ⟨wh, n, ok, er⟩ := R
  dsimp only at HF
  go_wp2_with fail
  refine HF.out.mono ?_
  rintro e w4 ⟨rfl, F4, _, hS⟩
  have HP : Hid (DBF w w4 gb (next (begin_ most) ((toL s).take 0)) ∧ good (run (begin_ most) ((toL s).take 0)).1 = true ∧ toL ⟨#[]⟩ = (run (begin_ most) ((toL s).take 0)).2.1 ∧ 0 = (run (begin_ most) ((toL s).take 0)).2.2) := Lib.hid ⟨⟨Fb, PB.out.other hS PA.out.low HDis.out⟩, rfl, rfl, rfl⟩
  clear HF PA PB HDis hS
  replace hR := Lib.hid hR
  go_wp2_with fail
  go_loopw [11, 12, 43] (fun b u i wr => ∃ (k c : Nat) (B : ByteArray), k ≤ s.size ∧ i = .int .i64 k ∧ u = .int .i64 c ∧ b = .string B ∧ B.size ≤ k ∧ c ≤ k ∧ Hid (DBF w wr gb (next (begin_ most) ((toL s).take k)) ∧ good (run (begin_ most) ((toL s).take k)).1 = true ∧ toL B = (run (begin_ most) ((toL s).take k)).2.1 ∧ c = (run (begin_ most) ((toL s).take k)).2.2)) (fun _ _ i _ => s.size - (intOf i).toNat)
  case atStart => exact ⟨0, 0, ⟨#[]⟩, Nat.zero_le _, rfl, rfl, rfl, Nat.le_refl _, Nat.le_refl _, HP⟩
  case round =>
    obtain ⟨k, c, B, hk, rfl, rfl, rfl, hB, hc, HI⟩ := hrel
    clear HP
    by_cases hlt : k < s.size
    · have hki : (k : Int) < (s.size : Int) := by omega
      obtain ⟨⟨F5, P5⟩, hg, hb2, hc2⟩ := HI.out
      obtain ⟨X, hX⟩ : ∃ X, X = s.extract k (k + 1) := ⟨_, rfl⟩
      have sX : X.size = 1 := by rw [hX, ByteArray.size_extract]; omega
      have hcut : (toL s).take k ++ toL X ++ (toL s).drop (k + 1) = toL s ∧ (toL s).take k ++ toL X = (toL s).take (k + 1) := by
        have e : toL X = [s[k]] := by
          rw [hX, toL_extract, toL_take_succ s k hlt]
          have : ((toL s).take k).length = k := by rw [List.length_take, toL_length]; omega
          rw [List.drop_append_of_le_length (by omega), List.drop_of_length_le (by omega), List.nil_append]
        have e2 : (toL s).take k ++ toL X = (toL s).take (k + 1) := by rw [e, ← toL_take_succ s k hlt]
        exact ⟨by rw [e2]; exact List.take_append_drop _ _, e2⟩
      have HF := Lib.hid (P5.feed X (by omega) (.inl (by omega)) ((Ok.start most).run _) HM.out)
      have hne : (ans (next (begin_ most) ((toL s).take k)) (toL X)).2.2.2 ≠ 0 → (wh, n, ok, er) = ([], 0, false, (ans (next (begin_ most) ((toL s).take k)) (toL X)).2.2.2) := fun h => by
        have := piece_bad (Told.start most) (d := (toL s).drop (k + 1)) h
        rw [hcut.1] at this
        exact hR.out.trans this
      have hok := piece_ok (Told.start most) (a := (toL s).take k) (b := toL X) ((toL s).drop (k + 1))
      rw [hcut.1, hcut.2, ← hR.out] at hok
      have hnx : next (next (begin_ most) ((toL s).take k)) (toL X) = next (begin_ most) ((toL s).take (k + 1)) := by rw [next_next, hcut.2]
      rw [hnx] at HF
      obtain ⟨u1, u2, _⟩ := ans_used (next (begin_ most) ((toL s).take k)) (toL X)
      generalize ans (next (begin_ most) ((toL s).take k)) (toL X) = r at *
      obtain ⟨xb, xk, xd, xe⟩ := r
      unfold ansV at HF
      dsimp only at HF hne hok u1 u2
      rw [toL_length, sX] at u1
      obtain ⟨Y, hY⟩ : ∃ Y, Y = ofL xb := ⟨_, rfl⟩
      have sY : Y.size ≤ 1 := by rw [hY, ofL_size]; omega
      have tY : toL Y = xb := by rw [hY, toL_ofL]
      rw [← hY] at HF
      rw [hX] at HF
      have q1 : (B.size : Int) + (Y.size : Int) ≤ 9223372036854775807 := by omega
      have q1' : B.size + Y.size ≤ 9223372036854775807 := by omega
      have q2 : (c : Int) + (xk : Int) ≤ 9223372036854775807 := by omega
      by_cases he : xe = 0
      · subst he
        obtain ⟨o1, o2, o3, o4⟩ := hok rfl
        rw [← hb2, ← tY, ← toL_append] at o2
        rw [← hc2] at o3
        have HY : ∀ w', DBF w w' gb (next (begin_ most) ((toL s).take (k + 1))) → Hid (DBF w w' gb (next (begin_ most) ((toL s).take (k + 1))) ∧ good (run (begin_ most) ((toL s).take (k + 1))).1 = true ∧ toL (B ++ Y) = (run (begin_ most) ((toL s).take (k + 1))).2.1 ∧ c + xk = (run (begin_ most) ((toL s).take (k + 1))).2.2) := fun w' h => Lib.hid ⟨h, o1, o2.symm, o3.symm⟩
        replace HY := Lib.hid HY
        rw [o3] at o4
        replace o4 := Lib.hid o4
        have sz : (B ++ Y).size ≤ k + 1 ∧ c + xk ≤ k + 1 := ⟨by rw [ByteArray.size_append]; omega, by omega⟩
        replace sz := Lib.hid sz
        clear hne hok hnx hY tY hX sX hcut hg hb2 hc2 P5 HI o1 o2 o3 u1 u2
        go_wp2_with fail
        refine HF.out.mono ?_
        rintro e w5 ⟨rfl, hD⟩
        replace HY := HY.out w5 hD
        clear HF hD
        rcases (show (ok = false ∧ xd = false) ∨ (ok = true ∧ xd = true ∧ (((c : Int) + (xk : Int)) == (n : Int)) = true) ∨ (ok = true ∧ xd = false ∧ (((c : Int) + (xk : Int)) == (n : Int)) = false) by
          have h := o4.out
          cases ok
          · exact .inl ⟨rfl, h⟩
          · rw [Bool.true_and] at h
            by_cases hq : c + xk = n
            · rw [decide_eq_true hq] at h
              exact .inr (.inl ⟨rfl, h, by rw [beq_iff_eq]; omega⟩)
            · rw [decide_eq_false hq] at h
              exact .inr (.inr ⟨rfl, h, beq_eq_false_iff_ne.2 (by omega)⟩)) with ⟨rfl, rfl⟩ | ⟨rfl, rfl, h1⟩ | ⟨rfl, rfl, h1⟩
        · clear o4
          go_wp2_with fail
          go_roundw
          case rel => exact ⟨k + 1, c + xk, B ++ Y, by omega, by go_num, by go_num, rfl, sz.out.1, sz.out.2, HY⟩
          case measure => simp [intOf]; omega
        · clear o4
          go_wp2_with fail
          go_roundw
          case rel => exact ⟨k + 1, c + xk, B ++ Y, by omega, by go_num, by go_num, rfl, sz.out.1, sz.out.2, HY⟩
          case measure => simp [intOf]; omega
        · clear o4
          go_wp2_with fail
          go_roundw
          case rel => exact ⟨k + 1, c + xk, B ++ Y, by omega, by go_num, by go_num, rfl, sz.out.1, sz.out.2, HY⟩
          case measure => simp [intOf]; omega
      · have h1 := hne he
        injection h1 with h1 h2
        injection h2 with h2 h3
        injection h3 with h3 h4
        subst h1 h2 h3 h4
        have he2 : (er != 0) = true := bne_iff_ne.2 he
        have he3 : (er == er) = true := beq_self_eq_true _
        have HB := Lib.hid (fun w' (h : DBF w w' gb (next (begin_ most) ((toL s).take (k + 1)))) => show Below w.heap.size w w' from by obtain ⟨_, h⟩ := h; exact h.below)
        rw [show ofL [] = ⟨#[]⟩ from rfl]
        clear hne hok hnx hY tY hX sX hcut hg hb2 hc2 P5 HI u1 u2 hR he
        go_wp2_with fail
        refine HF.out.mono ?_
        rintro e w5 ⟨rfl, hD⟩
        replace HB := Lib.hid (HB.out w5 hD)
        clear HF hD
        go_wp2_with fail
        go_ret
        exact ⟨rfl, HB.out⟩
    · have hki : ¬ (k : Int) < (s.size : Int) := by omega
      obtain ⟨⟨F5, P5⟩, hg, hb2, hc2⟩ := HI.out
      have hall : (toL s).take k = toL s := toL_take_all s (by omega)
      rw [hall] at hg hb2 hc2
      have h1 := hR.out
      rw [ans_good hg, ← hb2, ← hc2] at h1
      injection h1 with h1 h2
      injection h2 with h2 h3
      injection h3 with h3 h4
      have e1 : ofL wh = B := by rw [h1]; exact ofL_toL B
      rw [e1]
      subst h2 h4
      have HB := Lib.hid P5.below
      have q1 : ((n : Int) == (n : Int)) = true := beq_self_eq_true _
      have q2 : (B.toList == B.toList) = true := beq_self_eq_true _
      clear e1 hR HI P5 hg hb2 hc2 hall h1 h3
      go_wp2_with fail
      go_ret
      exact ⟨rfl, HB.out⟩
theorem walk (most : Int) (hmost : (Lit.int .i64 most).wf = true) (s : ByteArray) (_w : s.size ≤ maxLen) (hs : s.size ≤ 140737488351232) (W : World) (hsh : W.ShapedOpen Tryd.prog) :
    Calls Tryd.prog 3 #[.int .i64 most, .string s] W fun e w' => e = .returned (.bool true) ∧ Below W.heap.size W w' :=
  walkIn most (ChObj.InR.of_wf hmost) s hs W (Fit.of_shape hsh)
end Go.Proofs.YtlgohmghjffiaaaDoor.ChunkPiecesW
