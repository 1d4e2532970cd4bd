/- Layer 10 of the program: the end of a line (endSize, endTrailer, endLine). -/
import Derived.Test.YtlgohmghjffiaaaDoorPChFit
import Derived.Test.YtlgohmghjffiaaaDoorPCutLib
import Derived.Test.YtlgohmghjffiaaaDoorPField8
namespace Go.Proofs.YtlgohmghjffiaaaDoor.PChEnd
open Go.ChangeShapes Go.WideShapes Go.ChangeAt Go.RowKit Bytes LexPure LexNum HeadPure CutAt ChunkPure ChunkText ChObj Mem Step Ret Rows1 PHex PCutLib PField8 HBox
set_option maxRecDepth 20000
/-- a decoder whose line has just been taken -/
structure Fresh (r : Raw) (n : Nat) : Prop where
  size : r.size = n
  line : r.line = []
  part : r.part = false
  cr : r.cr = false
  ref : r.ref = 0
theorem sizeL_say (l : List UInt8) : (numOk 16 (min 8 15) (aheadOf 59 l) = false ∧ sizeL l = -1) ∨
    (numOk 16 (min 8 15) (aheadOf 59 l) = true ∧ sizeL l = numR 16 (min 8 15) (aheadOf 59 l) ∧ 0 ≤ sizeL l ∧ sizeL l < 4294967296) := by
  unfold sizeL aheadOf
  rw [show (min 8 15 : Int) = 8 from rfl]
  cases h : numOk 16 8 (l.takeWhile (fun c => c != 59)) with
  | false => exact .inl ⟨rfl, by rw [if_neg (by decide)]⟩
  | true =>
    refine .inr ⟨rfl, by rw [if_pos rfl], ?_⟩
    rw [if_pos rfl]
    unfold numR
    rw [h, if_pos rfl]
    unfold numOk at h
    simp only [Bool.and_eq_true, decide_eq_true_eq] at h
    have h1 := numV_lt 16 _ h.2
    have h2 : 16 ^ (l.takeWhile (fun c => c != 59)).length ≤ 16 ^ 8 := Nat.pow_le_pow_right (by decide) (by omega)
    have h3 : (16 : Nat) ^ 8 = 4294967296 := rfl
    omega
theorem errN_fail (m : M) (e : Int) : errN (fail m e) = e := rfl
theorem good_fail (m : M) (e : Int) : good (fail m e) = false := rfl
set_option maxHeartbeats 1600000 in
theorem pesize_any {w : World} {F : Nat → Prop} {g : Nat} {r : Raw} {v : Value} {m : M} (h : Cod w F g m.most r v) (f : Fresh r m.size) (hn : r.next = 0) (ht : r.trail = 0) (hph : m.ph = .size) (L : ByteArray) (hL : toL L = m.line) (hsz : L.size ≤ 512) (hz : Sane m) :
    Calls Tryd.prog 26 #[.pointer (some ⟨g, 0, none⟩), .string L] w fun e w' => e = .returned (.int .i64 (errN (endLine m))) ∧ CSF w F w' g m.most (endLine m) := by
  have HC := Lib.hid (full_cut 59 L (by omega) w)
  have hlen : (aheadOf 59 (toL L)).length ≤ maxLen := by
    have : (aheadOf 59 (toL L)).length ≤ (toL L).length := by unfold aheadOf; exact (List.takeWhile_prefix _).length_le
    rw [toL_length] at this
    unfold maxLen
    omega
  have HH := Lib.hid (fun w => phex_any (ofL (aheadOf 59 (toL L))) (by rw [ofL_size]; exact hlen) 8 w)
  rw [toL_ofL] at HH
  have HS := Lib.hid (CS.start h)
  have hsay := sizeL_say m.line
  rw [← hL] at hsay
  have hend : endLine m = if sizeL (toL L) < 0 then fail m 100 else if m.most < m.size + sizeL (toL L) then fail m 101 else if sizeL (toL L) = 0 then goOn m (.trail 0) else goOn m (.data (sizeL (toL L)).toNat) := by
    rw [hL]
    unfold endLine
    rw [hph]
  generalize behind 59 (toL L) = R at *
  generalize hasB 59 (toL L) = q at *
  generalize aheadOf 59 (toL L) = A at *
  generalize sizeL (toL L) = S at *
  clear hlen h hL hsz
  rcases hsay with ⟨h1, h2⟩ | ⟨h1, h2, h3, h4⟩
  · rw [h1] at HH
    have HE : Hid (endLine m = fail m 100) := Lib.hid (by rw [hend, if_pos (by omega)])
    rw [HE.out]
    generalize numR 16 (min 8 15) A = nn at *
    clear hend h1 h2
    have href := f.ref
    go_enter Tryd.func26, Tryd.ntmps26
    go_wp2_with fail
    refine HC.out.mono ?_
    rintro e w1 ⟨rfl, hb1⟩
    go_wp2_with fail
    refine (HH.out _).mono ?_
    rintro e w2 ⟨rfl, rfl⟩
    go_wp2_with fail
    go_ret
    exact ⟨rfl, F, r, v, HS.out.call hb1, href, fun hg => by cases hg⟩
  · rw [h1, ← h2] at HH
    have e1 := HS.out.cod.c0
    have e2 := HS.out.cod.c1
    rw [f.size] at e2
    have k1 : (0 : Int) ≤ (m.size : Int) := by omega
    obtain ⟨⟨z1, z2⟩, z3⟩ := hz
    replace f := Lib.hid f
    replace hend := Lib.hid hend
    have kw : IntKind.i64.wrap (m.most - (m.size : Int)) = m.most - (m.size : Int) := IntWalk.i64_in _ (by omega)
    clear h2 e1 e2 z1 z2 z3
    by_cases hov : m.most < (m.size : Int) + S
    · have HE : Hid (endLine m = fail m 101) := Lib.hid (by rw [hend.out, if_neg (by omega), if_pos hov])
      rw [HE.out, errN_fail]
      have HP : Hid (∀ w', CS w F w' F g m.most r v → CSF w F w' g m.most (fail m 101)) := Lib.hid (fun w' k => ⟨F, r, v, k, f.out.ref, fun hg => by cases hg⟩)
      have hsz := f.out.size
      have hov2 : m.most - (m.size : Int) < S := by omega
      clear hov
      have hov := hov2
      clear hov2
      rw [← kw] at hov
      generalize (m.size : Int) = z at *
      generalize m.most = most at *
      clear hend kw
      go_enter Tryd.func26, Tryd.ntmps26
      go_wp2_with fail
      refine HC.out.mono ?_
      rintro e w1 ⟨rfl, hb1⟩
      go_wp2_with fail
      refine (HH.out _).mono ?_
      rintro e w2 ⟨rfl, rfl⟩
      replace HS := Lib.hid (HS.out.call hb1)
      have d0 := HS.out.cod.c0
      have d1 := HS.out.cod.c1
      rw [hsz] at d1
      clear hb1 HC HH hsz
      go_wp2_with fail
      go_quiet (fail)
      go_wp2_with fail
      go_ret
      exact ⟨rfl, HP.out _ (HS.out.call ⟨rfl, rfl, rfl, Nat.le_refl _, fun _ _ => rfl⟩)⟩
    · have HE : Hid (endLine m = if S = 0 then goOn m (.trail 0) else goOn m (.data S.toNat)) := Lib.hid (by rw [hend.out, if_neg (by omega), if_neg hov])
      have hsz := f.out.size
      have hov0 : ¬ m.most - (m.size : Int) < S := by omega
      clear hov
      have hov := hov0
      rw [← kw] at hov
      have k3 := hov0
      by_cases h0 : S = 0
      · have HG : Hid (∀ w', CS w F w' F g m.most { r with left := S, next := 3 } v → CSF w F w' g m.most (goOn m (.trail 0))) := Lib.hid (fun w' k =>
          ⟨F, _, v, k, f.out.ref, fun _ => ⟨f.out.size, rfl, fun n hn => (by cases hn), f.out.line, f.out.part, f.out.cr, fun n hn => (by cases hn; exact ht), fun _ => ht⟩⟩)
        rw [HE.out, if_pos h0, show errN (goOn m (.trail 0)) = 0 from rfl]
        generalize (m.size : Int) = z at *
        generalize m.most = most at *
        replace h0 := Lib.hid h0
        clear hend kw hov0 f HE
        go_enter Tryd.func26, Tryd.ntmps26
        go_wp2_with fail
        refine HC.out.mono ?_
        rintro e w1 ⟨rfl, hb1⟩
        go_wp2_with fail
        refine (HH.out _).mono ?_
        rintro e w2 ⟨rfl, rfl⟩
        replace HS := Lib.hid (HS.out.call hb1)
        have d0 := HS.out.cod.c0
        have d1 := HS.out.cod.c1
        rw [hsz] at d1
        have HD : Hid (∀ W, (∃ n, w1.drewN n = W) → CS w F W F g most r v) := Lib.hid (fun W ⟨n, hn⟩ => by rw [← hn]; exact HS.out.call ⟨rfl, rfl, rfl, Nat.le_refl _, fun _ _ => rfl⟩)
        clear hb1 HC HH
        go_wp2_with fail
        go_quiet (fail)
        generalize hW : w1.drewN _ = W
        replace HD := Lib.hid (HD.out W ⟨_, hW⟩)
        have q3 := HD.out.cod.c3
        have q2 := HD.out.cod.c2
        have z3 := HD.out.cod.free 3
        have z2 := HD.out.cod.free 2
        clear hW HS d0 d1
        obtain rfl := h0.out
        have hov3 : decide (IntKind.i64.wrap (most - z) < 0) = false := decide_eq_false (Int.not_lt.2 hov)
        clear h1 h0
        rw [hov3]
        clear hov hov3
        go_wp2_with fail
        go_ret
        refine ⟨rfl, HG.out _ ?_⟩
        exact ((HD.out.set 3 (.int .i64 0) { r with left := 0 } rfl rfl).set 2 (.int .i64 1) { r with left := 0, next := 1 } rfl rfl).set 2 (.int .i64 3) { r with left := 0, next := 3 } rfl rfl
      · have hS1 : 0 < S := by omega
        have HG : Hid (∀ w', CS w F w' F g m.most { r with left := S, next := 1 } v → CSF w F w' g m.most (goOn m (.data S.toNat))) := Lib.hid (fun w' k =>
          ⟨F, _, v, k, f.out.ref, fun _ => ⟨f.out.size, rfl, fun n hn => (by cases hn; show S = (S.toNat : Int); omega), f.out.line, f.out.part, f.out.cr, fun n hn => (by cases hn), fun _ => ht⟩⟩)
        rw [HE.out, if_neg h0, show errN (goOn m (.data S.toNat)) = 0 from rfl]
        generalize (m.size : Int) = z at *
        generalize m.most = most at *
        clear hend kw hov0 f HE
        go_enter Tryd.func26, Tryd.ntmps26
        go_wp2_with fail
        refine HC.out.mono ?_
        rintro e w1 ⟨rfl, hb1⟩
        go_wp2_with fail
        refine (HH.out _).mono ?_
        rintro e w2 ⟨rfl, rfl⟩
        replace HS := Lib.hid (HS.out.call hb1)
        have d0 := HS.out.cod.c0
        have d1 := HS.out.cod.c1
        rw [hsz] at d1
        have HD : Hid (∀ W, (∃ n, w1.drewN n = W) → CS w F W F g most r v) := Lib.hid (fun W ⟨n, hn⟩ => by rw [← hn]; exact HS.out.call ⟨rfl, rfl, rfl, Nat.le_refl _, fun _ _ => rfl⟩)
        clear hb1 HC HH
        go_wp2_with fail
        go_quiet (fail)
        generalize hW : w1.drewN _ = W
        replace HD := Lib.hid (HD.out W ⟨_, hW⟩)
        have q3 := HD.out.cod.c3
        have q2 := HD.out.cod.c2
        have z3 := HD.out.cod.free 3
        have z2 := HD.out.cod.free 2
        clear hW HS d0 d1
        go_wp2_with fail
        go_ret
        refine ⟨rfl, HG.out _ ?_⟩
        exact (HD.out.set 3 (.int .i64 S) { r with left := S } rfl rfl).set 2 (.int .i64 1) { r with left := S, next := 1 } rfl rfl
set_option maxHeartbeats 1600000 in
theorem petrail_any {w : World} {F : Nat → Prop} {g : Nat} {r : Raw} {v : Value} {m : M} {n : Nat} (h : Cod w F g m.most r v) (f : Fresh r m.size) (hn : r.next = 3) (ht : r.trail = n) (hph : m.ph = .trail n) (hle : n ≤ 32) (L : ByteArray) (hL : toL L = m.line) (hsz : L.size ≤ 512) :
    Calls Tryd.prog 27 #[.pointer (some ⟨g, 0, none⟩), .string L] w fun e w' => e = .returned (.int .i64 (errN (endLine m))) ∧ CSF w F w' g m.most (endLine m) := by
  have HS := Lib.hid (CS.start h)
  have hend : endLine m = if toL L = [] then goOn m .done else if (field8 (toL L)).2 ≠ 0 ∨ n = 32 then fail m 100 else goOn m (.trail (n + 1)) := by
    rw [hL]
    unfold endLine
    rw [hph]
  have z2 := h.free 2
  have z7 := h.free 7
  have d2 := h.c2
  by_cases h0 : L.size = 0
  · have h1 : L.toList = [] := by
      rw [ByteArray.toList_eq]
      exact List.length_eq_zero_iff.1 (by rw [← h0]; exact toL_length L)
    have h2 : L.toList.isEmpty = true := by rw [h1]; rfl
    rw [if_pos (show toL L = [] by rw [ByteArray.toList_eq] at h1; exact h1)] at hend
    rw [hend, show errN (goOn m .done) = 0 from rfl]
    replace f := Lib.hid f
    clear hend hL hsz h
    go_enter Tryd.func27, Tryd.ntmps27
    go_wp2_with fail
    go_ret
    refine ⟨rfl, F, _, v, HS.out.set 2 (.int .i64 4) { r with next := 4 } rfl rfl, f.out.ref, fun _ => ⟨f.out.size, rfl, fun n hn => (by cases hn), f.out.line, f.out.part, f.out.cr, fun n hn => (by cases hn), fun h => ?_⟩⟩
    exact absurd h (by show ¬ (4 : Int) ≤ 2; decide)
  · have h1 : ¬ L.toList = [] := fun h => by
      rw [ByteArray.toList_eq] at h
      have h2 := toL_length L
      rw [show toL L = [] from h] at h2
      simp at h2
      omega
    have h2 : L.toList.isEmpty = false := by
      cases h : L.toList with
      | nil => exact absurd h h1
      | cons => rfl
    rw [if_neg (show ¬ toL L = [] by rw [ByteArray.toList_eq] at h1; exact h1)] at hend
    generalize hE : endLine m = E at hend ⊢
    clear hE
    have HF := Lib.hid (fun w => pfield_any L (by omega) w)
    generalize field8 (toL L) = x at *
    obtain ⟨⟨x1, x2⟩, er⟩ := x
    unfold frv fv at HF
    dsimp only at HF hend
    replace f := Lib.hid f
    replace hend := Lib.hid hend
    clear hL hsz h h0 z2 z7 d2
    go_enter Tryd.func27, Tryd.ntmps27
    go_wp2_with fail
    refine (HF.out _).mono ?_
    rintro e w1 ⟨rfl, hb1⟩
    replace hb1 := Lib.hid hb1
    clear HF h1 h2
    dsimp only
    iterate 12 go_step
    have HB := Lib.hid (FOne.start w1)
    generalize w1.alloc (.cells #[.string ⟨#[]⟩, .string ⟨#[]⟩] 68) = W at HB ⊢
    obtain ⟨B, hB⟩ : ∃ B, B = w1.heap.size := ⟨_, rfl⟩
    rw [← hB] at HB ⊢
    obtain ⟨e0, e1⟩ := HB.out.box.cells
    obtain ⟨u0, u1⟩ := HB.out.box.frees
    have HQ : Hid (CS w F (fput W B (x1, x2)) F g m.most r v) := Lib.hid (HS.out.call (below_chain hb1.out (HB.out.put (x1, x2))))
    have q7 := HQ.out.cod.c7
    have z7 := HQ.out.cod.free 7
    rw [ht] at q7
    unfold fput at HQ q7 z7
    dsimp only at HQ q7 z7
    replace hB := Lib.hid hB
    clear HB HS hb1
    by_cases he : er = 0
    · subst he
      have hno : ((0 : Int) != 0) = false := rfl
      by_cases h32 : n = 32
      · have HE : Hid (E = fail m 100) := Lib.hid (by rw [hend.out, if_pos (.inr h32)])
        have hni : (n : Int) = 32 := by omega
        have HP : Hid (∀ w', CS w F w' F g m.most r v → CSF w F w' g m.most (fail m 100)) := Lib.hid (fun w' k => ⟨F, r, v, k, f.out.ref, fun hg => by cases hg⟩)
        clear hend
        go_wp2_with fail
        go_ret
        rw [HE.out]
        exact ⟨rfl, HP.out _ HQ.out⟩
      · have HE : Hid (E = goOn m (.trail (n + 1))) := Lib.hid (by rw [hend.out, if_neg (by intro h; rcases h with h | h; exact h rfl; exact h32 h)])
        have hni : ¬ (n : Int) = 32 := by omega
        clear hend
        go_wp2_with fail
        go_ret
        rw [HE.out]
        refine ⟨rfl, F, _, v, HQ.out.set 7 (.int .i64 ((n : Int) + 1)) { r with trail := (n : Int) + 1 } rfl rfl, f.out.ref, fun _ => ⟨f.out.size, hn, fun n hn => (by cases hn), f.out.line, f.out.part, f.out.cr, fun k hk => (by cases hk; rfl), fun h => ?_⟩⟩
        have : r.next ≤ 2 := h
        omega
    · have hno : (er != 0) = true := bne_iff_ne.2 he
      have HE : Hid (E = fail m 100) := Lib.hid (by rw [hend.out, if_pos (.inl he)])
      have HP : Hid (∀ w', CS w F w' F g m.most r v → CSF w F w' g m.most (fail m 100)) := Lib.hid (fun w' k => ⟨F, r, v, k, f.out.ref, fun hg => by cases hg⟩)
      clear hend he
      go_wp2_with fail
      go_ret
      rw [HE.out]
      exact ⟨rfl, HP.out _ HQ.out⟩
end Go.Proofs.YtlgohmghjffiaaaDoor.PChEnd
