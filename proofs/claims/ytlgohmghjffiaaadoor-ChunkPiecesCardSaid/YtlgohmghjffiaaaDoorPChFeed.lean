/- Layer 10 of the program: Feed. -/
import Derived.Test.YtlgohmghjffiaaaDoorPChStr
import Derived.Deep.RegionHeld3
import Derived.Laws.DeepStrings4
namespace Go.Proofs.YtlgohmghjffiaaaDoor.ChunkObj
open Go.ChangeShapes Go.WideShapes Go.ChangeAt Go.RowKit Bytes LexPure LexNum HeadPure ChunkPure ChunkText ChObj Mem Step Ret Rows1 PChLine PBuildT PChPart PChStr
set_option maxRecDepth 20000
theorem results_tmp4 {fn : Func} {t u v x : Tmp} (h : fn.results = #[.tmp t, .tmp u, .tmp v, .tmp x]) (tmps : Array Value) (P : Program) (w : World) :
    (results fn tmps).run P w = .ok (.tuple #[tmps.getD t undef, tmps.getD u undef, tmps.getD v undef, tmps.getD x undef]) w := by
  simp [results, h]
/-- while a chunk's bytes are read there is no line -/
def Bare (m : M) : Prop := ∀ n, m.ph = .data n → m.line = [] ∧ n < 4294967296
theorem Bare.start (most : Int) : Bare (begin_ most) := fun n h => by cases h
theorem Bare.fail (m : M) (e : Int) : Bare (fail m e) := fun n h => by cases h
theorem Bare.line {m : M} (h : Bare m) (c : UInt8) : Bare (lineStep m c) := by
  unfold lineStep
  split
  · split
    · unfold endLine
      split
      · split
        · exact Bare.fail _ _
        · split
          · exact Bare.fail _ _
          · split
            · exact fun n h => by cases h
            · intro n hn
              refine ⟨rfl, ?_⟩
              have hn2 : Ph.data (sizeL m.line).toNat = Ph.data n := hn
              injection hn2 with hn3
              rcases PChEnd.sizeL_say m.line with ⟨_, q⟩ | ⟨_, _, _, q⟩ <;> omega
      · exact fun n h => by cases h
      · split
        · exact fun n h => by cases h
        · split
          · exact Bare.fail _ _
          · exact fun n h => by cases h
      · exact h
    · exact Bare.fail _ _
  · split
    · exact h
    · split
      · rename_i hf
        intro n hn
        exfalso
        have hn2 : m.ph = .data n := hn
        unfold fits at hf
        rw [hn2] at hf
        cases hf
      · exact Bare.fail _ _
theorem Bare.more {m : M} (h : Bare m) {k : Nat} (hp : m.ph = .data k) (n : Nat) : Bare (more m k n) := by
  intro j hj
  obtain ⟨h1, h2⟩ := h k hp
  refine ⟨h1, ?_⟩
  have hj2 : (if n = k then Ph.after else Ph.data (k - n)) = Ph.data j := hj
  split at hj2
  · cases hj2
  · injection hj2 with hj3
    omega
/-- block g, and those of F, hold a decoder that stands at m -/
structure Dec (w : World) (F : Nat → Prop) (g : Nat) (m : M) : Prop where
  is : ∃ r v, Cod w F g m.most r v ∧ r.ref = errN m ∧ (good m = true → Rel r m)
  told : ChunkPure.Told m
  bare : Bare m
  range : InR m.most
/-- k bytes of s have been read -/
structure Mid (w : World) (F : Nat → Prop) (g : Nat) (m : M) (s : ByteArray) (b k : Nat) (m' : M) (acc : List UInt8) (F' : Nat → Prop) (r : Raw) (v : Value) (W : World) : Prop where
  cs : CS w F W F' g m'.most r v
  ref : r.ref = errN m'
  rel : good m' = true → Rel r m'
  told : ChunkPure.Told m'
  bare : Bare m'
  ok : Ok m'
  ran : ChunkPure.run m ((toL s).take k) = (m', acc, k)
  size : m'.size ≤ m.size + k
  bl : Bl w.heap.size b acc F' W
  range : InR m'.most
def MidF (w : World) (F : Nat → Prop) (g : Nat) (m : M) (s : ByteArray) (b k : Nat) (W : World) : Prop := ∃ m' acc F' r v, Mid w F g m s b k m' acc F' r v W
section
variable {w W : World} {F F' : Nat → Prop} {g b k : Nat} {m m' : M} {s : ByteArray} {acc : List UInt8} {r : Raw} {v : Value}
theorem Mid.start (h : Dec w F g m) (hok : Ok m) (s : ByteArray) : MidF w F g m s w.heap.size 0 (w.alloc (.cells #[.pointer none, .slice none 0 0] 42)) := by
  obtain ⟨r, v, h1, h2, h3⟩ := h.is
  exact ⟨m, [], F, r, v, (CS.start h1).call ((Below.refl _ _).alloc (Nat.le_refl _) _), h2, h3, h.told, h.bare, hok, by rw [List.take_zero]; rfl, Nat.le_refl _, Bl.start w h1.lt, h.range⟩
/-- the bytes of a chunk -/
theorem Mid.data (h : Mid w F g m s b k m' acc F' r v W) {left n : Nat} (hp : m'.ph = .data left) (hn : n ≤ left) (h0 : 0 < n) (hk : k + n ≤ s.size) {W1 w2 : World} {r2 : Raw}
    (hb : Below w.heap.size W W1) (hg : g < w.heap.size) (hbl : Bl w.heap.size b (acc ++ ((toL s).drop k).take n) (fun k => k = g) W1) (hc : CS W1 (fun k => k = g) w2 (fun k => k = g) g m'.most r2 v) (ho : Out r2 (more m' left n)) :
    Mid w F g m s b (k + n) (more m' left n) (acc ++ ((toL s).drop k).take n) (fun k => k = g) r2 v w2 := by
  have hgd : good m' = true := by unfold good; rw [hp]
  have hl : (((toL s).drop k).take n).length = n := by rw [List.length_take, List.length_drop, toL_length]; omega
  have hr := run_more (m := m') (l := ((toL s).drop k).take n) hp (by rw [hl]; exact hn) (fun e => by rw [e] at hl; simp at hl; omega)
  rw [hl] at hr
  have hran : ChunkPure.run m ((toL s).take (k + n)) = (more m' left n, acc ++ ((toL s).drop k).take n, k + n) := by
    rw [List.take_add, run_append, h.ran]
    simp only
    rw [hr]
  have hok : Ok (more m' left n) := by
    have := h.ok.run (((toL s).drop k).take n)
    rw [hr] at this
    exact this
  have hgm : good (more m' left n) = true := by
    unfold more good
    by_cases e : n = left
    · simp only [if_pos e]
    · simp only [if_neg e]
  exact ⟨(CS.write h.cs (by rw [(h.rel hgd).line]; exact (h.bare left hp).1) hg hb).then hc, by rw [ho.ref, errN_good hgm], ho.rel, (by have := h.told.run (((toL s).drop k).take n); rw [hr] at this; exact this), h.bare.more hp n, hok, hran, by
    have := h.size
    show m'.size + n ≤ _
    omega, hbl.step hc.step, h.range⟩
/-- a byte of a line -/
theorem Mid.byte (h : Mid w F g m s b k m' acc F' r v W) (hs : stop m' = false) (hnd : ∀ n, m'.ph ≠ .data n) (hk : k < s.size) {w2 : World} (hc : CSF W F' w2 g m'.most (lineStep m' s[k])) :
    MidF w F g m s b (k + 1) (w2.setCell ⟨g, 8, none⟩ (.int .i64 (errN (lineStep m' s[k])))) := by
  obtain ⟨F2, r2, v2, k1, k2⟩ := hc
  have hbs : bstep m' s[k] = (lineStep m' s[k], []) := by
    unfold bstep
    split
    · rename_i q
      exact absurd q (hnd _)
    · rename_i q
      unfold stop at hs
      rw [q] at hs
      cases hs
    · rename_i q
      unfold stop at hs
      rw [q] at hs
      cases hs
    · rfl
  have hz := step_size m' s[k]
  rw [hbs] at hz
  have hst := k1.set 8 (.int .i64 (errN (lineStep m' s[k]))) { r2 with ref := errN (lineStep m' s[k]) } rfl rfl
  have hmost : m'.most = (lineStep m' s[k]).most := hz.2.symm
  have h1 := told_step h.told s[k]
  have h2 := h.ok.lineStep s[k]
  rw [hbs] at h1
  refine ⟨lineStep m' s[k], acc, F2, { r2 with ref := errN (lineStep m' s[k]) }, v2, ?_, rfl, fun hg => ?_, h1, h.bare.line _, h2, ?_, ?_, h.bl.step hst.step, by rw [← hmost]; exact h.range⟩
  · have := h.cs.then hst
    rw [hmost] at this
    exact this
  · have q := k2.rel hg
    exact ⟨q.size, q.next, q.left, q.line, q.part, q.cr, q.trail, q.none⟩
  · rw [toL_take_succ s k hk, run_append, h.ran]
    simp only
    rw [run_cons hs, hbs]
    simp [ChunkPure.run]
  · have := h.size
    have h3 : (lineStep m' s[k]).size = m'.size := by rw [hz.1]; rfl
    omega
/-- the end -/
theorem Mid.fin (h : Mid w F g m s b k m' acc F' r v W) (he : k = s.size ∨ stop m' = true) : ChunkPure.run m (toL s) = (m', acc, k) := by
  rcases he with e | e
  · have := h.ran
    rw [toL_take_all s (by omega)] at this
    exact this
  · have := run_append m ((toL s).take k) ((toL s).drop k)
    rw [List.take_append_drop, h.ran] at this
    simp only at this
    rw [run_stop e] at this
    rw [this]
    simp
theorem fin_good {l : List UInt8} (h : ChunkPure.run m l = (m', acc, k)) (hg : good m' = true) : ans m l = (acc, k, whole m', 0) ∧ next m l = m' := by
  have hg2 : good (ChunkPure.run m l).1 = true := by rw [h]; exact hg
  refine ⟨?_, by unfold next; rw [h]⟩
  rw [ans_good hg2, h]
theorem fin_bad {l : List UInt8} (h : ChunkPure.run m l = (m', acc, k)) (hg : good m' = false) : ans m l = ([], 0, false, errN m') ∧ next m l = m' := by
  have hg2 : good (ChunkPure.run m l).1 = false := by rw [h]; exact hg
  refine ⟨?_, by unfold next; rw [h]⟩
  obtain ⟨e, h1, h2⟩ := ans_bad hg2
  rw [h2]
  rw [h] at h1
  unfold errN
  rw [h1]
end
/-- what Feed answers -/
def ansV (r : List UInt8 × Nat × Bool × Int) : Value := .tuple #[.string (ofL r.1), .int .i64 (r.2.1 : Nat), .bool r.2.2.1, .int .i64 r.2.2.2]
/-- a decoder that read on -/
def FedD (w w' : World) (F : Nat → Prop) (g : Nat) (m : M) : Prop := ∃ F', Dec w' F' g m ∧ Step w w' F F'
theorem Mid.fed {w W : World} {F F' : Nat → Prop} {g b k : Nat} {m m' : M} {s : ByteArray} {acc : List UInt8} {r : Raw} {v : Value} (h : Mid w F g m s b k m' acc F' r v W) : FedD w W F g m' :=
  ⟨F', ⟨⟨r, v, h.cs.cod, h.ref, h.rel⟩, h.told, h.bare, h.range⟩, h.cs.step⟩
theorem Dec.step {w w' : World} {F G G' : Nat → Prop} {g : Nat} {m : M} (h : Dec w F g m) (hs : Step w w' G G') (hf : ∀ k, F k → ¬ G k) : Dec w' F g m := by
  obtain ⟨r, v, h1, h2⟩ := h.is
  exact ⟨⟨r, v, h1.far hs hf, h2⟩, h.told, h.bare, h.range⟩
theorem FedD.more {w W W' : World} {F G : Nat → Prop} {g : Nat} {m : M} (h : FedD w W F g m) (hs : Step W W' G G) (hG : ∀ k, ¬ G k) : FedD w W' F g m := by
  obtain ⟨F', h1, h2⟩ := h
  exact ⟨F', h1.step hs (fun k _ => hG k), h2.beyond hs (fun j hj => absurd hj (hG j))⟩
theorem Mid.out {w W W' : World} {F F' G : Nat → Prop} {g b k : Nat} {m m' : M} {s : ByteArray} {acc : List UInt8} {r : Raw} {v : Value} (h : Mid w F g m s b k m' acc F' r v W) (hs : Step W.drew W' G G) (hG : ∀ k, G k → w.heap.size ≤ k ∧ ¬ F' k) : FedD w W' F g m' :=
  have h2 : Step W W' G G := (Step.drew W G).trans hs
  ⟨F', ⟨⟨r, v, h.cs.cod.far h2 (fun k hk hk2 => (hG k hk2).2 hk), h.ref, h.rel⟩, h.told, h.bare, h.range⟩, h.cs.step.beyond h2 (fun j hj => (hG j hj).1)⟩
theorem ph_whole {m : M} (hg : good m = true) : (stop m = true → phN m.ph = 4 ∧ whole m = true) ∧ (stop m = false → (phN m.ph = 0 ∨ phN m.ph = 1 ∨ phN m.ph = 2 ∨ phN m.ph = 3) ∧ whole m = false) := by
  unfold stop whole phN
  unfold good at hg
  cases h : m.ph <;> simp_all
set_option maxHeartbeats 3200000 in
theorem pfeed_any (F : Nat → Prop) (g : Nat) (m : M) (s : ByteArray) (hs : s.size ≤ 211106232532992) (hroom : s.size ≤ 140737488351232 ∨ m.most ≤ 140737488351232) (hok : Ok m) (w : World) (hD : Dec w F g m) :
    Calls Tryd.prog 9 #[.pointer (some ⟨g, 0, none⟩), .string s] w fun e w' => e = .returned (ansV (ans m (toL s))) ∧ FedD w w' F g (next m (toL s)) := by
  have hg : g < w.heap.size := by obtain ⟨r, v, h1, _⟩ := hD.is; exact h1.has.lt
  have HX := Lib.hid (Mid.start hD hok s)
  have HE : Hid (∀ m' acc k, ChunkPure.run m (toL s) = (m', acc, k) → (good m' = true → ans m (toL s) = (acc, k, whole m', 0) ∧ next m (toL s) = m') ∧ (good m' = false → ans m (toL s) = ([], 0, false, errN m') ∧ next m (toL s) = m')) := Lib.hid (fun m' acc k h => ⟨fin_good h, fin_bad h⟩)
  generalize ans m (toL s) = A at *
  generalize next m (toL s) = N at *
  obtain ⟨b, hb⟩ : ∃ b, b = w.heap.size := ⟨_, rfl⟩
  go_enter Tryd.func9, Tryd.ntmps9
  go_wp2_with fail
  generalize w.alloc (.cells #[.pointer none, .slice none 0 0] 42) = W0 at HX ⊢
  rw [← hb] at HX ⊢
  replace hb := Lib.hid hb
  clear hD hok
  go_loopw [9] (fun i wr => ∃ (k : Nat), k ≤ s.size ∧ i = .int .i64 k ∧ Hid (MidF w F g m s b k wr)) (fun i _ => s.size - (intOf i).toNat)
  case atStart => exact ⟨0, Nat.zero_le _, rfl, HX⟩
  case round =>
    obtain ⟨k, hk, rfl, HI⟩ := hrel
    clear HX
    obtain ⟨m', acc, F', r, v, hM⟩ := HI.out
    clear HI
    by_cases hgd : good m' = true
    · have hrel := hM.rel hgd
      have d8 := hM.cs.cod.c8
      rw [hM.ref, errN_good hgd] at d8
      have d2 := hM.cs.cod.c2
      rw [hrel.next] at d2
      have z8 := hM.cs.cod.free 8
      by_cases hend : k = s.size ∨ stop m' = true
      · have hfin := (HE.out m' acc k (hM.fin hend)).1 hgd
        obtain ⟨hA, hN⟩ := hfin
        have HB : Hid (Bl w.heap.size b acc F' wr.drew) := Lib.hid (hM.bl.step (Step.drew wr F'))
        have HO : Hid (∀ W' G, Step wr.drew W' G G → (∀ k, G k → w.heap.size ≤ k ∧ ¬ F' k) → FedD w W' F g N) := Lib.hid (fun W' G hs hG => by rw [hN]; exact hM.out hs hG)
        have HCc : Hid (∀ W' G, Step wr.drew W' G G → (∀ k, G k → w.heap.size ≤ k ∧ ¬ F' k) → W'.cell? ⟨g, 2, none⟩ = wr.drew.cell? ⟨g, 2, none⟩) := Lib.hid (fun W' G hs hG => hs.cell (b := g) (i := 2) hM.cs.cod.has.lt (fun h => by have := (hG g h).1; omega))
        have c1 : wr.drew.cell? ⟨g, 2, none⟩ = some (.int .i64 (phN m'.ph)) := d2
        obtain ⟨p1, p2⟩ := ph_whole hgd
        have HE2 : Hid ((phN m'.ph = 4 ∧ whole m' = true) ∨ (k = s.size ∧ (phN m'.ph = 0 ∨ phN m'.ph = 1 ∨ phN m'.ph = 2 ∨ phN m'.ph = 3) ∧ whole m' = false)) := Lib.hid (by
          cases q : stop m' with
          | true => exact .inl (p1 q)
          | false =>
            refine .inr ⟨?_, p2 q⟩
            rcases hend with h | h
            · exact h
            · rw [q] at h; cases h)
        replace hA := Lib.hid hA
        generalize phN m'.ph = x at *
        generalize whole m' = wh at *
        clear hrel hend hgd hM HE hN p1 p2 z8
        rcases HE2.out with ⟨rfl, rfl⟩ | ⟨rfl, hx, rfl⟩
        · clear HE2
          rcases Nat.lt_or_ge k s.size with hlt | hge
          · have hki : (k : Int) < (s.size : Int) := by omega
            go_wp2_with fail
            go_region_held3 (fun w' => w'.cell? ⟨g, 2, none⟩ = some (.int .i64 4)) (first | exact c2 | exact c1)
              (first
                | (go_at_call 18; refine (PChStr.Bl.text HB.out).mono ?_; rintro e w1 ⟨rfl, G, hG, hGG⟩
                   have c2 := (HCc.out w1 G hG hGG).trans c1
                   replace HO := Lib.hid (HO.out w1 G hG hGG)
                   clear hG hGG HB HCc))
            go_wp2_with fail
            (try simp only [Exit.inBlock, Exit.then]); refine bodyPost_ret (results_tmp4 rfl _ _ _) rfl ?_
            exact ⟨by rw [hA.out]; rfl, HO.out⟩
          · have hki : ¬ (k : Int) < (s.size : Int) := by omega
            go_wp2_with fail
            go_region_held3 (fun w' => w'.cell? ⟨g, 2, none⟩ = some (.int .i64 4)) (first | exact c2 | exact c1)
              (first
                | (go_at_call 18; refine (PChStr.Bl.text HB.out).mono ?_; rintro e w1 ⟨rfl, G, hG, hGG⟩
                   have c2 := (HCc.out w1 G hG hGG).trans c1
                   replace HO := Lib.hid (HO.out w1 G hG hGG)
                   clear hG hGG HB HCc))
            go_wp2_with fail
            (try simp only [Exit.inBlock, Exit.then]); refine bodyPost_ret (results_tmp4 rfl _ _ _) rfl ?_
            exact ⟨by rw [hA.out]; rfl, HO.out⟩
        · clear HE2
          have hx4 : (x == 4) = false := by rw [beq_eq_false_iff_ne]; omega
          have hx5 : ¬ x = 4 := by omega
          clear hx
          go_wp2_with fail
          go_region_held3 (fun w' => w'.cell? ⟨g, 2, none⟩ = some (.int .i64 x)) (first | exact c2 | exact c1)
            (first
              | (go_at_call 18; refine (PChStr.Bl.text HB.out).mono ?_; rintro e w1 ⟨rfl, G, hG, hGG⟩
                 have c2 := (HCc.out w1 G hG hGG).trans c1
                 replace HO := Lib.hid (HO.out w1 G hG hGG)
                 clear hG hGG HB HCc))
          go_wp2_with fail
          (try simp only [Exit.inBlock, Exit.then]); refine bodyPost_ret (results_tmp4 rfl _ _ _) rfl ?_
          exact ⟨by rw [hA.out]; rfl, HO.out⟩
      · have hlt : k < s.size := by rcases Nat.lt_or_ge k s.size with h | h; exact h; exact absurd (.inl (by omega)) hend
        have hki : (k : Int) < (s.size : Int) := by omega
        have hst : stop m' = false := by cases q : stop m' with
          | false => rfl
          | true => exact absurd (.inr q) hend
        have hsz2 := hM.size
        by_cases hdt : ∃ left, m'.ph = .data left
        · obtain ⟨left, hp⟩ := hdt
          have d3 := hM.cs.cod.c3
          rw [hrel.left left hp] at d3
          rw [hp, show phN (.data left) = 1 from rfl] at d2
          obtain ⟨l1, _⟩ := hM.ok.left left hp
          obtain ⟨_, l2⟩ := hM.bare left hp
          obtain ⟨n, hn⟩ : ∃ n, n = min left (s.size - k) := ⟨_, rfl⟩
          have n1 : 1 ≤ n := by omega
          have n2 : n ≤ left := by omega
          have n3 : k + n ≤ s.size := by omega
          have hmin : min ((k : Int) + (left : Int)) (s.size : Int) = (k : Int) + (n : Int) := by omega
          have n1i : (0 : Int) ≤ (n : Int) := by omega
          have n3i : (k : Int) + (n : Int) ≤ (s.size : Int) := by omega
          have l2i : (left : Int) ≤ 4294967295 := by omega
          have hq := run_size m ((toL s).take k)
          rw [hM.ran] at hq
          dsimp only at hq
          have hroom2 : acc.length + n ≤ 140737488355328 := by
            rcases hroom with h | h
            · have := (run_used m ((toL s).take k)).2.1
              rw [hM.ran] at this
              dsimp only at this
              omega
            · have := (hM.ok.left left hp).2
              omega
          obtain ⟨P, hP⟩ : ∃ P, P = s.extract k (k + n) := ⟨_, rfl⟩
          have sP : P.size = n := by rw [hP, ByteArray.size_extract]; omega
          have tP : toL P = ((toL s).drop k).take n := by rw [hP, toL_extract, List.drop_take, show k + n - k = n by omega]
          have HW := Lib.hid (hM.bl.write hg P (by rw [sP]; exact hroom2))
          rw [tP] at HW
          have HM := Lib.hid hM
          have hr0 : r.line = [] := by rw [hrel.line]; exact (hM.bare left hp).1
          have hrf : r.ref = 0 := by rw [hM.ref, errN_good hgd]
          have HCn : Hid (∀ W1, Below w.heap.size wr W1 → Calls Tryd.prog 16 #[.pointer (some ⟨g, 0, none⟩), .int .i64 n] W1 fun e w' => e = .returned (.tuple #[]) ∧ ∃ r', CS W1 (fun k => k = g) w' (fun k => k = g) g m'.most r' v ∧ Out r' (more m' left n)) :=
            Lib.hid (fun W1 hb1 => pcount_any (CS.write hM.cs hr0 hg hb1).cod hrel hrf hp n2 l2 (by have q1 := (hM.ok.left left hp).2; have q2 := hM.range.2; omega))
          have HNx : Hid (∀ W1 w2 r2, Below w.heap.size wr W1 → Bl w.heap.size b (acc ++ ((toL s).drop k).take n) (fun k => k = g) W1 → CS W1 (fun k => k = g) w2 (fun k => k = g) g m'.most r2 v → Out r2 (more m' left n) → MidF w F g m s b (k + n) w2) :=
            Lib.hid (fun W1 w2 r2 h1 h2 h3 h4 => ⟨_, _, _, _, _, hM.data hp n2 (by omega) n3 h1 hg h2 h3 h4⟩)
          replace hP := hP.symm
          rw [sP] at HW
          clear hend hM hq hroom hroom2 HE hp hrel hgd hn tP hr0 hrf HM l1 l2 z8
          go_wp2_with fail
          refine HW.out.mono ?_
          rintro e W1 ⟨rfl, hb1, hB1⟩
          replace HCn := Lib.hid (HCn.out W1 hB1)
          replace HNx := Lib.hid (fun w2 r2 => HNx.out W1 w2 r2 hB1 hb1)
          clear HW hb1 hB1 d2 d3 d8 hP
          go_wp2_with fail
          refine HCn.out.mono ?_
          rintro e w2 ⟨rfl, r2, hc, ho⟩
          have HQ := Lib.hid (HNx.out w2 r2 hc ho)
          clear HCn HNx hc ho
          go_wp2_with fail
          go_roundw
          case rel => exact ⟨k + n, by omega, by go_num, HQ⟩
          case measure => simp [intOf]; omega
        · have hnd : ∀ n, m'.ph ≠ .data n := fun n h => hdt ⟨n, h⟩
          have hph : m'.ph = .size ∨ m'.ph = .after ∨ ∃ n, m'.ph = .trail n ∧ n ≤ 32 := by
            cases q : m'.ph with
            | size => exact .inl rfl
            | after => exact .inr (.inl rfl)
            | trail n => exact .inr (.inr ⟨n, rfl, hM.ok.trail n q⟩)
            | data n => exact absurd q (hnd n)
            | done => unfold stop at hst; rw [q] at hst; cases hst
            | bad e => unfold stop at hst; rw [q] at hst; cases hst
          have hx : phN m'.ph = 0 ∨ phN m'.ph = 2 ∨ phN m'.ph = 3 := by
            rcases hph with h | h | ⟨n, h, _⟩ <;> (rw [h]; unfold phN; simp)
          have hrf : r.ref = 0 := by rw [hM.ref, errN_good hgd]
          have HR := Lib.hid (prbyte_any hM.cs.cod hrel hrf hph hM.ok.line ⟨hM.range, hM.ok.most⟩ s[k])
          have HNx : Hid (∀ w2, CSF wr F' w2 g m'.most (lineStep m' s[k]) → MidF w F g m s b (k + 1) (w2.setCell ⟨g, 8, none⟩ (.int .i64 (errN (lineStep m' s[k]))))) := Lib.hid (fun w2 hc => hM.byte hst hnd hlt hc)
          generalize lineStep m' s[k] = m2 at *
          generalize phN m'.ph = x at *
          have hx1 : (x == 1) = false := by rw [beq_eq_false_iff_ne]; omega
          have hx4 : (x == 4) = false := by rw [beq_eq_false_iff_ne]; omega
          have hx1n : ¬ x = 1 := by omega
          have hx4n : ¬ x = 4 := by omega
          clear hend hM HE hrel hgd hrf hroom hnd hph hdt hst z8 hx
          go_wp2_with fail
          refine HR.out.mono ?_
          rintro e w2 ⟨rfl, hc⟩
          have HQ := Lib.hid (HNx.out w2 hc)
          obtain ⟨F2, r2, v2, k1, k2⟩ := hc
          have q8 := k1.cod.c8
          have z8 := k1.cod.free 8
          clear HR HNx k1 k2 d2 d8
          go_wp2_with fail
          go_roundw
          case rel => exact ⟨k + 1, by omega, by go_num, HQ⟩
          case measure => simp [intOf]; omega
    · have hgf : good m' = false := by simpa using hgd
      have hstop : stop m' = true := by rw [stop_say, hgf]; rfl
      have d8 := hM.cs.cod.c8
      rw [hM.ref] at d8
      have d2 := hM.cs.cod.c2
      obtain ⟨hA, hN⟩ := (HE.out m' acc k (hM.fin (.inr hstop))).2 hgf
      have hne : (errN m' != 0) = true := by
        unfold good at hgf
        split at hgf
        · rename_i e he
          have := hM.told e he
          unfold errN
          rw [he, bne_iff_ne]
          show e ≠ 0
          omega
        · cases hgf
      have hne2 : (errN m' == 0) = false := by rw [beq_eq_false_iff_ne]; rw [bne_iff_ne] at hne; exact hne
      have HA := Lib.hid hA
      have HD : Hid (∀ W, (∃ n, wr.drewN n = W) → FedD w W F g N) := Lib.hid (fun W ⟨n, hn⟩ => by rw [← hn, hN]; exact hM.fed.more (Step.drewN wr n (fun _ => False)) (fun _ h => h))
      generalize errN m' = er at *
      generalize r.next = nx at *
      clear hA hN hstop hgd hgf hM HE
      rcases Nat.lt_or_ge k s.size with hlt | hge
      · have hki : (k : Int) < (s.size : Int) := by omega
        by_cases hnx : nx = 4
        · subst hnx
          go_wp2_with fail
          go_quiet (fail)
          generalize hW : wr.drewN _ = W2
          replace HD := Lib.hid (HD.out W2 ⟨_, hW⟩)
          go_wp2_with fail
          (try simp only [Exit.inBlock, Exit.then]); refine bodyPost_ret (results_tmp4 rfl _ _ _) rfl ?_
          exact ⟨by rw [HA.out]; rfl, HD.out⟩
        · go_wp2_with fail
          go_quiet (fail)
          generalize hW : wr.drewN _ = W2
          replace HD := Lib.hid (HD.out W2 ⟨_, hW⟩)
          go_wp2_with fail
          (try simp only [Exit.inBlock, Exit.then]); refine bodyPost_ret (results_tmp4 rfl _ _ _) rfl ?_
          exact ⟨by rw [HA.out]; rfl, HD.out⟩
      · have hki : ¬ (k : Int) < (s.size : Int) := by omega
        go_wp2_with fail
        go_quiet (fail)
        generalize hW : wr.drewN _ = W2
        replace HD := Lib.hid (HD.out W2 ⟨_, hW⟩)
        go_wp2_with fail
        (try simp only [Exit.inBlock, Exit.then]); refine bodyPost_ret (results_tmp4 rfl _ _ _) rfl ?_
        exact ⟨by rw [HA.out]; rfl, HD.out⟩
end Go.Proofs.YtlgohmghjffiaaaDoor.ChunkObj
