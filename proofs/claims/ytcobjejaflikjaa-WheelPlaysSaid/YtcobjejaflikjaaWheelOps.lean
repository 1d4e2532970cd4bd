/- Layer 2: the wheel's calls but Next and Advance. -/
import Derived.Test.YtcobjejaflikjaaWheelMm
import Derived.Test.YtcobjejaflikjaaWheelNew
import Derived.Test.YtcobjejaflikjaaWheelDel
import Derived.BigQuiet
import Derived.Deep.QuietTactic
namespace Go.Proofs.Ytcobjejaflikjaa.WOps
open Go.RowKit Go.Maps WMath WPure Mem Step WObj WMm WLib WDel

/-- a wheel at g: its time, the timers that are set, the blocks that it holds -/
def Wh (w : World) (g now : Nat) (S : List Tm) (F : Nat → Prop) : Prop :=
  ∃ mb F0 D, Slots w g now mb S F0 ∧ Times w mb S D ∧ ¬ F0 mb ∧ (∀ k, F0 k → F k) ∧ F mb ∧ (∀ k, F k → k < w.heap.size) ∧ (S.map Prod.fst).Nodup ∧ (∀ t ∈ S, t.1 ≤ 1099511627776) ∧ S.length ≤ 4096

section
variable {w w' : World} {g now : Nat} {S : List Tm} {F : Nat → Prop}
theorem Wh.far {G G' : Nat → Prop} (h : Wh w g now S F) (s : Step w w' G G') (hn : ∀ k, F k → ¬ G k) : Wh w' g now S F := by
  obtain ⟨mb, F0, D, h1, h2, h3, h4, h5, h6, h7⟩ := h
  exact ⟨mb, F0, D, h1.far s (fun k hk => hn k (h4 k hk)), h2.far s (hn mb h5), h3, h4, h5, fun k hk => Nat.lt_of_lt_of_le (h6 k hk) s.size, h7⟩
end

/-- the timers without number x -/
def without (S : List Tm) (x : Int) : List Tm := S.filter fun t => !((t.1 : Int) == x)
def hasId (S : List Tm) (x : Int) : Bool := S.any fun t => (t.1 : Int) == x
theorem mem_without {S : List Tm} {x : Int} {t : Tm} : t ∈ without S x ↔ t ∈ S ∧ (t.1 : Int) ≠ x := by simp [without]
theorem ids_eq : ∀ {S : List Tm}, (S.map Prod.fst).Nodup → ∀ {t u : Tm}, t ∈ S → u ∈ S → t.1 = u.1 → t = u
  | [], _, _, _, h, _, _ => by cases h
  | y :: S, hn, t, u, ht, hu, he => by
    simp only [List.map_cons, List.nodup_cons, List.mem_map, not_exists, not_and] at hn
    rcases List.mem_cons.1 ht with h1 | ht
    · rcases List.mem_cons.1 hu with h2 | hu
      · rw [h1, h2]
      · exact absurd (by rw [← he, h1]) (hn.1 u hu)
    · rcases List.mem_cons.1 hu with h2 | hu
      · exact absurd (by rw [he, h2]) (hn.1 t ht)
      · exact ids_eq hn.2 ht hu he
theorem without_len : ∀ {S : List Tm}, (S.map Prod.fst).Nodup → ∀ {t : Tm}, t ∈ S → (without S (t.1 : Int)).length + 1 = S.length
  | [], _, _, h => by cases h
  | y :: S, hn, t, ht => by
    simp only [List.map_cons, List.nodup_cons, List.mem_map, not_exists, not_and] at hn
    rcases List.mem_cons.1 ht with rfl | ht
    · have e : without (t :: S) (t.1 : Int) = S := by
        unfold without
        rw [List.filter_cons_of_neg (by simp)]
        rw [List.filter_eq_self]
        intro u hu
        have := hn.1 u hu
        simp; omega
      rw [e]; rfl
    · have hne : t.1 ≠ y.1 := hn.1 t ht
      have ih := without_len hn.2 ht
      unfold without at ih ⊢
      rw [List.filter_cons_of_pos (by simp; omega)]
      simp only [List.length_cons]
      omega
theorem without_no {S : List Tm} {x : Int} (h : ∀ t ∈ S, (t.1 : Int) ≠ x) : without S x = S := by
  unfold without
  rw [List.filter_eq_self]
  intro t ht
  simpa using h t ht
theorem without_nodup {S : List Tm} (h : (S.map Prod.fst).Nodup) (x : Int) : ((without S x).map Prod.fst).Nodup :=
  h.sublist (List.Sublist.map _ List.filter_sublist)

/-- a list that holds one timer of number x: striking it -/
theorem strike_one {l : List Tm} {k : Nat} {t : Tm} (hn : (l.map Prod.fst).Nodup) (hk : l[k]? = some t) : l.eraseIdx k = without l (t.1 : Int) := by
  obtain ⟨hlt, he⟩ := List.getElem?_eq_some_iff.1 hk
  have hs : l = l.take k ++ t :: l.drop (k + 1) := by
    rw [← he, List.getElem_cons_drop, List.take_append_drop]
  have hmem : t ∈ l := he ▸ List.getElem_mem hlt
  rw [List.eraseIdx_eq_take_drop_succ]
  rw [hs] at hn
  simp only [List.map_append, List.map_cons, List.nodup_append, List.nodup_cons, List.mem_map, List.mem_cons] at hn
  obtain ⟨_, ⟨h2, _⟩, h3⟩ := hn
  conv => rhs; rw [hs]
  unfold without
  rw [List.filter_append, List.filter_cons_of_neg (by simp)]
  congr 1
  · symm
    rw [List.filter_eq_self]
    intro u hu
    have := h3 u.1 ⟨u, hu, rfl⟩ t.1 (.inl rfl)
    simp; omega
  · symm
    rw [List.filter_eq_self]
    intro u hu
    have : ¬ u.1 = t.1 := fun e => h2 ⟨u, hu, e⟩
    simp; omega

theorem step_delete {H : Type} {P : Program} {ops : Array Oper} {o : Oper} {a : Act} {w : World} {K : Act → World → Prop} {Q : Exit → Act → World → Prop} {E : Prop}
    (hg : o.guard = none) (m x : Operand) (t k : TypeId) (hop : o.op = Op.call { callee := Callee.builtin Builtin.delete, args := #[m, x], argTypes := #[t, k] })
    (e : TypeId) (KK : Keyed P k) (ht : P.underlying t = some (.map k e)) (R : Value → Option (DataW H × List MemPlace)) (b n : Nat) (D : DataW H)
    (hm : a.eval m = .map (some b)) (hown : w.ownsMap P k R b n D) (key : Value) (kl : Lit) (hx : a.eval x = key) (hkey : keyOf P k key = some kl)
    (hK : ∀ w', w'.ownsMap P k R b n (D.del kl) → w.mapTurned w' b → K (a.put o.dst (.tuple #[])) w') :
    if Region.wanted o (yielded ops a.tmps) = true then Oper.wp P o a w K Q else E := by
  have hw : Region.wanted o (yielded ops a.tmps) = true := by simp [Region.wanted, hg]
  rw [if_pos hw]
  obtain ⟨w', hrun, r1, r2⟩ := hown.drop KK ht hkey o.type
  unfold Oper.wp
  simp [execOp, hop, resolve, invoke, builtin, hm, hx, hrun, Result.andThen]
  exact hK w' r1 r2

theorem rowsOf {w : World} {v : Value} {l : List Tm} {t : Tm} (hr : w.ownsRow 0 42 2 v l.length (encs l)) (ht : t ∈ l) : ∃ b cap, v = .slice (some ⟨b, 0, none⟩) l.length cap ∧ v.ownBlock = some b := by
  rcases hr.2 with ⟨_, h⟩ | ⟨b, cap, _, rfl, _⟩
  · have := List.length_pos_of_mem ht; omega
  · exact ⟨b, cap, rfl, rfl⟩
/-- behind the strike: the slot that held the timer holds the others, and so do all slots -/
theorem struck {now x a q : Nat} {S : List Tm} {L : Nat → List Tm} (hnd : (S.map Prod.fst).Nodup) (hin : (x, a) ∈ S) (hq : q = slot now a) (hq4 : q < 448) (hP : ∀ i, i < 448 → (L i).Perm (S.filter fun t => slot now t.2 == i)) {k : Nat} (hk : (L q)[k]? = some (x, a)) :
    ∀ i, i < 448 → (upd L q ((L q).eraseIdx k) i).Perm ((without S x).filter fun t => slot now t.2 == i) := by
  intro i hi
  have hnl : ((L q).map Prod.fst).Nodup := ((hP q hq4).map Prod.fst).nodup_iff.2 (hnd.sublist (List.Sublist.map _ List.filter_sublist))
  by_cases e : i = q
  · subst e
    rw [upd_same, strike_one hnl hk]
    have := (hP i hi).filter (fun t => !((t.1 : Int) == (x : Int)))
    rw [List.filter_filter] at this
    unfold without
    rw [List.filter_filter]
    refine this.trans (List.Perm.of_eq (List.filter_congr fun t _ => Bool.and_comm _ _))
  · rw [upd_other _ e]
    refine (hP i hi).trans (List.Perm.of_eq ?_)
    unfold without
    rw [List.filter_filter]
    refine List.filter_congr fun t ht => ?_
    by_cases h1 : t.1 = x
    · have : t = (x, a) := ids_eq hnd ht hin h1
      subst this
      have : ¬ slot now a = i := fun h => e (by rw [hq, h])
      simp [this]
    · have : ¬ ((t.1 : Int) = (x : Int)) := by omega
      simp [this]
theorem del_laid {w w2 w3 : World} {g q n cap b : Nat} {v : Value} {l' : List Tm} (h2 : Below w.heap.size w w2) (h3 : w2.grownBy w3 (some b)) (hv : v.ownBlock = some b)
    (hr : w3.ownsRow 0 42 2 (.slice (some ⟨b, 0, none⟩) n cap) n (encs l')) (hn : l'.length = n) : Laid w g q v l' (w3.setCell ⟨g, 1 + q, none⟩ (.slice (some ⟨b, 0, none⟩) n cap)) := by
  subst hn
  refine ⟨_, w3, _, (Step.of_below h2 (fun k => v.ownBlock = some k)).trans (Step.of_grown h3 (fun k e => by rw [hv, ← e])), hr, fun c hc => ?_, rfl⟩
  rw [hv]
  exact hc

set_option maxHeartbeats 3200000 in
set_option maxRecDepth 100000 in
theorem cancel_yes (w : World) (g now mb x a : Nat) (S : List Tm) (F0 : Nat → Prop) (D : DataW Unit) (hS : Slots w g now mb S F0) (hT : Times w mb S D) (hmb : ¬ F0 mb) (hnd : (S.map Prod.fst).Nodup) (hlen : S.length ≤ 4096)
    (hx : x ≤ 1099511627776) (hin : (x, a) ∈ S) :
    Calls Try.prog 16 #[.pointer (some ⟨g, 0, none⟩), .int .i64 x] w fun e w' => e = .returned (.bool true) ∧
      ∃ F' D', Slots w' g now mb (without S x) F' ∧ Times w' mb (without S x) D' ∧ ¬ F' mb ∧ Step w w' (plus F0 mb) (plus F' mb) := by
  have hS' := Lib.hid hS
  obtain ⟨v, L, hM, hn, hP, hB⟩ := hS
  have hhas : Maps.has D (.int .i64 x) = true := (hT.has x).2 ⟨_, hin, rfl⟩
  have ha := (hB _ hin).2
  have hna := (hB _ hin).1
  have hq := slot_lt hn ha
  have s1 := Step.alloc w (.cells #[.int .i64 x] 3) (fun _ => False)
  have hM1 := hM.far s1 (fun _ _ h => h)
  have hT1 := hT.far s1 (fun h => h)
  have hbx := Has.new w 3 #[.int .i64 x]
  have hbl : w.heap.size < (w.alloc (.cells #[.int .i64 x] 3)).heap.size := by simp
  have hglw := hM.lt
  have hmlw := hT.lt
  have hFw := Lib.hid hM.low
  have HP := Lib.hid hP
  have HB := Lib.hid hB
  have HMw := Lib.hid hM
  clear hP hB hM
  go_enter Try.func16, Try.ntmps16
  go_wp2_with fail
  generalize w.alloc (.cells #[.int .i64 x] 3) = W at s1 hM1 hT1 hbx hbl ⊢
  obtain ⟨bx, hbxe⟩ : ∃ bx, bx = w.heap.size := ⟨_, rfl⟩
  rw [← hbxe] at hbx hbl ⊢
  have hgb : bx ≠ g := by omega
  have HBX := Lib.hid hbxe
  clear hbxe
  have cM := hM1.cellM
  have cX := (hbx.cell 0).trans (show _ = some (Value.int .i64 (x : Int)) from rfl)
  obtain ⟨c, hlook, hc, _⟩ := (show Times W.drew mb S D from ⟨hT1.own.drew, hT1.len, hT1.has, hT1.at_⟩).look (x := x) (by omega) (by omega)
  rw [hhas, hc _ hin rfl] at hlook
  clear hc hhas
  have HM := Lib.hid hM1
  have HT := Lib.hid hT1
  have HX := Lib.hid hbx
  have HS1 := Lib.hid s1
  clear hM1 hT1 hbx s1 hT
  go_region
  go_wp2_with fail
  have hown0 : OwnM W.drew.drew mb (Maps.size D) D := HT.out.own
  go_region_law (refine step_delete rfl (.tmp 23) (.tmp 24) 52 3 rfl 3 law Try.underlying52 _ mb (Maps.size D) D (by simp [Act.eval]) hown0 (.int .i64 x) (.int .i64 x) (by simp [Act.eval]) (keyI (by omega) (by omega)) ?_; intro w1 hown1 hturn1)
  all_goals
    have hs1 : Step W w1 (fun k => k = mb) (fun k => k = mb) := (((Step.drew W _).trans (Step.drew _ _)).trans (Step.of_grown hturn1.grown (fun k e => by injection e with e; exact e.symm)))
    have M1 := HM.out.far hs1 (fun k hk e => hmb (e ▸ hk))
    have T1 := HT.out.del hown1 ⟨_, hin, rfl⟩ (fun t => mem_without) (without_len hnd hin)
    have X1 := hs1.has HX.out (by rw [HBX.out]; omega)
    obtain ⟨k, hk⟩ : ∃ k, (L (slot now a))[k]? = some (x, a) := List.getElem?_of_mem (((HP.out _ hq).mem_iff).2 (by simp [hin]))
    have hnl : ((L (slot now a)).map Prod.fst).Nodup := ((HP.out _ hq).map Prod.fst).nodup_iff.2 (hnd.sublist (List.Sublist.map _ List.filter_sublist))
    have hll : (L (slot now a)).length ≤ 4096 := by
      have := (HP.out _ hq).length_eq
      have := List.length_filter_le (fun t : Tm => slot now t.2 == slot now a) S
      omega
    obtain ⟨b, cap, hv, hvb⟩ := rowsOf (M1.rows _ hq) (List.mem_of_getElem? hk)
    have R1 := M1.rows _ hq
    have cS := M1.cellS hq
    have hbb := row_lt R1 hvb
    have hbg : b ≠ g := fun e => M1.ne _ hq (by rw [hvb, e])
    have hgl1 := M1.lt
    have fS := M1.free (1 + slot now a)
    have hA := row_at R1 hvb
    have c0 := M1.cell0
    have hbx1 : bx < w1.heap.size := X1.lt
    have cX1 := (X1.cell 0).trans (show _ = some (Value.int .i64 (x : Int)) from rfl)
    rw [hv] at cS R1
    have hmiss : ∀ j t, j < k → (L (slot now a))[j]? = some t → t.1 ≠ x := by
      intro j t hj ht e
      have h1 : ((L (slot now a)).map Prod.fst)[j]? = some x := by rw [List.getElem?_map, ht, ← e]; rfl
      have h2 : ((L (slot now a)).map Prod.fst)[k]? = some x := by rw [List.getElem?_map, hk]; rfl
      have := (List.getElem?_inj (List.getElem?_eq_some_iff.1 h1).1 hnl).1 (h1.trans h2.symm)
      omega
    have hkl : k < (L (slot now a)).length := (List.getElem?_eq_some_iff.1 hk).1
    have HI := Lib.hid (index_any b cap (L (slot now a)) x bx k hkl (by omega) (fun t ht => by rw [hk] at ht; cases ht; rfl) hmiss w1 hA hbb cX1 hbx1)
    have HR1 := Lib.hid R1
    have HM1 := Lib.hid M1
    have HT1 := Lib.hid T1
    have HHS := Lib.hid hs1
    have HK := Lib.hid hk
    have HV := Lib.hid hv
    have HVB := Lib.hid hvb
    clear R1 M1 T1 X1 hs1 hmiss hA hk hv hvb cM cX hlook hturn1 hown1 hown0 hnl
    go_wp2_with fail
    refine (slotOf_any now a g hn ha w1 c0).mono ?_
    rintro e w' ⟨rfl, rfl⟩
    go_wp2_with fail
    refine HI.out.mono ?_
    rintro e w2 ⟨rfl, hb2⟩
    have cS2 := (hb2.cell (p := ⟨g, 1 + slot now a, none⟩) hgl1).trans cS
    have fS2 := (hb2.frozen (p := ⟨g, 1 + slot now a, none⟩) hgl1).trans fS
    have R2 := (Step.of_below hb2 (fun _ => False)).row HR1.out (fun _ _ h => h)
    have HR2 := Lib.hid R2
    have hgl2 : g < w2.heap.size := Nat.lt_of_lt_of_le hgl1 hb2.size
    have HB2 := Lib.hid hb2
    clear R2 hb2 cS fS c0 cX1
    go_wp2_with fail
    refine (delete_any b cap k _ (L (slot now a)) w2 HR2.out rfl hkl (by omega)).mono ?_
    rintro e w3 ⟨rfl, hr3, hg3⟩
    have cS3 := (hg3.cell_far ⟨g, 1 + slot now a, none⟩ hgl2 (fun e => hbg (by injection e with e; exact e.symm))).trans cS2
    have fS3 := (hg3.frozen_far ⟨g, 1 + slot now a, none⟩ hgl2 (fun e => hbg (by injection e with e; exact e.symm))).trans fS2
    have HR3 := Lib.hid hr3
    have HG3 := Lib.hid hg3
    clear hr3 hg3 cS2 fS2
    go_wp2_with fail
    go_ret
    obtain ⟨v', F', M', s'⟩ := HM1.out.laid hq (del_laid (q := slot now a) (v := v (slot now a)) HB2.out HG3.out HVB.out HR3.out (by rw [List.length_eraseIdx, if_pos hkl]))
    refine ⟨rfl, F', _, ⟨v', _, M', hn, struck hnd hin rfl hq HP.out HK.out, fun t ht => HB.out t (mem_without.1 ht).1⟩, HT1.out.far s' hmb, fun hf => ?_, ?_⟩
    · rcases s'.grow mb hf with h1 | ⟨h1, _⟩
      · exact hmb h1
      · have := HT1.out.lt
        omega
    · exact ((HS1.out.none (plus F0 mb) (fun _ h => h)).trans (HHS.out.only F0 (fun _ h => h))).trans (s'.with_ mb)
end Go.Proofs.Ytcobjejaflikjaa.WOps
