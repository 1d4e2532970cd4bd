/- Texts of this seat, one behind another: RouStep, L16Copy, R7Same, L16Same, L16Mark, L16Bag, FilterMemoryW. -/
import Derived.Deep.AppendLies
import Derived.Maps.AppendAt
import Derived.Outline
import Derived.LoopTactic
import Derived.Laws.StructEq
import Derived.Deep.QuietTactic
import Derived.BigQuiet
import Derived.Handy
import Derived.Test.YtfdpoibmlggfbaaA1
import Derived.Test.YtfdpoibmlggfbaaA2
import Derived.Test.YtfdpoibmlggfbaaD1
import Derived.Test.YtfdpoibmlggfbaaB
import Derived.Test.YtfdpoibmlggfbaaA4
import Derived.Test.YtfdpoibmlggfbaaD2
import Derived.Test.YtfdpoibmlggfbaaR2
/- Lists appended to a row of a call's own, at a step of a region that draws. No function is named. -/
namespace Go.Proofs.Ytfdpoibmlggfbaa.RouStep
open Go.ChangeShapes Go.WideShapes Go.ChangeAt Go.RowKit LexPure Bytes Ret FieldsPure Flds RowsArg
set_option maxRecDepth 20000
set_option linter.unusedVariables false
theorem step_append_list {w : World} {ops : Array Oper} {o : Oper} {a : Act} {K : Act → World → Prop} {Q : Exit → Act → World → Prop} {E : Prop} (hgd : o.guard = none) (s x : Operand)
    (ho : o.op = .call { callee := .builtin .append, args := #[s, x], argTypes := #[32, 32] }) (base : Nat) (v : Value) (n : Nat) (xs : List Value) (hs : a.eval s = v) (hown : w.ownsRow base 54 2 v n xs)
    (y : Value) (G : List HField) (hx : a.eval x = y) (hF : FL w y G) (hy : FRow.Nice y G.length) (h63 : n + G.length ≤ 4398046511104) (hbase : base ≤ w.heap.size)
    (h : ∀ v' w', w'.ownsRow base 54 2 v' (n + G.length) (xs ++ encFs G) → w.grownBy w' v.ownBlock → K (a.put o.dst v') w') :
    if Region.wanted o (yielded ops a.tmps) = true then Oper.wp Try.prog o a w K Q else E := by
  have hw : Region.wanted o (yielded ops a.tmps) = true := by simp [Region.wanted, hgd]
  rw [if_pos hw]
  obtain ⟨v', w', hrun, r1, r2⟩ := FRow.run_append_list o.type base v n xs hown y G hF hy h63 hbase
  unfold Oper.wp
  simp [execOp, ho, resolve, invoke, builtin, hs, hx, hrun, Result.andThen]
  exact h v' w' r1 r2
section
variable {P : Program}
theorem run_append_rows {w : World} (t ty e : TypeId) (i : TypeInfo) (z : Value) (k bytes : Nat) (ht : P.underlying t = some (.slice e)) (hi : P.info? e = some i) (hz : i.zero = some z) (hsize : i.size = k) (hby : i.bytes = bytes) (hzs : z.cells.size = k) (hk : 0 < k)
    (base : Nat) (v : Value) (n : Nat) (xs : List Value) (hown : w.ownsRow base e k v n xs) (y : Value) (m : Nat) (V : Nat → Nat → Value) (hR : RowsAt w y m k V) (hy : Nice y m)
    (news : List Value) (hl : news.length = m * k) (hnews : ∀ i, i < m → ∀ j, j < k → news[i * k + j]? = some (V i j)) (h1 : ∀ u ∈ news, u.oneCell' = true) (h63 : n + m ≤ maxLen) (hbytes : (n + m) * bytes ≤ 140737488355328) (hbase : base ≤ w.heap.size) :
    ∃ v' w', (Builtin.append_ #[t, t] ty #[v, y]).run P w = .ok v' w' ∧ w'.ownsRow base e k v' (n + m) (xs ++ news) ∧ w.grownBy w' v.ownBlock ∧ (v'.ownBlock = v.ownBlock ∨ v'.ownBlock = some w.heap.size) := by
  rcases hy with rfl | ⟨a, cap, rfl⟩
  · obtain ⟨p', c', hv, _, _⟩ := hR
    have hm : m = 0 := by injection hv with _ h _; exact h.symm
    subst hm
    have hn : news = [] := List.eq_nil_of_length_eq_zero (by simpa using hl)
    subst hn
    exact ⟨v, w, run_append_owned_none (P := P) (w := w) base t ty e i k ht hi v n xs hown, by simpa using hown, World.grownBy.refl w _, .inl rfl⟩
  · obtain ⟨p', c', hv, hle, hc⟩ := hR
    injection hv with e1 _ e3
    subst e1 e3
    obtain ⟨v', w', hr, h2, h3, _, h5⟩ := run_append_own_at (P := P) w base t ty e i z k bytes ht hi hz hsize hby hzs hk v n xs hown a m cap news hl
      (fun j u h => by
        have hj : j < m * k := by rw [← hl]; exact (List.getElem?_eq_some_iff.1 h).1
        have hi : j / k < m := (Nat.div_lt_iff_lt_mul hk).2 hj
        have hr : j % k < k := Nat.mod_lt _ hk
        have ej : j / k * k + j % k = j := by rw [Nat.mul_comm]; exact Nat.div_add_mod j k
        have h6 := hnews _ hi _ hr
        rw [ej, h] at h6
        obtain ⟨g', o', e, _, hcell⟩ := hc (Nat.lt_of_le_of_lt (Nat.zero_le _) hi)
        injection e with e
        subst e
        rw [FArg.add_plain, ← ej, ← Nat.add_assoc, hcell _ hi _ hr, ← h6]) h1 h63 hbytes hbase
    exact ⟨v', w', hr, h2, h3, h5⟩
theorem step_append_rows {w : World} {ops : Array Oper} {o : Oper} {a : Act} {K : Act → World → Prop} {Q : Exit → Act → World → Prop} {E : Prop} (hgd : o.guard = none) (s x : Operand) (t : TypeId)
    (ho : o.op = .call { callee := .builtin .append, args := #[s, x], argTypes := #[t, t] })
    (e : TypeId) (i : TypeInfo) (z : Value) (k bytes : Nat) (ht : P.underlying t = some (.slice e)) (hi : P.info? e = some i) (hz : i.zero = some z) (hsize : i.size = k) (hby : i.bytes = bytes) (hzs : z.cells.size = k) (hk : 0 < k)
    (base : Nat) (v : Value) (n : Nat) (xs : List Value) (hs : a.eval s = v) (hown : w.ownsRow base e k v n xs) (y : Value) (m : Nat) (V : Nat → Nat → Value) (hx : a.eval x = y) (hR : RowsAt w y m k V) (hy : Nice y m)
    (news : List Value) (hl : news.length = m * k) (hnews : ∀ i, i < m → ∀ j, j < k → news[i * k + j]? = some (V i j)) (h1 : ∀ u ∈ news, u.oneCell' = true) (h63 : n + m ≤ maxLen) (hbytes : (n + m) * bytes ≤ 140737488355328) (hbase : base ≤ w.heap.size)
    (h : ∀ v' w', w'.ownsRow base e k v' (n + m) (xs ++ news) → w.grownBy w' v.ownBlock → (v'.ownBlock = v.ownBlock ∨ v'.ownBlock = some w.heap.size) → K (a.put o.dst v') w') :
    if Region.wanted o (yielded ops a.tmps) = true then Oper.wp P o a w K Q else E := by
  have hw : Region.wanted o (yielded ops a.tmps) = true := by simp [Region.wanted, hgd]
  rw [if_pos hw]
  obtain ⟨v', w', hrun, r1, r2, r3⟩ := run_append_rows t o.type e i z k bytes ht hi hz hsize hby hzs hk base v n xs hown y m V hR hy news hl hnews h1 h63 hbytes hbase
  unfold Oper.wp
  simp [execOp, ho, resolve, invoke, builtin, hs, hx, hrun, Result.andThen]
  exact h v' w' r1 r2 r3
theorem wpList_append_rows {w : World} {ops : Array Oper} {rest : List Oper} {o : Oper} {a : Act} {Q : Exit → Act → World → Prop} (hgd : o.guard = none) (s x : Operand) (t : TypeId)
    (ho : o.op = .call { callee := .builtin .append, args := #[s, x], argTypes := #[t, t] })
    (e : TypeId) (i : TypeInfo) (z : Value) (k bytes : Nat) (ht : P.underlying t = some (.slice e)) (hi : P.info? e = some i) (hz : i.zero = some z) (hsize : i.size = k) (hby : i.bytes = bytes) (hzs : z.cells.size = k) (hk : 0 < k)
    (base : Nat) (v : Value) (n : Nat) (xs : List Value) (hs : a.eval s = v) (hown : w.ownsRow base e k v n xs) (y : Value) (m : Nat) (V : Nat → Nat → Value) (hx : a.eval x = y) (hR : RowsAt w y m k V) (hy : Nice y m)
    (news : List Value) (hl : news.length = m * k) (hnews : ∀ i, i < m → ∀ j, j < k → news[i * k + j]? = some (V i j)) (h1 : ∀ u ∈ news, u.oneCell' = true) (h63 : n + m ≤ maxLen) (hbytes : (n + m) * bytes ≤ 140737488355328) (hbase : base ≤ w.heap.size)
    (h : ∀ v' w', w'.ownsRow base e k v' (n + m) (xs ++ news) → w.grownBy w' v.ownBlock → (v'.ownBlock = v.ownBlock ∨ v'.ownBlock = some w.heap.size) → wpList P ops Q rest (a.put o.dst v') w') :
    wpList P ops Q (o :: rest) a w := by
  refine wpList_plain hgd fun K hK => ?_
  obtain ⟨v', w', hrun, r1, r2, r3⟩ := run_append_rows t o.type e i z k bytes ht hi hz hsize hby hzs hk base v n xs hown y m V hR hy news hl hnews h1 h63 hbytes hbase
  unfold Oper.wp execOp
  simp only [ho, resolve, invoke, builtin, Sem.run_bind, Sem.run_pure, Result.andThen_ok, List.map_toArray, List.map_cons, List.map_nil, hs, hx, hrun]
  exact hK _ _ (h v' w' r1 r2 r3)
end
end Go.Proofs.Ytfdpoibmlggfbaa.RouStep

/- Layer 16's laws: filters appended to a row of a law's own. No function is named. -/
namespace Go.Proofs.Ytfdpoibmlggfbaa.L16Copy
open Go.ChangeShapes Go.WideShapes Go.ChangeAt Go.RowKit Bytes LexPure ConfPure ConfMem FieldsPure Flds RowsArg RouStep RowKeep
set_option maxRecDepth 20000
set_option linter.unusedVariables false
theorem infoFi : (Try.prog.info? 29).map (fun i => (i.zero, i.size, i.bytes)) = some (some (.agg #[.int .i64 0, .string .empty, .string .empty, .int .i64 0, .int .i64 0, .int .i64 0]), 6, 64) := by kernel_rfl
def encFi (G : List Filt) : List Value := G.flatMap filtV
theorem fi_len (G : List Filt) : (encFi G).length = G.length * 6 := by
  unfold encFi
  induction G with
  | nil => rfl
  | cons x G ih => rw [List.flatMap_cons, List.length_append, ih, List.length_cons]; show 6 + _ = _; omega
theorem fi_cells (G : List Filt) : ∀ u ∈ encFi G, u.oneCell' = true := by
  intro u hu
  obtain ⟨x, _, hx⟩ := List.mem_flatMap.1 hu
  unfold filtV at hx
  simp only [List.mem_cons, List.not_mem_nil, or_false] at hx
  rcases hx with rfl | rfl | rfl | rfl | rfl | rfl <;> rfl
theorem fi_get (G : List Filt) (i : Nat) (hi : i < G.length) (j : Nat) (hj : j < 6) : (encFi G)[i * 6 + j]? = some ((filtV (G.getD i zFilt)).getD j undef) := by
  have e : G.getD i zFilt = G[i] := by simp [List.getD, List.getElem?_eq_getElem hi]
  rw [e]
  unfold encFi
  induction G generalizing i with
  | nil => simp at hi
  | cons x G ih =>
    rw [List.flatMap_cons]
    cases i with
    | zero =>
      rw [List.getElem?_append_left (by show 0 * 6 + j < 6; omega)]
      have hj2 : j = 0 ∨ j = 1 ∨ j = 2 ∨ j = 3 ∨ j = 4 ∨ j = 5 := by omega
      rcases hj2 with rfl | rfl | rfl | rfl | rfl | rfl <;> rfl
    | succ i =>
      have hi2 : i < G.length := by simpa using hi
      rw [List.getElem?_append_right (by show 6 ≤ (i + 1) * 6 + j; omega)]
      have e2 : (i + 1) * 6 + j - (filtV x).length = i * 6 + j := by show (i + 1) * 6 + j - 6 = _; omega
      rw [e2, ih i hi2 (by simp [List.getD, List.getElem?_eq_getElem hi2])]
      rfl
/-- an empty list of filters -/
theorem ownsFi_none (w : World) (base : Nat) (hb : base ≤ w.heap.size) : (w.alloc (.cells #[] 29)).ownsRow base 29 6 (.slice (some ⟨w.heap.size, 0, none⟩) 0 0) 0 [] :=
  ⟨rfl, .inr ⟨w.heap.size, 0, #[], rfl, hb, heap_alloc_new w _, Nat.le_refl _, Nat.zero_le _, rfl, rfl⟩⟩
theorem filts_of {w : World} {base : Nat} {v : Value} {G : List Filt} (h : w.ownsRow base 29 6 v G.length (encFi G)) : Filts w v G := by
  obtain ⟨p, cap, hv, _⟩ := row_form h
  have hl : G.length ≤ 9223372036854775807 := by
    rcases h.2 with ⟨_, e⟩ | ⟨_, cap, _, _, _, _, h1, h2, _⟩
    · omega
    · unfold maxLen at h2; omega
  refine ⟨p, cap, hv, hl, fun h0 => ?_⟩
  obtain ⟨g, cap2, hv2, _, hg, _, hc⟩ := row_at h h0
  rw [hv] at hv2
  injection hv2 with e1 _ _
  refine ⟨g, 0, e1, hg, fun i hi j hj => ?_⟩
  rw [Nat.zero_add, hc _ (by omega)]
  exact fi_get G i hi j hj
/-- behind 'append([]api.Filter{}, l...)' -/
theorem copiedFi {w1 w4 : World} {v4 : Value} {G : List Filt} (h : w4.ownsRow w1.heap.size 29 6 v4 (0 + G.length) ([] ++ encFi G))
    (hg : (w1.alloc (.cells #[] 29)).grownBy w4 (Value.slice (some ⟨w1.heap.size, 0, none⟩) 0 0).ownBlock) :
    w4.ownsRow w1.heap.size 29 6 v4 G.length (encFi G) ∧ Below w1.heap.size w1 w4 := by
  rw [Nat.zero_add, List.nil_append] at h
  exact ⟨h, ((Below.refl _ w1).alloc (Nat.le_refl _) _).grown hg (by simp) (fun j e => by cases e; exact Nat.le_refl _)⟩
end Go.Proofs.Ytfdpoibmlggfbaa.L16Copy

/- Layer 7, the document's own Same. -/
namespace Go.Proofs.Ytfdpoibmlggfbaa.R7Same
open Go.ChangeShapes Go.WideShapes Go.ChangeAt Go.RowKit LexPure Bytes Ret Rows1 FieldsPure Flds Mem
set_option maxRecDepth 20000
theorem neqF (a b c d : ByteArray) (p q : Bool) (h1 : (a.toList == c.toList) = p) (h2 : (b.toList == d.toList) = q) (w : World) : (binOp .neq 54 (.agg #[.string a, .string b]) (.agg #[.string c, .string d])).run Try.prog w = .ok (.bool (!(p && q))) w := by
  have u9 := Try.underlying9
  have a9 := Try.isAgg9
  have z9 := Try.sizeOf9
  have hS : Try.prog.underlying 54 = some (.struct (Try.prog.fieldsOf 54)) := by kernel_rfl
  have hp : Try.prog.stoodInHeld 54 = false := by kernel_rfl
  rw [run_neq_struct, show (10000 : Nat) = 9999 + 1 from rfl, run_equalIn_agg w 9999 54 _ _ hS hp]
  simp only [Program.fieldsOf, Try.underlying54]
  cases p
  · go_simp
  · cases q
    · go_simp
    · go_simp
theorem take_ext7 {G H : List HField} {k : Nat} (hk : k < G.length) (hk2 : k < H.length) (h : G.take k = H.take k) (he : G[k] = H[k]) : G.take (k + 1) = H.take (k + 1) := by
  rw [List.take_add_one, List.take_add_one, h, List.getElem?_eq_getElem hk, List.getElem?_eq_getElem hk2, he]
set_option maxHeartbeats 1600000 in
theorem r7same_any (v1 v2 : Value) (G H : List HField) (w : World) (h1 : FL w v1 G) (h2 : FL w v2 H) :
    Calls Try.prog 13 #[v1, v2] w fun e w' => e = .returned (.bool (G == H)) ∧ ∃ m, w' = w.drewN m := by
  obtain ⟨p1, c1, rfl, hn1, HC1⟩ := h1
  obtain ⟨p2, c2, rfl, hn2, HC2⟩ := h2
  replace HC1 := Lib.hid HC1
  replace HC2 := Lib.hid HC2
  by_cases hl : G.length = H.length
  · have hq : ((G.length : Int) != (H.length : Int)) = false := by rw [hl]; exact bne_self_eq_false _
    go_enter Try.func13, Try.ntmps13
    go_wp2_with fail
    go_loopw [5] (fun i wr => ∃ k : Nat, k ≤ G.length ∧ i = .int .i64 k ∧ Hid (G.take k = H.take k) ∧ Hid (∃ m, wr = w.drewN m)) (fun i _ => G.length - (intOf i).toNat)
    case atStart => exact ⟨0, Nat.zero_le _, rfl, Lib.hid rfl, Lib.hid ⟨0, rfl⟩⟩
    case round =>
      obtain ⟨k, hk, rfl, ht, hw⟩ := hrel
      obtain ⟨m, rfl⟩ := hw.out
      by_cases hlt : k < G.length
      · have hki : (k : Int) < (G.length : Int) := by omega
        have hkj : (k : Int) < (H.length : Int) := by omega
        obtain ⟨g1, o1, rfl, _, hcell1⟩ := HC1.out (by omega)
        obtain ⟨g2, o2, rfl, _, hcell2⟩ := HC2.out (by omega)
        obtain ⟨d1, d3⟩ := hcell1 k hlt
        obtain ⟨d2, d4⟩ := hcell2 k (by omega)
        clear hcell1 hcell2
        have hd : ∀ q : Bool, (G[k] == H[k]'(by omega)) = q → (((ofL G[k].1).toList == (ofL (H[k]'(by omega)).1).toList) && ((ofL G[k].2).toList == (ofL (H[k]'(by omega)).2).toList)) = q := fun q hq => by
          rw [same_ofL, same_ofL]; exact hq
        by_cases he : G[k] = H[k]'(by omega)
        · have HT := Lib.hid (take_ext7 hlt (by omega) ht.out he)
          have hnq := fun w => neqF (ofL G[k].1) (ofL G[k].2) (ofL (H[k]'(by omega)).1) (ofL (H[k]'(by omega)).2) true true (by rw [same_ofL, he]; exact beq_self_eq_true _) (by rw [same_ofL, he]; exact beq_self_eq_true _) w
          clear he hd
          generalize ofL G[k].1 = s1 at *
          generalize ofL G[k].2 = s2 at *
          generalize ofL (H[k]'(by omega)).1 = s3 at *
          generalize ofL (H[k]'(by omega)).2 = s4 at *
          clear HC1 HC2 ht hw
          go_wp2_with fail
          go_quiet (fail)
          have HW : Hid (∃ m1, (w.drewN m).drewN nq = w.drewN m1) := Lib.hid ⟨m + nq, by simp⟩
          generalize ((w.drewN m).drewN nq) = w2 at *
          go_wp2_with fail
          go_roundw
          case rel => exact ⟨k + 1, by omega, by go_num, HT, HW⟩
          case measure => simp [intOf]; omega
        · have HV : Hid ((G == H) = false) := Lib.hid (by
            rw [beq_eq_false_iff_ne]
            intro h
            subst h
            exact he rfl)
          have hde := hd false (beq_eq_false_iff_ne.2 he)
          have hnq : ∀ w, (binOp .neq 54 (.agg #[.string (ofL G[k].1), .string (ofL G[k].2)]) (.agg #[.string (ofL (H[k]'(by omega)).1), .string (ofL (H[k]'(by omega)).2)])).run Try.prog w = .ok (.bool true) w := fun w => by
            have := neqF (ofL G[k].1) (ofL G[k].2) (ofL (H[k]'(by omega)).1) (ofL (H[k]'(by omega)).2) _ _ rfl rfl w
            rw [hde] at this
            exact this
          clear he hd hde
          generalize ofL G[k].1 = s1 at *
          generalize ofL G[k].2 = s2 at *
          generalize ofL (H[k]'(by omega)).1 = s3 at *
          generalize ofL (H[k]'(by omega)).2 = s4 at *
          clear HC1 HC2 ht hw
          go_wp2_with fail
          go_quiet (fail)
          have HW : Hid (∃ m1, (w.drewN m).drewN nq = w.drewN m1) := Lib.hid ⟨m + nq, by simp⟩
          generalize ((w.drewN m).drewN nq) = w2 at *
          go_wp2_with fail
          go_ret
          exact ⟨ret_bool HV.out.symm, HW.out⟩
      · have HV : Hid ((G == H) = true) := Lib.hid (by
          have h := ht.out
          rw [List.take_of_length_le (by omega), List.take_of_length_le (by omega)] at h
          rw [h]
          exact beq_self_eq_true _)
        have HW := Lib.hid hw.out
        clear hw
        generalize (w.drewN m) = w2 at *
        go_wp2_with fail
        go_ret
        exact ⟨ret_bool HV.out.symm, HW.out⟩
  · have HV : Hid ((G == H) = false) := Lib.hid (by
      rw [beq_eq_false_iff_ne]
      intro h
      exact hl (by rw [h]))
    have hq : ((G.length : Int) != (H.length : Int)) = true := by
      rw [bne_iff_ne]
      omega
    go_enter Try.func13, Try.ntmps13
    go_wp2_with fail
    go_ret
    exact ⟨ret_bool HV.out.symm, 0, rfl⟩
end Go.Proofs.Ytfdpoibmlggfbaa.R7Same

/- Layer 16's laws: two verdicts that tell the same. -/
namespace Go.Proofs.Ytfdpoibmlggfbaa.L16Same
open Go.ChangeShapes Go.WideShapes Go.ChangeAt Go.RowKit Bytes ConfPure ConfMem FieldsPure Flds FilterPure FiltState FiltKeep FiltObj Ret Mem Step
set_option maxRecDepth 100000
set_option linter.unusedVariables false
set_option linter.unusedSimpArgs false
set_option maxHeartbeats 3200000 in
theorem lsame_any (V : Verd) (fl pl fl2 pl2 : Value) (w : World) (h1 : FL w fl V.fields) (h2 : FL w pl V.pass) (h3 : FL w fl2 V.fields) (h4 : FL w pl2 V.pass) :
    Calls Try.prog 18 #[.agg (vrdA V fl pl), .agg (vrdA V fl2 pl2)] w fun e w' => e = .returned (.bool true) ∧ Below w.heap.size w w' := by
  obtain ⟨p1, c1, rfl, -, -⟩ := id h1
  obtain ⟨p2, c2, rfl, -, -⟩ := id h2
  obtain ⟨p3, c3, rfl, -, -⟩ := id h3
  obtain ⟨p4, c4, rfl, -, -⟩ := id h4
  have e1 : (V.fields == V.fields) = true := beq_self_eq_true _
  have e2 : (V.pass == V.pass) = true := beq_self_eq_true _
  have hb := (((Below.refl w.heap.size w).alloc (Nat.le_refl _) (.cells (vrdA V (.slice p1 V.fields.length c1) (.slice p2 V.pass.length c2)) 38)).alloc (by simp) (.cells (vrdA V (.slice p3 V.fields.length c3) (.slice p4 V.pass.length c4)) 42))
  have HS1 := Lib.hid (R7Same.r7same_any _ _ _ _ _ (h1.below hb) (h3.below hb))
  have HS2 := Lib.hid (fun m => R7Same.r7same_any _ _ _ _ _ ((h2.below hb).drewN m) ((h4.below hb).drewN m))
  have HB := Lib.hid hb
  rw [e1] at HS1
  simp only [e2] at HS2
  have hZ1 := (Has.new w 38 (vrdA V (.slice p1 V.fields.length c1) (.slice p2 V.pass.length c2))).alloc (.cells (vrdA V (.slice p3 V.fields.length c3) (.slice p4 V.pass.length c4)) 42)
  have hZ2 := Has.new (w.alloc (.cells (vrdA V (.slice p1 V.fields.length c1) (.slice p2 V.pass.length c2)) 38)) 42 (vrdA V (.slice p3 V.fields.length c3) (.slice p4 V.pass.length c4))
  rw [World.size_alloc] at hZ2
  have HZ1 := Lib.hid hZ1
  have HZ2 := Lib.hid hZ2
  unfold vrdA at *
  clear h1 h2 h3 h4 hb hZ1 hZ2 e1 e2
  go_enter Try.func18, Try.ntmps18
  go_wp2_with fail
  refine HS1.out.mono ?_
  rintro e w2 ⟨rfl, m, rfl⟩
  go_wp2_with fail
  refine (HS2.out m).mono ?_
  rintro e w2 ⟨rfl, m2, rfl⟩
  go_wp2_with fail
  go_ret
  exact ⟨rfl, HB.out.os, HB.out.tape, HB.out.output, HB.out.size, HB.out.block⟩
end Go.Proofs.Ytfdpoibmlggfbaa.L16Same

/- Layer 16's law FilterMemory: three lists of one's own, written over and grown. -/
namespace Go.Proofs.Ytfdpoibmlggfbaa.L16Mark
open Go.ChangeShapes Go.WideShapes Go.ChangeAt Go.RowKit Bytes FieldsPure Flds FiltObj Ret Mem Step
set_option maxRecDepth 20000
set_option linter.unusedVariables false
abbrev own (w : World) (base : Nat) (v : Value) (n : Nat) (xs : List Value) : Prop := w.ownsRow base 54 2 v n xs
def Z (v : Value) : Nat → Prop := fun j => v.ownBlock = some j
theorem fill_open {w : World} {v : Value} {n base k : Nat} {xs : List Value} (hr : own w base v n xs) (hk : k < n) :
    ∃ g cap u0 u1, v = .slice (some ⟨g, 0, none⟩) n cap ∧ w.cell? ⟨g, k * 2, none⟩ = some u0 ∧ w.frozen? ⟨g, k * 2, none⟩ = false ∧ w.cell? ⟨g, k * 2 + 1, none⟩ = some u1 ∧ w.frozen? ⟨g, k * 2 + 1, none⟩ = false := by
  rcases hr.2 with ⟨_, h0⟩ | ⟨g, cap, cur, hv, _, hg, h1, _, h2, _⟩
  · omega
  · have hh : Has w g 54 cur := ⟨hg⟩
    have a0 : k * 2 < cur.size := by omega
    have a1 : k * 2 + 1 < cur.size := by omega
    exact ⟨g, cap, cur[k * 2], cur[k * 2 + 1], hv, by rw [hh.cell, Array.getElem?_eq_getElem a0], hh.free _, by rw [hh.cell, Array.getElem?_eq_getElem a1], hh.free _⟩
theorem fill_set {w : World} {v : Value} {n base g cap : Nat} {xs : List Value} (hr : own w base v n xs) (hv : v = .slice (some ⟨g, 0, none⟩) n cap) (i j : Nat) (x y : Value) :
    (∃ xs', own ((w.setCell ⟨g, i, none⟩ x).setCell ⟨g, j, none⟩ y) base v n xs') ∧ Step w ((w.setCell ⟨g, i, none⟩ x).setCell ⟨g, j, none⟩ y) (Z v) (Z v) := by
  have hz : Z v g := by unfold Z; rw [hv]; rfl
  refine ⟨?_, (Step.set_ w hz i x).trans (Step.set_ _ hz j y)⟩
  rcases hr.2 with ⟨h0, _⟩ | ⟨g', cap', cur, hv', hb, hg, h1, h2, h3, _⟩
  · rw [hv] at h0; cases h0
  · have e : g' = g := by rw [hv] at hv'; injection hv' with e _ _; injection e with e; injection e with e; exact e.symm
    subst e
    have hh : Has w g' 54 cur := ⟨hg⟩
    have h4 := (hh.set_ i x).set_ j y
    refine ⟨(((cur.setIfInBounds i x).setIfInBounds j y).toList.take (n * 2)), ?_, .inr ⟨g', cap', _, hv', hb, h4.at_, h1, h2, by simp [h3], rfl⟩⟩
    rw [List.length_take, Array.length_toList]
    simp [h3]
    omega
def Fm (gl : Nat) (vs : Nat → Value) : Nat → Prop := fun k => k = gl ∨ ∃ j, j < 3 ∧ (vs j).ownBlock = some k
/-- the lists' row gl; the lists from i on not yet marked -/
structure Mk3 (wD : World) (base gl : Nat) (vs : Nat → Value) (ns : Nat → Nat) (i : Nat) (wr : World) : Prop where
  row : ∃ cs, Has wr gl 32 cs ∧ cs.size = 3 ∧ ∀ j, i ≤ j → j < 3 → cs[j]? = some (vs j)
  own_ : ∀ j, i ≤ j → j < 3 → ∃ xs, own wr base (vs j) (ns j) xs
  step : Step wD wr (Fm gl vs) (Fm gl vs)
section
variable {wD wr W3 W4 W' : World} {base gl : Nat} {vs : Nat → Value} {ns : Nat → Nat} {i : Nat}
def Sep (vs : Nat → Value) : Prop := ∀ j j', j < 3 → j' < 3 → j ≠ j' → ∀ b, (vs j).ownBlock = some b → (vs j').ownBlock ≠ some b
/-- a step that turns list i's block alone -/
theorem Mk3.one (h : Mk3 wD base gl vs ns i wr) (hs : Sep vs) (hi : i < 3) (hst : Step wr W' (Z (vs i)) (Z (vs i))) (hown : ∃ xs, own W' base (vs i) (ns i) xs) : Mk3 wD base gl vs ns i W' := by
  obtain ⟨cs, h1, h2, h3⟩ := h.row
  obtain ⟨xs, hx⟩ := h.own_ i (Nat.le_refl _) hi
  refine ⟨⟨cs, hst.has h1 (fun e => row_ne hx h1 (by decide) e), h2, h3⟩, fun j hj hj3 => ?_, h.step.trans (hst.up (fun k hk => .inr ⟨i, hi, hk⟩))⟩
  by_cases e : j = i
  · subst e; exact hown
  · obtain ⟨ys, hy⟩ := h.own_ j hj hj3
    exact ⟨ys, hst.row hy (fun b hb hz => hs j i hj3 hi e b hb hz)⟩
theorem Mk3.mark {g cap : Nat} (h : Mk3 wD base gl vs ns i wr) (hs : Sep vs) (hi : i < 3) (hv : vs i = .slice (some ⟨g, 0, none⟩) (ns i) cap) (a b : Nat) (x y : Value) : Mk3 wD base gl vs ns i ((wr.setCell ⟨g, a, none⟩ x).setCell ⟨g, b, none⟩ y) := by
  obtain ⟨xs, hx⟩ := h.own_ i (Nat.le_refl _) hi
  obtain ⟨h1, h2⟩ := fill_set hx hv a b x y
  exact h.one hs hi h2 h1
theorem Mk3.below (h : Mk3 wD base gl vs ns i wr) (hb : Below wr.heap.size wr W') : Mk3 wD base gl vs ns i W' := by
  obtain ⟨cs, h1, h2, h3⟩ := h.row
  exact ⟨⟨cs, h1.below hb h1.lt, h2, h3⟩, fun j hj hj3 => (h.own_ j hj hj3).imp (fun xs hx => RowKeep.row_below hx hb), h.step.trans (Step.of_below hb _)⟩
/-- grown, and the grown list stored -/
theorem Mk3.grow (h : Mk3 wD base gl vs ns i W3) (hs : Sep vs) (hi : i < 3) (hg : W3.grownBy W4 (vs i).ownBlock) (v' : Value) : Mk3 wD base gl vs ns (i + 1) (W4.setCell ⟨gl, i, none⟩ v') ∧ (∃ cs, Has W4 gl 32 cs ∧ cs.size = 3) := by
  obtain ⟨cs, h1, h2, h3⟩ := h.row
  obtain ⟨xs, hx⟩ := h.own_ i (Nat.le_refl _) hi
  have s1 : Step W3 W4 (Z (vs i)) (Z (vs i)) := Step.of_grown hg (fun k e => e)
  have h4 : Has W4 gl 32 cs := s1.has h1 (fun e => row_ne hx h1 (by decide) e)
  have s2 : Step W4 (W4.setCell ⟨gl, i, none⟩ v') (fun k => k = gl) (fun k => k = gl) := Step.set_ (F := fun k => k = gl) W4 rfl i v'
  refine ⟨⟨⟨_, h4.set_ i v', by simpa using h2, fun j hj hj3 => ?_⟩, fun j hj hj3 => ?_, (h.step.trans (s1.up (fun k hk => .inr ⟨i, hi, hk⟩))).trans (s2.up (fun k hk => .inl hk))⟩, cs, h4, h2⟩
  · rw [Array.getElem?_setIfInBounds_ne (by omega)]
    exact h3 j (by omega) hj3
  · obtain ⟨ys, hy⟩ := h.own_ j (by omega) hj3
    have hy4 := s1.row hy (fun b hb hz => hs j i hj3 hi (by omega) b hb hz)
    exact ⟨ys, s2.row hy4 (fun b hb e => row_ne hy4 h4 (by decide) (by rw [hb, e]))⟩
theorem Mk3.cell (h : Mk3 wD base gl vs ns i wr) (hi : i < 3) : wr.cell? ⟨gl, i, none⟩ = some (vs i) := by
  obtain ⟨cs, h1, h2, h3⟩ := h.row
  rw [h1.cell]
  exact h3 i (Nat.le_refl _) hi
end
def v3 {α : Type} (a b c : α) : Nat → α := fun j => if j = 0 then a else if j = 1 then b else c
theorem lt3 {j : Nat} (h : j < 3) : j = 0 ∨ j = 1 ∨ j = 2 := by omega
theorem sep3 {a b c : Value} (h1 : ∀ k, a.ownBlock = some k → b.ownBlock ≠ some k) (h2 : ∀ k, a.ownBlock = some k → c.ownBlock ≠ some k) (h3 : ∀ k, b.ownBlock = some k → c.ownBlock ≠ some k) : Sep (v3 a b c) := by
  intro j j' hj hj' hne k e1 e2
  rcases lt3 hj with rfl | rfl | rfl <;> rcases lt3 hj' with rfl | rfl | rfl
  · exact hne rfl
  · exact h1 k e1 e2
  · exact h2 k e1 e2
  · exact h1 k e2 e1
  · exact hne rfl
  · exact h3 k e1 e2
  · exact h2 k e2 e1
  · exact h3 k e2 e1
  · exact hne rfl
theorem Mk3.start {W : World} {base gl : Nat} {pa pb pc : Option Addr} {na nb nc ca cb cc : Nat} {xs ys zs : List Value} (hH : Has W gl 32 #[.slice pa na ca, .slice pb nb cb, .slice pc nc cc]) (ha : own W base (.slice pa na ca) na xs) (hb : own W base (.slice pb nb cb) nb ys) (hc : own W base (.slice pc nc cc) nc zs) :
    Mk3 W base gl (v3 (.slice pa na ca) (.slice pb nb cb) (.slice pc nc cc)) (v3 na nb nc) 0 W ∧ ∀ j, j < 3 → ∃ p c, v3 (Value.slice pa na ca) (.slice pb nb cb) (.slice pc nc cc) j = .slice p (v3 na nb nc j) c := by
  refine ⟨⟨⟨_, hH, rfl, fun j _ hj => ?_⟩, fun j _ hj => ?_, Step.refl _ _⟩, fun j hj => ?_⟩
  · rcases lt3 hj with rfl | rfl | rfl <;> rfl
  · rcases lt3 hj with rfl | rfl | rfl
    · exact ⟨_, ha⟩
    · exact ⟨_, hb⟩
    · exact ⟨_, hc⟩
  · rcases lt3 hj with rfl | rfl | rfl
    · exact ⟨_, _, rfl⟩
    · exact ⟨_, _, rfl⟩
    · exact ⟨_, _, rfl⟩
theorem v3_le {a b c m : Nat} (ha : a ≤ m) (hb : b ≤ m) (hc : c ≤ m) : ∀ j, j < 3 → v3 a b c j ≤ m := fun j hj => by
  rcases lt3 hj with rfl | rfl | rfl
  · exact ha
  · exact hb
  · exact hc
/-- what is not of F stays over the whole marking -/
theorem not_Fm {gl : Nat} {a b c v : Value} {k : Nat} (h0 : k ≠ gl) (h1 : ∀ k, a.ownBlock = some k → v.ownBlock ≠ some k) (h2 : ∀ k, b.ownBlock = some k → v.ownBlock ≠ some k) (h3 : ∀ k, c.ownBlock = some k → v.ownBlock ≠ some k) (hk : v.ownBlock = some k) : ¬ Fm gl (v3 a b c) k := by
  rintro (e | ⟨j, hj, e⟩)
  · exact h0 e
  · rcases lt3 hj with rfl | rfl | rfl
    · exact h1 k e hk
    · exact h2 k e hk
    · exact h3 k e hk
end Go.Proofs.Ytfdpoibmlggfbaa.L16Mark

/- Layer 16's law FilterMemory: what is alive while calls are made: the chain, what was handed in, rows of one's own, blocks. -/
namespace Go.Proofs.Ytfdpoibmlggfbaa.L16Bag
open Go.ChangeShapes Go.WideShapes Go.ChangeAt Go.RowKit Bytes LexPure ConfPure ConfMem FieldsPure Flds FilterPure FiltState FiltKeep FiltObj R16Box Ret Mem Step
set_option maxRecDepth 20000
set_option linter.unusedVariables false
structure Bag (w : World) (F : Nat → Prop) (g : Nat) (s : Cn) (vl : Value) (fs : List Filt) (vg : Value) (G : List HField) (rs : List (Value × List HField)) (bs : List (Nat × TypeId × Array Value)) (W : World) : Prop where
  ch : Ch W F g s
  lo : ∀ k, F k → w.heap.size ≤ k
  fi : Filts W vl fs
  fl : FL W vg G
  below : Below w.heap.size w W
  rows : ∀ r ∈ rs, Lst W w.heap.size r.1 r.2 ∧ ∀ b, r.1.ownBlock = some b → ¬ F b
  blocks : ∀ x ∈ bs, Has W x.1 x.2.1 x.2.2 ∧ ¬ F x.1 ∧ w.heap.size ≤ x.1
  far : rs.Pairwise (fun r r' => ∀ b, r.1.ownBlock = some b → r'.1.ownBlock ≠ some b)
section
variable {w W W' : World} {F F' : Nat → Prop} {g : Nat} {s s' : Cn} {vl : Value} {fs : List Filt} {vg : Value} {G : List HField} {rs : List (Value × List HField)} {bs : List (Nat × TypeId × Array Value)}
theorem Bag.call (x : Bag w F g s vl fs vg G rs bs W) (hb : Below W.heap.size W W') : Bag w F g s vl fs vg G rs bs W' :=
  ⟨x.ch.step (Step.of_below hb (fun _ => False)) (fun _ _ h => h), x.lo, x.fi.below hb, x.fl.below hb, below_chain x.below hb, fun r hr => ⟨RowKeep.row_below (x.rows r hr).1 hb, (x.rows r hr).2⟩, fun y hy => ⟨(x.blocks y hy).1.below hb (x.blocks y hy).1.lt, (x.blocks y hy).2⟩, x.far⟩
theorem Bag.row (x : Bag w F g s vl fs vg G rs bs W) {v : Value} {X : List HField} {base : Nat} (h : Lst W base v X) (hb : w.heap.size ≤ base) (hF : ∀ b, v.ownBlock = some b → ¬ F b) (hn : ∀ r ∈ rs, ∀ b, v.ownBlock = some b → r.1.ownBlock ≠ some b) : Bag w F g s vl fs vg G ((v, X) :: rs) bs W :=
  ⟨x.ch, x.lo, x.fi, x.fl, x.below, fun r hr => by
    rcases List.mem_cons.1 hr with rfl | hr
    · exact ⟨RowKeep.row_mono h hb, hF⟩
    · exact x.rows r hr, x.blocks, List.pairwise_cons.2 ⟨hn, x.far⟩⟩
/-- rows that are new lie far from the elder ones -/
theorem Bag.fresh (x : Bag w F g s vl fs vg G rs bs W) {v : Value} {X : List HField} (h : Lst W' W.heap.size v X) : ∀ r ∈ rs, ∀ b, v.ownBlock = some b → r.1.ownBlock ≠ some b := fun r hr b hb e => by
  have h1 := (h.lt b hb).1
  have h2 := row_lt (x.rows r hr).1 e
  omega
theorem Bag.block (x : Bag w F g s vl fs vg G rs bs W) {b : Nat} {t : TypeId} {cs : Array Value} (h : Has W b t cs) (hF : ¬ F b) (hl : w.heap.size ≤ b) : Bag w F g s vl fs vg G rs ((b, t, cs) :: bs) W :=
  ⟨x.ch, x.lo, x.fi, x.fl, x.below, x.rows, fun y hy => by
    rcases List.mem_cons.1 hy with rfl | hy
    · exact ⟨h, hF, hl⟩
    · exact x.blocks y hy, x.far⟩
/-- a block made just now -/
theorem Bag.alloc (x : Bag w F g s vl fs vg G rs bs W) (t : TypeId) (cs : Array Value) : Bag w F g s vl fs vg G rs ((W.heap.size, t, cs) :: bs) (W.alloc (.cells cs t)) :=
  (x.call ((Below.refl W.heap.size W).alloc (Nat.le_refl _) _)).block (Has.new W t cs) (fun e => by have := x.ch.lt _ e; omega) x.below.size
/-- the chain at work -/
theorem Bag.turn (x : Bag w F g s vl fs vg G rs bs W) (hfi : ∀ V, Below w.heap.size w V → Filts V vl fs) (hfl : ∀ V, Below w.heap.size w V → FL V vg G) (hch : Ch W' F' g s') (hs : Step W W' F F') : Bag w F' g s' vl fs vg G rs bs W' := by
  have hb : Below w.heap.size w W' := x.below.trans (hs.below x.below.size x.lo)
  refine ⟨hch, fun k hk => (hs.grow k hk).elim (x.lo k) (fun h => Nat.le_trans x.below.size h.1), hfi _ hb, hfl _ hb, hb, fun r hr => ?_, fun y hy => ?_, x.far⟩
  · obtain ⟨h1, h2⟩ := x.rows r hr
    exact ⟨hs.row h1 h2, fun b hb e => (hs.grow b e).elim (h2 b hb) (fun h => by have := row_lt h1 hb; omega)⟩
  · obtain ⟨h1, h2, h3⟩ := x.blocks y hy
    exact ⟨hs.has h1 h2, fun e => (hs.grow _ e).elim h2 (fun h => by have := h1.lt; omega), h3⟩
/-- a request's two lists -/
theorem Bag.asked (x : Bag w F g s vl fs vg G rs bs W) (hfi : ∀ V, Below w.heap.size w V → Filts V vl fs) (hfl : ∀ V, Below w.heap.size w V → FL V vg G) {fl pl : Value} {X Y : List HField} (h1 : Lst W' W.heap.size fl X) (h2 : Lst W' W.heap.size pl Y) (hap : Apart16 fl pl) (hF : ∀ b, fl.ownBlock = some b ∨ pl.ownBlock = some b → ¬ F' b) (hch : Ch W' F' g s') (hs : Step W W' F F') : Bag w F' g s' vl fs vg G ((fl, X) :: (pl, Y) :: rs) bs W' := by
  refine ((x.turn hfi hfl hch hs).row h2 x.below.size (fun b hb => hF b (.inr hb)) (x.fresh h2)).row h1 x.below.size (fun b hb => hF b (.inl hb)) (fun r hr => ?_)
  rcases List.mem_cons.1 hr with rfl | hr
  · exact hap
  · exact x.fresh h1 r hr
theorem Bag.told (x : Bag w F g s vl fs vg G rs bs W) (hfi : ∀ V, Below w.heap.size w V → Filts V vl fs) (hfl : ∀ V, Below w.heap.size w V → FL V vg G) {l : Value} {X : List HField} (h1 : Lst W' W.heap.size l X) (hF : ∀ b, l.ownBlock = some b → ¬ F' b) (hch : Ch W' F' g s') (hs : Step W W' F F') : Bag w F' g s' vl fs vg G ((l, X) :: rs) bs W' :=
  (x.turn hfi hfl hch hs).row h1 x.below.size hF (x.fresh h1)
/-- a row of a call's own -/
theorem Bag.made (x : Bag w F g s vl fs vg G rs bs W) {l : Value} {X : List HField} (h1 : Lst W' W.heap.size l X) (hb : Below W.heap.size W W') : Bag w F g s vl fs vg G ((l, X) :: rs) bs W' :=
  (x.call hb).row h1 x.below.size (fun b hb e => by have h2 := (h1.lt b hb).1; have h3 := x.ch.lt b e; omega) (x.fresh h1)
end
theorem still_next {fs : List Filt} (h : ∀ f ∈ fs, f.kind ≠ 3 ∧ f.kind ≠ 7) (dv dn : Int → Int) (d : Int) (m : L) (size : Int) (G : List HField) : nxt16 dv dn (start16 fs d) 0 m size G = start16 fs d := by
  unfold nxt16
  rw [if_neg (by unfold refused start16; simp), run_still (start16 fs d).fs _ _ _ h]
  rfl
theorem req_still (dv dn : Int → Int) (fs : List Filt) (d : Int) (m : L) (size : Int) (G : List HField) : (req16 dv dn (start16 fs d) 0 m size G).2 = 0 := by
  unfold req16
  rw [if_neg (by unfold refused start16; simp)]
theorem req_len {fs : List Filt} (hs : ∀ f ∈ fs, f.kind ≠ 3 ∧ f.kind ≠ 7) (hr : ∀ f ∈ fs, filtB f = true) {G : List HField} (hG : FewM G) (hl : G.length + fs.length ≤ 2097152) (d : Int) (m : L) : (req16 dv16 dn16 (start16 fs d) 0 m 0 G).1.fields.length ≤ 4194304 ∧ (req16 dv16 dn16 (start16 fs d) 0 m 0 G).1.pass.length ≤ 4194304 := by
  have h := run_keep (dv := dv16) (dn := dn16) (now := 0) (method := m) (size := 0) fs (fs.map bk16) d G hr hG
  have e : (req16 dv16 dn16 (start16 fs d) 0 m 0 G).1 = (run16 dv16 dn16 0 m 0 fs (fs.map bk16) d G).1 := by
    unfold req16
    rw [if_neg (by unfold refused start16; simp)]
    rfl
  rw [e]
  exact ⟨by have := h.2.1; omega, by have := h.2.2.2; omega⟩
/-- the document's chain asked once: a request -/
theorem doc_req {w W W1 : World} {F2 : Nat → Prop} {vl vg : Value} {fs : List Filt} {G : List HField} {s : Cn} (hsf : s.fs = fs) (hfi : ∀ V, Below w.heap.size w V → Filts V vl fs) (hfl : ∀ V, Below w.heap.size w V → FL V vg G) (hb : Below w.heap.size w W) (hb1 : Below W.heap.size W W1) (hlo : ∀ k, F2 k → W.heap.size ≤ k) :
    Kpt F2 W1 (fun V => Filts V vl s.fs) ∧ Kpt F2 W1 (fun V => FL V vg G) := by
  subst hsf
  have h1 : Below w.heap.size w W1 := below_chain hb hb1
  exact ⟨Kpt.arg (B := w.heap.size) h1.size (fun k hk => Nat.le_trans hb.size (hlo k hk)) (fun V hV => hfi V (h1.trans hV)), Kpt.arg (B := w.heap.size) h1.size (fun k hk => Nat.le_trans hb.size (hlo k hk)) (fun V hV => hfl V (h1.trans hV))⟩
theorem doc_below {W W1 W2 : World} {F2 : Nat → Prop} (hb1 : Below W.heap.size W W1) (hlo : ∀ k, F2 k → W.heap.size ≤ k) (hs : Step W1 W2 F2 F2) : Below W.heap.size W W2 :=
  hb1.trans (hs.below hb1.size hlo)
theorem Bag.doc_said {w W W1 W2 : World} {F F2 : Nat → Prop} {g : Nat} {s : Cn} {vl : Value} {fs : List Filt} {vg : Value} {G : List HField} {rs : List (Value × List HField)} {bs : List (Nat × TypeId × Array Value)} {fl pl : Value} {X Y : List HField} (x : Bag w F g s vl fs vg G rs bs W) (hb1 : Below W.heap.size W W1) (hlo : ∀ k, F2 k → W.heap.size ≤ k) (hs : Step W1 W2 F2 F2)
    (h1 : Lst W2 W1.heap.size fl X) (h2 : Lst W2 W1.heap.size pl Y) (hap : Apart16 fl pl) : Bag w F g s vl fs vg G ((fl, X) :: (pl, Y) :: rs) bs W2 := by
  have hb := doc_below hb1 hlo hs
  have h1' : Lst W2 W.heap.size fl X := RowKeep.row_mono h1 hb1.size
  have h2' : Lst W2 W.heap.size pl Y := RowKeep.row_mono h2 hb1.size
  refine (x.made h2' hb).row h1' x.below.size (fun b hb e => by have h3 := (h1'.lt b hb).1; have h4 := x.ch.lt b e; omega) (fun r hr => ?_)
  rcases List.mem_cons.1 hr with rfl | hr
  · exact hap
  · exact x.fresh h1' r hr
/-- behind the marking -/
theorem Bag.past {w W W' : World} {F : Nat → Prop} {g : Nat} {s : Cn} {vl : Value} {fs : List Filt} {vg : Value} {G : List HField} {rs : List (Value × List HField)} {bs : List (Nat × TypeId × Array Value)} (x : Bag w F g s vl fs vg G rs bs W) {gl : Nat} {cs : Array Value} (hgl : (gl, 32, cs) ∈ bs) {a b c : Value × List HField} (ha : a ∈ rs) (hb : b ∈ rs) (hc : c ∈ rs)
    (st : Step W W' (L16Mark.Fm gl (L16Mark.v3 a.1 b.1 c.1)) (L16Mark.Fm gl (L16Mark.v3 a.1 b.1 c.1))) :
    Below w.heap.size w W' ∧ (∀ r ∈ rs, (∀ k, a.1.ownBlock = some k → r.1.ownBlock ≠ some k) → (∀ k, b.1.ownBlock = some k → r.1.ownBlock ≠ some k) → (∀ k, c.1.ownBlock = some k → r.1.ownBlock ≠ some k) → Lst W' w.heap.size r.1 r.2) ∧
      (∀ y ∈ bs, y.2.1 ≠ 32 → y.2.1 ≠ 54 → Has W' y.1 y.2.1 y.2.2) := by
  obtain ⟨g1, _, g3⟩ := x.blocks _ hgl
  have three : ∀ k, (∃ j, j < 3 ∧ (L16Mark.v3 a.1 b.1 c.1 j).ownBlock = some k) → (∃ r ∈ rs, r.1.ownBlock = some k) := by
    rintro k ⟨j, hj, e⟩
    rcases L16Mark.lt3 hj with rfl | rfl | rfl
    · exact ⟨a, ha, e⟩
    · exact ⟨b, hb, e⟩
    · exact ⟨c, hc, e⟩
  refine ⟨x.below.trans (st.below x.below.size (fun k hk => ?_)), fun r hr h1 h2 h3 => st.row (x.rows r hr).1 (fun k hk => L16Mark.not_Fm (fun e => row_ne (x.rows r hr).1 g1 (show 54 ≠ 32 by decide) (by rw [hk, e])) h1 h2 h3 hk), fun y hy n1 n2 => st.has (x.blocks y hy).1 ?_⟩
  · rcases hk with rfl | hk
    · exact g3
    · obtain ⟨r, hr, e⟩ := three k hk
      exact ((x.rows r hr).1.lt k e).1
  · rintro (e | hk)
    · exact Has.ne_ (x.blocks y hy).1 g1 n1 e
    · obtain ⟨r, hr, e⟩ := three _ hk
      exact row_ne (x.rows r hr).1 (x.blocks y hy).1 (fun q => n2 q.symm) e
end Go.Proofs.Ytfdpoibmlggfbaa.L16Bag

/- Answers are memory of their own: FilterMemory returns true, for what comes in of bulk at most 1048576. -/
namespace Go.Proofs.Ytfdpoibmlggfbaa.FilterMemoryW
open Go.ChangeShapes Go.WideShapes Go.ChangeAt Go.RowKit Bytes LexPure ConfPure ConfMem FieldsPure Flds FilterPure FilterMore FiltState FiltKeep FiltObj L16Anchor L16Right L16Copy L16Same L16Bag L16Mark R16Box R16Req R16New FiltBack RowsArg RouStep RowKeep Texts Ret Mem Step
set_option maxRecDepth 100000
set_option linter.unusedVariables false
set_option linter.unusedSimpArgs false
theorem slice_ptr {p q : Option Addr} {n c m d : Nat} (h : Value.slice p n c = .slice q m d) : p = q := by injection h
theorem row_cap {w : World} {p : Option Addr} {n cap base size : Nat} {e : TypeId} {xs : List Value} (hr : w.ownsRow base e size (.slice p n cap) n xs) : n ≤ cap ∧ cap ≤ 9223372036854775807 := by
  rcases hr.2 with ⟨h, _⟩ | ⟨g, c, cur, h, _, _, h2, h3, _⟩
  · injection h with _ h1 h2
    omega
  · injection h with _ _ h
    subst h
    exact ⟨h2, h3⟩
theorem few_m {G : List HField} (h : Few G) : FewM G := fun f hf => by
  obtain ⟨j, hj, rfl⟩ := List.getElem_of_mem hf
  exact h j hj
/-- the front of a list -/
theorem fl_pre {w : World} {p : Option Addr} {m cap : Nat} {G K : List HField} (h : FL w (.slice p m cap) (G ++ K)) (cap' : Nat) : FL w (.slice p G.length cap') G := by
  obtain ⟨p', c', hv, hle, hc⟩ := h
  injection hv with e1 _ _
  subst e1
  have hl : (G ++ K).length = G.length + K.length := by simp
  refine ⟨p, cap', rfl, by omega, fun h0 => ?_⟩
  obtain ⟨g, o, rfl, hlt, hcell⟩ := hc (by omega)
  refine ⟨g, o, rfl, hlt, fun j hj => ?_⟩
  have := hcell j (by omega)
  rw [List.getElem_append_left hj] at this
  exact this
def spare : List HField := [([115, 112, 97, 114, 101], []), ([114, 111, 111, 109], [])]
theorem room_cells {w : World} {base g m c : Nat} {G : List HField} (hr : Lst w base (.slice (some ⟨g, 0, none⟩) m c) (G ++ spare)) :
    w.cell? ⟨g, G.length * 2, none⟩ = some (.string ⟨#[115, 112, 97, 114, 101]⟩) ∧ w.cell? ⟨g, (G.length + 1) * 2, none⟩ = some (.string ⟨#[114, 111, 111, 109]⟩) := by
  have hc := hr.cells (g := g) rfl
  have a1 := hc _ _ (encFs_at (G ++ spare) G.length ([115, 112, 97, 114, 101], []) (by simp [spare])).1
  have a2 := hc _ _ (encFs_at (G ++ spare) (G.length + 1) ([114, 111, 111, 109], []) (by simp [spare])).1
  rw [FArg.add_plain, Nat.zero_add] at a1 a2
  exact ⟨a1, a2⟩
theorem has_some {w : World} {g : Nat} {t : TypeId} {cs : Array Value} (h : Has w g t cs) {i : Nat} (hi : i < cs.size) : ∃ v, w.cell? ⟨g, i, none⟩ = some v := ⟨cs[i], by rw [h.cell, Array.getElem?_eq_getElem hi]⟩
theorem arg_of {w : World} {base g m c : Nat} {G : List HField} (hr : Lst w base (.slice (some ⟨g, 0, none⟩) m c) (G ++ spare)) (hl : G.length ≤ 1048576) : FL w (.slice (some ⟨g, 0, none⟩) G.length c) G := by
  have h := fl_of hr (by rw [List.length_append]; simp [spare]; omega)
  exact fl_pre h c
/-- what a law was handed, and stays -/
structure Hd (w : World) (vl : Value) (fs : List Filt) (vg : Value) (G : List HField) (W : World) : Prop where
  fi : Filts W vl fs
  fl : FL W vg G
  below : Below w.heap.size w W
theorem Hd.call {w W W' : World} {vl vg : Value} {fs : List Filt} {G : List HField} (x : Hd w vl fs vg G W) (hb : Below W.heap.size W W') : Hd w vl fs vg G W' := ⟨x.fi.below hb, x.fl.below hb, below_chain x.below hb⟩
set_option maxHeartbeats 12800000 in
theorem walkIn (fs : List Filt) (vl : Value) (hx : ∀ x ∈ fs, FitFilt x) (hfl : fs.length ≤ 1048576) (hfn : RowsArg.Nice vl fs.length) (G : List HField) (vg : Value) (hG : Few G) (hgl : G.length ≤ 1048576) (hgn : FRow.Nice vg G.length) (w : World) (hFi : Filts w vl fs) (hF : FL w vg G) :
    Calls Try.prog 6 #[vl, vg] w fun e w' => e = .returned (.bool true) ∧ Below w.heap.size w w' := by
  obtain ⟨i0, hi, hz0, hz1, hz2⟩ := info_parts infoFi
  obtain ⟨j0, hj, hy0, hy1, hy2⟩ := info_parts infoF
  have HAn := Lib.hid (fun w => anchor_any w)
  have HRi := Lib.hid (fun w h => right_any fs hx vl w h)
  have HB := Lib.hid (show Hd w vl fs vg G w from ⟨hFi, hF, Below.refl _ _⟩)
  have HKi := Lib.hid (fun V (h : Below w.heap.size w V) => hFi.below h)
  have HKl := Lib.hid (fun V (h : Below w.heap.size w V) => hF.below h)
  obtain ⟨pf, cf, rfl, -, -⟩ := hFi.parts
  obtain ⟨pg, cg, rfl, -, -⟩ := id hF
  have HN1 := Lib.hid hfn
  have HN2 := Lib.hid hgn
  have HG := Lib.hid (few_m hG)
  clear hFi hF hx hfn hgn hG
  obtain ⟨b, hb⟩ : ∃ b, b = fs.all filtB := ⟨_, rfl⟩
  rw [← hb] at HRi
  have HBb := Lib.hid hb
  clear hb
  go_enter Try.func6, Try.ntmps6
  go_wp2_with fail
  refine (HAn.out _).mono ?_
  rintro e w1 ⟨rfl, hb1⟩
  have HB1 := Lib.hid (HB.out.call hb1)
  clear hb1 HAn HB
  go_wp2_with fail
  refine (HRi.out w1 HB1.out.fi).mono ?_
  rintro e w2 ⟨rfl, hb2⟩
  have HB2 := Lib.hid (HB1.out.call hb2)
  clear hb2 HRi HB1
  cases b
  · go_wp2_with fail
    go_ret
    exact ⟨rfl, HB2.out.below⟩
  have HR : Hid (∀ f ∈ fs, filtB f = true) := Lib.hid (List.all_eq_true.1 HBb.out.symm)
  have HK0 : Hid (∀ f ∈ fs.take 0, f.kind ≠ 3 ∧ f.kind ≠ 7) := Lib.hid (fun f hf => by simp at hf)
  clear HBb
  go_wp2_with fail
  go_loopw [29] (fun i wr => ∃ k : Nat, k ≤ fs.length ∧ i = .int .i64 k ∧ Hid (∀ f ∈ fs.take k, f.kind ≠ 3 ∧ f.kind ≠ 7) ∧ Hid (Hd w (.slice pf fs.length cf) fs (.slice pg G.length cg) G wr)) (fun i _ => fs.length - (intOf i).toNat)
  case atStart => exact ⟨0, Nat.zero_le _, rfl, HK0, HB2⟩
  case round =>
    obtain ⟨k, hk, rfl, HK, HJ⟩ := hrel
    clear HB2 HK0
    by_cases hlt : k < fs.length
    · have hki : (k : Int) < (fs.length : Int) := by omega
      have hk0 : (0 : Int) ≤ (k : Int) := by omega
      obtain ⟨x, hx⟩ : ∃ x, Hid (x = fs[k]) := ⟨_, Lib.hid rfl⟩
      obtain ⟨gf, ff, rfl, m0, m1, m2, m3, m4, m5⟩ := filt_at HJ.out.fi k hlt x hx.out
      have HJ1 := Lib.hid (HJ.out.call ((Below.refl wr.heap.size wr).alloc (Nat.le_refl _) (.cells #[.int .i64 x.kind, .string (ofL x.name), .string (ofL x.value), .int .i64 x.n, .int .i64 x.m, .int .i64 x.k] 29)))
      rcases (show x.kind = 3 ∨ x.kind = 7 ∨ (x.kind ≠ 3 ∧ x.kind ≠ 7) from by omega) with z | z | ⟨z3, z7⟩
      · rw [z] at m0 HJ1
        have HE := Lib.hid HJ1.out.below
        clear z HJ HJ1
        go_wp2_with fail
        go_ret
        exact ⟨rfl, HE.out⟩
      · rw [z] at m0 HJ1
        have HE := Lib.hid HJ1.out.below
        clear z HJ HJ1
        go_wp2_with fail
        go_ret
        exact ⟨rfl, HE.out⟩
      · have HK1 : Hid (∀ f ∈ fs.take (k + 1), f.kind ≠ 3 ∧ f.kind ≠ 7) := Lib.hid (fun f hf => by
          rw [List.take_succ_eq_append_getElem hlt] at hf
          rcases List.mem_append.1 hf with hf | hf
          · exact HK.out f hf
          · rw [List.mem_singleton.1 hf, ← hx.out]; exact ⟨z3, z7⟩)
        have t3 : (x.kind == 3) = false := beq_eq_false_iff_ne.2 z3
        have t7 : (x.kind == 7) = false := beq_eq_false_iff_ne.2 z7
        clear HJ z3 z7
        go_wp2_with fail
        go_roundw
        case rel => exact ⟨k + 1, by omega, by go_num, HK1, HJ1⟩
        case measure => simp [intOf]; omega
    obtain rfl : k = fs.length := by omega
    have HS : Hid (∀ f ∈ fs, f.kind ≠ 3 ∧ f.kind ≠ 7) := Lib.hid (by have h := HK.out; rw [List.take_length] at h; exact h)
    clear HK
    generalize wr = w2 at *
    have hF2 := (HJ.out.call ((Below.refl w2.heap.size w2).alloc (Nat.le_refl _) (.cells #[] 29))).fi
    have hsz : w2.heap.size ≤ (w2.alloc (.cells #[] 29)).heap.size := by simp
    have hown := ownsFi_none w2 w2.heap.size (Nat.le_refl _)
    go_wp2_with (at_builtin; refine wpList_append_rows rfl _ _ 22 rfl 29 i0 (.agg #[.int .i64 0, .string .empty, .string .empty, .int .i64 0, .int .i64 0, .int .i64 0]) 6 64 Try.underlying22 hi hz0 hz1 hz2 rfl (by decide) w2.heap.size (.slice (some ⟨w2.heap.size, 0, none⟩) 0 0) 0 [] rfl hown (.slice pf fs.length cf) fs.length _ rfl hF2 HN1.out (encFi fs) (fi_len fs) (fun i hi j hj => fi_get fs i hi j hj) (fi_cells fs) (by unfold maxLen; omega) (by omega) hsz ?_; intro v4 w4 hown4 hg4 _)
    obtain ⟨hrow, hb4⟩ := copiedFi hown4 hg4
    have HV := Lib.hid (filts_of hrow)
    have HB4 := Lib.hid (HJ.out.call hb4)
    obtain ⟨p4, c4, rfl, -, -⟩ := HV.out.parts
    clear hrow hb4 hown4 hg4 hF2 hsz hown HJ hi hz0 hz1 hz2
    go_wp2_with fail
    refine (pnew16 fs HR.out (by omega) 0 ⟨by decide, by decide⟩ _ w4 HV.out).mono ?_
    rintro e w5 ⟨⟨g, F, rfl, hch, hlo⟩, hb5⟩
    obtain ⟨s0, hs0⟩ : ∃ s0, Hid (s0 = start16 fs (seed16 0)) := ⟨_, Lib.hid rfl⟩
    rw [← hs0.out] at hch
    have HLn : Hid (s0.fs = fs) := Lib.hid (by rw [hs0.out]; rfl)
    have HM5 := Lib.hid (show Bag w F g s0 (.slice pf fs.length cf) fs (.slice pg G.length cg) G [] [] w5 from ⟨hch, fun k hk => Nat.le_trans HB4.out.below.size (hlo k hk), (HB4.out.call hb5).fi, (HB4.out.call hb5).fl, (HB4.out.call hb5).below, fun r hr => by simp at hr, fun r hr => by simp at hr, List.Pairwise.nil⟩)
    clear hch hlo hb5 HB4 HV
    have hF5 := (HM5.out.call ((Below.refl w5.heap.size w5).alloc (Nat.le_refl _) (.cells #[] 54))).fl
    have hsz5 : w5.heap.size ≤ (w5.alloc (.cells #[] 54)).heap.size := by simp
    go_wp2_with (first
      | (at_builtin; refine FRow.wpList_append_list rfl _ _ rfl w5.heap.size _ 0 [] rfl (FRow.owns_none w5 _ _ (Nat.le_refl _)) _ G rfl hF5 HN2.out (by omega) hsz5 ?_; intro v6 w6 hown6 hg6; obtain ⟨hrow, hb6⟩ := FRow.copied hown6 hg6; have hrow6 := row_below hrow ((Below.refl w6.heap.size w6).alloc (Nat.le_refl _) (.cells #[.string ⟨#[115, 112, 97, 114, 101]⟩, .string ⟨#[]⟩, .string ⟨#[114, 111, 111, 109]⟩, .string ⟨#[]⟩] 54)); have hnw6 := World.news_of_block (heap_alloc_new w6 (.cells #[.string ⟨#[115, 112, 97, 114, 101]⟩, .string ⟨#[]⟩, .string ⟨#[114, 111, 111, 109]⟩, .string ⟨#[]⟩] 54)); have hsz6 : w5.heap.size ≤ (w6.alloc (.cells #[.string ⟨#[115, 112, 97, 114, 101]⟩, .string ⟨#[]⟩, .string ⟨#[114, 111, 111, 109]⟩, .string ⟨#[]⟩] 54)).heap.size := by have := hb6.size; simp; omega)
      | (at_builtin; refine wpList_append_own_at _ rfl _ _ 32 rfl w5.heap.size 54 j0 _ 2 32 Try.underlying32 hj hy0 hy1 hy2 rfl (by omega) v6 _ _ rfl hrow6 ⟨w6.heap.size, 0, none⟩ 2 2 [.string ⟨#[115, 112, 97, 114, 101]⟩, .string ⟨#[]⟩, .string ⟨#[114, 111, 111, 109]⟩, .string ⟨#[]⟩] rfl rfl hnw6 (by simp [Value.oneCell']) (by simp only [maxLen]; omega) (by omega) hsz6 ?_; intro v7 w7 hown7 hg7 _ hat7; obtain ⟨pr, cr, rfl, hcr1⟩ := RowKeep.row_form hown7; obtain ⟨gr, cr2, hpr, -⟩ := RowKeep.row_at hown7 (by omega); obtain rfl : pr = some ⟨gr, 0, none⟩ := slice_ptr hpr; have hcr2 : cr ≤ 9223372036854775807 := (row_cap hown7).2; have hcri : (G.length : Int) ≤ (cr : Int) := (by omega); have hcrj : (cr : Int) ≤ 9223372036854775807 := (by omega)))
    have hb7 : Below w5.heap.size w5 w7 := (hb6.alloc hb6.size (.cells #[.string ⟨#[115, 112, 97, 114, 101]⟩, .string ⟨#[]⟩, .string ⟨#[114, 111, 111, 109]⟩, .string ⟨#[]⟩] 54)).grown hg7 hsz6 (fun j hj => (hrow6.lt j hj).1)
    have HM7 := Lib.hid (HM5.out.made (l := .slice (some ⟨gr, 0, none⟩) (G.length + 2) cr) (X := G ++ spare) (by unfold Lst; rw [encFs_append, List.length_append]; exact hown7) hb7)
    clear hrow hb6 hrow6 hnw6 hsz6 hown6 hg6 hown7 hg7 hat7 hF5 hsz5 hb7 HM5 hcr2 hcrj
    have HA7 := Lib.hid (fun V (h : Lst V w.heap.size (.slice (some ⟨gr, 0, none⟩) (G.length + 2) cr) (G ++ spare)) => arg_of h (by omega))
    obtain ⟨V, hV⟩ : ∃ V, Hid (req16 dv16 dn16 s0 0 (toL ⟨#[79, 80, 84, 73, 79, 78, 83]⟩) 0 G = (V, 0)) := ⟨(req16 dv16 dn16 s0 0 (toL ⟨#[79, 80, 84, 73, 79, 78, 83]⟩) 0 G).1, Lib.hid (Prod.ext rfl (by rw [hs0.out]; exact req_still _ _ _ _ _ _ _))⟩
    have HQ : Hid (∀ F W, Ch W F g s0 → FL W (.slice (some ⟨gr, 0, none⟩) G.length cr) G → Calls Try.prog 16 #[.pointer (some ⟨g, 0, none⟩), .int .i64 0, .string ⟨#[79, 80, 84, 73, 79, 78, 83]⟩, (.slice (some ⟨gr, 0, none⟩) G.length cr), .int .i64 0] W fun e w' => ReqC W w' e F g (V, 0) s0) := Lib.hid (fun F W h1 h2 => by
      have h := preq16 F g s0 0 ⟨by decide, by decide⟩ ⟨#[79, 80, 84, 73, 79, 78, 83]⟩ (by decide) 0 ⟨by decide, by decide⟩ _ G HG.out (by rw [HLn.out]; omega) W h1 h2
      rw [hV.out, hs0.out, still_next HS.out, ← hs0.out] at h
      exact h)
    have HT : Hid (∀ F W, Ch W F g s0 → FL W (.slice (some ⟨gr, 0, none⟩) G.length cr) G → Calls Try.prog 14 #[.pointer (some ⟨g, 0, none⟩), (.slice (some ⟨gr, 0, none⟩) G.length cr)] W fun e w' => RespC W w' e F g (resp16 fs G) s0) := Lib.hid (fun F W h1 h2 => by
      have h := presp16 F g s0 _ G HG.out (by rw [HLn.out]; omega) W h1 h2
      rw [HLn.out] at h
      exact h)
    have HVk := Lib.hid (req_len HS.out HR.out HG.out (show G.length + fs.length ≤ 2097152 by omega) (seed16 0) (toL ⟨#[79, 80, 84, 73, 79, 78, 83]⟩))
    rw [← hs0.out, hV.out] at HVk
    have HVf : Hid (V.fields.length ≤ 4194304) := Lib.hid HVk.out.1
    have HVp : Hid (V.pass.length ≤ 4194304) := Lib.hid HVk.out.2
    have HlR : Hid ((resp16 fs G).length ≤ 4194304) := Lib.hid (by have := (resp_keep fs G HR.out HG.out).2; omega)
    obtain ⟨R, hRR⟩ : ∃ R, Hid (resp16 fs G = R) := ⟨_, Lib.hid rfl⟩
    rw [hRR.out] at HT HlR
    go_wp2_with fail
    refine (HQ.out F w7 HM7.out.ch (HA7.out _ (HM7.out.rows (.slice (some ⟨gr, 0, none⟩) (G.length + 2) cr, G ++ spare) (by simp)).1)).mono ?_
    rintro e w8 ⟨fl, pl, F8, rfl, hfl, hpl, hap, hnF, hch, hst⟩
    obtain ⟨pa, ca, rfl, -⟩ := RowKeep.row_form hfl
    obtain ⟨pb, cb, rfl, -⟩ := RowKeep.row_form hpl
    have HM8 := Lib.hid ((HM7.out.asked HKi.out HKl.out hfl hpl hap hnF hch hst).alloc 38 (vrdA V (.slice pa V.fields.length ca) (.slice pb V.pass.length cb)))
    clear hfl hpl hap hnF hch hst HM7
    unfold vrdA at *
    go_wp2_with fail
    generalize hga : w8.heap.size = ga at *
    generalize hw8 : w8.alloc _ = W8 at *
    clear hga hw8
    refine (HQ.out F8 W8 HM8.out.ch (HA7.out _ (HM8.out.rows (.slice (some ⟨gr, 0, none⟩) (G.length + 2) cr, G ++ spare) (by simp)).1)).mono ?_
    rintro e w9 ⟨fl, pl, F9, rfl, hfl, hpl, hap, hnF, hch, hst⟩
    obtain ⟨pc, cc, rfl, -⟩ := RowKeep.row_form hfl
    obtain ⟨pd, cd, rfl, -⟩ := RowKeep.row_form hpl
    have HM9 := Lib.hid ((HM8.out.asked HKi.out HKl.out hfl hpl hap hnF hch hst).alloc 38 (vrdA V (.slice pc V.fields.length cc) (.slice pd V.pass.length cd)))
    clear hfl hpl hap hnF hch hst HM8 HQ
    unfold vrdA at *
    go_wp2_with fail
    generalize hgb : w9.heap.size = gb at *
    generalize hw9 : w9.alloc _ = W9 at *
    clear hgb hw9
    refine (HT.out F9 W9 HM9.out.ch (HA7.out _ (HM9.out.rows (.slice (some ⟨gr, 0, none⟩) (G.length + 2) cr, G ++ spare) (by simp)).1)).mono ?_
    rintro e w10 ⟨l, F10, rfl, hl, hnF, hch, hst⟩
    obtain ⟨pe, ce, rfl, -⟩ := RowKeep.row_form hl
    have HM10 := Lib.hid (HM9.out.told HKi.out HKl.out hl hnF hch hst)
    clear hl hnF hch hst HM9
    go_wp2_with fail
    refine (HT.out F10 w10 HM10.out.ch (HA7.out _ (HM10.out.rows (.slice (some ⟨gr, 0, none⟩) (G.length + 2) cr, G ++ spare) (by simp)).1)).mono ?_
    rintro e w11 ⟨l, F11, rfl, hl, hnF, hch, hst⟩
    obtain ⟨pq, cq, rfl, -⟩ := RowKeep.row_form hl
    have HM11 := Lib.hid (HM10.out.told HKi.out HKl.out hl hnF hch hst)
    clear hl hnF hch hst HM10 HT
    go_wp2_with fail
    refine (rnew16 fs HR.out (by omega) 0 ⟨by decide, by decide⟩ _ w11 HM11.out.fi).mono ?_
    rintro e w12 ⟨⟨g2, F2, rfl, hch, hlo⟩, hb12⟩
    rw [← hs0.out] at hch
    obtain ⟨hd1, hd2⟩ := doc_req HLn.out HKi.out HKl.out HM11.out.below hb12 hlo
    have hq := rreq16 F2 g2 _ s0 0 ⟨#[79, 80, 84, 73, 79, 78, 83]⟩ 0 _ G HG.out (by rw [HLn.out]; omega) w12 hch hd1 hd2
    rw [hV.out] at hq
    have HQ := Lib.hid hq
    have HM12 := Lib.hid (And.intro hb12 hlo)
    clear hq hch hlo hb12 hd1 hd2
    go_wp2_with fail
    refine HQ.out.mono ?_
    rintro e w13 ⟨fl, pl, rfl, hfl, hpl, hap, hch, hst⟩
    obtain ⟨px, cx, rfl, -⟩ := RowKeep.row_form hfl
    obtain ⟨py, cy, rfl, -⟩ := RowKeep.row_form hpl
    have HM13 := Lib.hid ((HM11.out.doc_said HM12.out.1 HM12.out.2 hst hfl hpl hap).alloc 42 (vrdA V (.slice px V.fields.length cx) (.slice py V.pass.length cy)))
    clear hfl hpl hap hch hst HM11 HM12 HQ
    unfold vrdA at *
    obtain ⟨cs1, cs2⟩ := room_cells (HM13.out.rows (.slice (some ⟨gr, 0, none⟩) (G.length + 2) cr, G ++ spare) (by simp)).1
    have ha := (HM13.out.blocks (ga, 38, #[.bool V.stop, .int .i64 V.status, .slice pa V.fields.length ca, .string (ofL V.body), .slice pb V.pass.length cb]) (by simp)).1
    have a0 : (w13.alloc (.cells #[.bool V.stop, .int .i64 V.status, .slice px V.fields.length cx, .string (ofL V.body), .slice py V.pass.length cy] 42)).cell? ⟨ga, 0, none⟩ = some (.bool V.stop) := ha.cell 0
    have a1 : (w13.alloc (.cells #[.bool V.stop, .int .i64 V.status, .slice px V.fields.length cx, .string (ofL V.body), .slice py V.pass.length cy] 42)).cell? ⟨ga, 1, none⟩ = some (.int .i64 V.status) := ha.cell 1
    have a2 : (w13.alloc (.cells #[.bool V.stop, .int .i64 V.status, .slice px V.fields.length cx, .string (ofL V.body), .slice py V.pass.length cy] 42)).cell? ⟨ga, 2, none⟩ = some (.slice pa V.fields.length ca) := ha.cell 2
    have a3 : (w13.alloc (.cells #[.bool V.stop, .int .i64 V.status, .slice px V.fields.length cx, .string (ofL V.body), .slice py V.pass.length cy] 42)).cell? ⟨ga, 3, none⟩ = some (.string (ofL V.body)) := ha.cell 3
    have a4 : (w13.alloc (.cells #[.bool V.stop, .int .i64 V.status, .slice px V.fields.length cx, .string (ofL V.body), .slice py V.pass.length cy] 42)).cell? ⟨ga, 4, none⟩ = some (.slice pb V.pass.length cb) := ha.cell 4
    have hd := (HM13.out.blocks (w13.heap.size, 42, #[.bool V.stop, .int .i64 V.status, .slice px V.fields.length cx, .string (ofL V.body), .slice py V.pass.length cy]) (by simp)).1
    have d0 : (w13.alloc (.cells #[.bool V.stop, .int .i64 V.status, .slice px V.fields.length cx, .string (ofL V.body), .slice py V.pass.length cy] 42)).cell? ⟨w13.heap.size, 0, none⟩ = some (.bool V.stop) := hd.cell 0
    have d1 : (w13.alloc (.cells #[.bool V.stop, .int .i64 V.status, .slice px V.fields.length cx, .string (ofL V.body), .slice py V.pass.length cy] 42)).cell? ⟨w13.heap.size, 1, none⟩ = some (.int .i64 V.status) := hd.cell 1
    have d2 : (w13.alloc (.cells #[.bool V.stop, .int .i64 V.status, .slice px V.fields.length cx, .string (ofL V.body), .slice py V.pass.length cy] 42)).cell? ⟨w13.heap.size, 2, none⟩ = some (.slice px V.fields.length cx) := hd.cell 2
    have d3 : (w13.alloc (.cells #[.bool V.stop, .int .i64 V.status, .slice px V.fields.length cx, .string (ofL V.body), .slice py V.pass.length cy] 42)).cell? ⟨w13.heap.size, 3, none⟩ = some (.string (ofL V.body)) := hd.cell 3
    have d4 : (w13.alloc (.cells #[.bool V.stop, .int .i64 V.status, .slice px V.fields.length cx, .string (ofL V.body), .slice py V.pass.length cy] 42)).cell? ⟨w13.heap.size, 4, none⟩ = some (.slice py V.pass.length cy) := hd.cell 4
    have g1 : (G.length : Int) < (G.length : Int) + 2 := by omega
    have g2' : (G.length : Int) + 1 < (G.length : Int) + 2 := by omega
    have HS1 := Lib.hid (lsame_any V (.slice pa V.fields.length ca) (.slice pb V.pass.length cb) (.slice px V.fields.length cx) (.slice py V.pass.length cy) (w13.alloc (.cells #[.bool V.stop, .int .i64 V.status, .slice px V.fields.length cx, .string (ofL V.body), .slice py V.pass.length cy] 42)) (fl_of (HM13.out.rows (.slice pa V.fields.length ca, V.fields) (by simp)).1 (Nat.le_trans HVf.out (by decide))) (fl_of (HM13.out.rows (.slice pb V.pass.length cb, V.pass) (by simp)).1 (Nat.le_trans HVp.out (by decide))) (fl_of (HM13.out.rows (.slice px V.fields.length cx, V.fields) (by simp)).1 (Nat.le_trans HVf.out (by decide))) (fl_of (HM13.out.rows (.slice py V.pass.length cy, V.pass) (by simp)).1 (Nat.le_trans HVp.out (by decide))))
    unfold vrdA at HS1
    clear ha hd
    go_wp2_with fail
    refine HS1.out.mono ?_
    rintro e w14 ⟨rfl, hb14⟩
    have HM14 := Lib.hid (HM13.out.call hb14)
    clear hb14 HM13 HS1 cs1 cs2
    generalize w13.heap.size = gw at *
    clear a0
    clear a1
    clear a2
    clear a3
    clear a4
    clear d0
    clear d1
    clear d2
    clear d3
    clear d4
    have hb := (HM14.out.blocks (gb, 38, #[.bool V.stop, .int .i64 V.status, .slice pc V.fields.length cc, .string (ofL V.body), .slice pd V.pass.length cd]) (by simp)).1
    have b0 : w14.cell? ⟨gb, 0, none⟩ = some (.bool V.stop) := hb.cell 0
    have b1 : w14.cell? ⟨gb, 1, none⟩ = some (.int .i64 V.status) := hb.cell 1
    have b2 : w14.cell? ⟨gb, 2, none⟩ = some (.slice pc V.fields.length cc) := hb.cell 2
    have b3 : w14.cell? ⟨gb, 3, none⟩ = some (.string (ofL V.body)) := hb.cell 3
    have b4 : w14.cell? ⟨gb, 4, none⟩ = some (.slice pd V.pass.length cd) := hb.cell 4
    have hd := (HM14.out.blocks (gw, 42, #[.bool V.stop, .int .i64 V.status, .slice px V.fields.length cx, .string (ofL V.body), .slice py V.pass.length cy]) (by simp)).1
    have d0 : w14.cell? ⟨gw, 0, none⟩ = some (.bool V.stop) := hd.cell 0
    have d1 : w14.cell? ⟨gw, 1, none⟩ = some (.int .i64 V.status) := hd.cell 1
    have d2 : w14.cell? ⟨gw, 2, none⟩ = some (.slice px V.fields.length cx) := hd.cell 2
    have d3 : w14.cell? ⟨gw, 3, none⟩ = some (.string (ofL V.body)) := hd.cell 3
    have d4 : w14.cell? ⟨gw, 4, none⟩ = some (.slice py V.pass.length cy) := hd.cell 4
    have HS2 := Lib.hid (lsame_any V (.slice pc V.fields.length cc) (.slice pd V.pass.length cd) (.slice px V.fields.length cx) (.slice py V.pass.length cy) w14 (fl_of (HM14.out.rows (.slice pc V.fields.length cc, V.fields) (by simp)).1 (Nat.le_trans HVf.out (by decide))) (fl_of (HM14.out.rows (.slice pd V.pass.length cd, V.pass) (by simp)).1 (Nat.le_trans HVp.out (by decide))) (fl_of (HM14.out.rows (.slice px V.fields.length cx, V.fields) (by simp)).1 (Nat.le_trans HVf.out (by decide))) (fl_of (HM14.out.rows (.slice py V.pass.length cy, V.pass) (by simp)).1 (Nat.le_trans HVp.out (by decide))))
    unfold vrdA at HS2
    clear hb hd
    go_wp2_with fail
    refine HS2.out.mono ?_
    rintro e w15 ⟨rfl, hb15⟩
    have HM15 := Lib.hid (HM14.out.call hb15)
    clear hb15 HM14 HS2 b0 b1 b2 b3 b4 d0 d1 d2 d3 d4
    have ha := (HM15.out.blocks (ga, 38, #[.bool V.stop, .int .i64 V.status, .slice pa V.fields.length ca, .string (ofL V.body), .slice pb V.pass.length cb]) (by simp)).1
    have a0 : w15.cell? ⟨ga, 0, none⟩ = some (.bool V.stop) := ha.cell 0
    have a1 : w15.cell? ⟨ga, 1, none⟩ = some (.int .i64 V.status) := ha.cell 1
    have a2 : w15.cell? ⟨ga, 2, none⟩ = some (.slice pa V.fields.length ca) := ha.cell 2
    have a3 : w15.cell? ⟨ga, 3, none⟩ = some (.string (ofL V.body)) := ha.cell 3
    have a4 : w15.cell? ⟨ga, 4, none⟩ = some (.slice pb V.pass.length cb) := ha.cell 4
    have HM16 := Lib.hid (HM15.out.alloc 32 #[.slice pa V.fields.length ca, .slice pb V.pass.length cb, .slice pe R.length ce])
    obtain ⟨hk0, hk1⟩ := Mk3.start (base := w.heap.size) (HM16.out.blocks (w15.heap.size, 32, #[.slice pa V.fields.length ca, .slice pb V.pass.length cb, .slice pe R.length ce]) (by simp)).1 (HM16.out.rows (.slice pa V.fields.length ca, V.fields) (by simp)).1 (HM16.out.rows (.slice pb V.pass.length cb, V.pass) (by simp)).1 (HM16.out.rows (.slice pe R.length ce, R) (by simp)).1
    have hsp := sep3 (a := .slice pa V.fields.length ca) (b := .slice pb V.pass.length cb) (c := .slice pe R.length ce) (List.pairwise_iff_getElem.1 HM16.out.far 6 7 (by simp) (by simp) (by decide)) (fun k h1 h2 => (List.pairwise_iff_getElem.1 HM16.out.far 3 6 (by simp) (by simp) (by decide)) k h2 h1) (fun k h1 h2 => (List.pairwise_iff_getElem.1 HM16.out.far 3 7 (by simp) (by simp) (by decide)) k h2 h1)
    have hnl := v3_le HVf.out HVp.out HlR.out
    obtain ⟨vs, hvs⟩ : ∃ vs, Hid (vs = v3 (Value.slice pa V.fields.length ca) (.slice pb V.pass.length cb) (.slice pe R.length ce)) := ⟨_, Lib.hid rfl⟩
    obtain ⟨ns, hns⟩ : ∃ ns, Hid (ns = v3 V.fields.length V.pass.length R.length) := ⟨_, Lib.hid rfl⟩
    rw [← hvs.out, ← hns.out] at hk0 hk1
    rw [← hvs.out] at hsp
    rw [← hns.out] at hnl
    obtain ⟨W16, hW16⟩ : ∃ W, Hid (W = (w15.alloc (.cells #[.slice pa V.fields.length ca, .slice pb V.pass.length cb, .slice pe R.length ce] 32))) := ⟨_, Lib.hid rfl⟩
    have HK0 : Hid (Mk3 W16 w.heap.size w15.heap.size vs ns 0 (w15.alloc (.cells #[.slice pa V.fields.length ca, .slice pb V.pass.length cb, .slice pe R.length ce] 32))) := Lib.hid (by rw [hW16.out]; exact hk0)
    have HK1 := Lib.hid hk1
    have HSz : Hid (w.heap.size ≤ W16.heap.size) := Lib.hid (by rw [hW16.out]; exact HM16.out.below.size)
    have HSp := Lib.hid hsp
    have HNl := Lib.hid hnl
    clear ha hk0 hk1 hsp hnl HM15
    go_wp2_with fail
    go_loopw [121] (fun i wr => ∃ k : Nat, k ≤ 3 ∧ i = .int .i64 k ∧ Hid (Mk3 W16 w.heap.size w15.heap.size vs ns k wr)) (fun i _ => 3 - (intOf i).toNat)
    case atStart => exact ⟨0, by omega, rfl, HK0⟩
    case round =>
      obtain ⟨k, hk, rfl, HJ⟩ := hrel
      clear HK0 a0 a1 a2 a3 a4
      by_cases hlt : k < 3
      · have hki : (k : Int) < 3 := by omega
        have hk0 : (0 : Int) ≤ (k : Int) := by omega
        obtain ⟨p1, c1, hform⟩ := HK1.out k hlt
        have e0 : wr.cell? ⟨w15.heap.size, k, none⟩ = some (.slice p1 (ns k) c1) := by rw [← hform]; exact HJ.out.cell hlt
        have HFo := Lib.hid hform
        have hnk : ns k ≤ 4194304 := HNl.out k hlt
        clear hform
        go_wp2_with fail
        go_loopw [128] (fun i wr => ∃ m : Nat, m ≤ ns k ∧ i = .int .i64 m ∧ Hid (Mk3 W16 w.heap.size w15.heap.size vs ns k wr)) (fun i _ => ns k - (intOf i).toNat)
        case atStart => exact ⟨0, Nat.zero_le _, rfl, HJ⟩
        case round =>
          obtain ⟨m, hm, rfl, HI⟩ := hrel
          clear HJ e0
          by_cases hml : m < ns k
          · have hmi : (m : Int) < (ns k : Int) := by omega
            obtain ⟨xs, hx⟩ := HI.out.own_ k (Nat.le_refl _) hlt
            obtain ⟨g3, c3, u0, u1, hvg, q0, r0, q1, r1⟩ := fill_open hx hml
            have hvg2 := HFo.out.symm.trans hvg
            injection hvg2 with a1 _ a3
            subst a1 a3
            have HN := Lib.hid (HI.out.mark HSp.out hlt HFo.out (m * 2) (m * 2 + 1) (.string ⟨#[109, 97, 114, 107]⟩) (.string ⟨#[]⟩))
            clear hx hvg HI
            go_wp2_with fail
            go_roundw
            case rel => exact ⟨m + 1, by omega, by go_num, HN⟩
            case measure => simp [intOf]; omega
          · obtain rfl : m = ns k := by omega
            have hJ3 := HI.out.below ((Below.refl wr.heap.size wr).alloc (Nat.le_refl _) (.cells #[.string ⟨#[109, 111, 114, 101]⟩, .string ⟨#[]⟩, .string ⟨#[109, 111, 114, 101]⟩, .string ⟨#[]⟩] 54))
            obtain ⟨xs, hx⟩ := hJ3.own_ k (Nat.le_refl _) hlt
            rw [HFo.out] at hx
            have hnw := World.news_of_block (heap_alloc_new wr (.cells #[.string ⟨#[109, 111, 114, 101]⟩, .string ⟨#[]⟩, .string ⟨#[109, 111, 114, 101]⟩, .string ⟨#[]⟩] 54))
            have hbs : w.heap.size ≤ (wr.alloc (.cells #[.string ⟨#[109, 111, 114, 101]⟩, .string ⟨#[]⟩, .string ⟨#[109, 111, 114, 101]⟩, .string ⟨#[]⟩] 54)).heap.size := Nat.le_trans HSz.out hJ3.step.size
            have HJ3 := Lib.hid hJ3
            clear HI hJ3
            go_wp2_with (at_builtin; refine wpList_append_own_at _ rfl _ _ 32 rfl w.heap.size 54 j0 _ 2 32 Try.underlying32 hj hy0 hy1 hy2 rfl (by omega) (.slice p1 (ns k) c1) _ _ rfl hx ⟨wr.heap.size, 0, none⟩ 2 2 [.string ⟨#[109, 111, 114, 101]⟩, .string ⟨#[]⟩, .string ⟨#[109, 111, 114, 101]⟩, .string ⟨#[]⟩] rfl rfl hnw (by simp [Value.oneCell']) (by simp only [maxLen]; omega) (by omega) hbs ?_; intro v4 w4 hown4 hg4 _ hat4; obtain ⟨p4, c4, rfl, _⟩ := RowKeep.row_form hown4; obtain ⟨hN, cs4, hH4, hcs4⟩ := HJ3.out.grow HSp.out hlt (W4 := w4) (by rw [HFo.out]; exact hg4) (.slice p4 (ns k + 2) c4); have y2 := hH4.free k; obtain ⟨y0, y1⟩ := has_some hH4 (i := k) (by omega))
            have HN := Lib.hid hN
            clear hN hown4 hg4 hat4 hH4 hcs4 y2 y1 HJ3 hnw hbs hx
            generalize (w4.setCell _ _) = w5 at *
            go_wp2_with fail
            go_roundw
            case rel => exact ⟨k + 1, by omega, by go_num, HN⟩
            case measure => simp [intOf]; omega
      · obtain rfl : k = 3 := by omega
        have hst := HJ.out.step
        rw [hvs.out, hW16.out] at hst
        have HP := HM16.out.past (gl := w15.heap.size) (cs := #[.slice pa V.fields.length ca, .slice pb V.pass.length cb, .slice pe R.length ce]) (a := (.slice pa V.fields.length ca, V.fields)) (b := (.slice pb V.pass.length cb, V.pass)) (c := (.slice pe R.length ce, R)) (by simp) (by simp) (by simp) (by simp) hst
        have HBw := Lib.hid HP.1
        have HRo := Lib.hid (HP.2.1 (.slice (some ⟨gr, 0, none⟩) (G.length + 2) cr, G ++ spare) (by simp) (List.pairwise_iff_getElem.1 HM16.out.far 6 8 (by simp) (by simp) (by decide)) (List.pairwise_iff_getElem.1 HM16.out.far 7 8 (by simp) (by simp) (by decide)) (List.pairwise_iff_getElem.1 HM16.out.far 3 8 (by simp) (by simp) (by decide)))
        have HQl := Lib.hid (fl_of (HP.2.1 (.slice pq R.length cq, R) (by simp) (fun k h1 h2 => (List.pairwise_iff_getElem.1 HM16.out.far 2 6 (by simp) (by simp) (by decide)) k h2 h1) (fun k h1 h2 => (List.pairwise_iff_getElem.1 HM16.out.far 2 7 (by simp) (by simp) (by decide)) k h2 h1) (fun k h1 h2 => (List.pairwise_iff_getElem.1 HM16.out.far 2 3 (by simp) (by simp) (by decide)) k h2 h1)) (Nat.le_trans HlR.out (by decide)))
        have hb := HP.2.2 (gb, 38, #[.bool V.stop, .int .i64 V.status, .slice pc V.fields.length cc, .string (ofL V.body), .slice pd V.pass.length cd]) (by simp) (by show 38 ≠ _; decide) (by show 38 ≠ _; decide)
        have b0 : wr.cell? ⟨gb, 0, none⟩ = some (.bool V.stop) := hb.cell 0
        have b1 : wr.cell? ⟨gb, 1, none⟩ = some (.int .i64 V.status) := hb.cell 1
        have b2 : wr.cell? ⟨gb, 2, none⟩ = some (.slice pc V.fields.length cc) := hb.cell 2
        have b3 : wr.cell? ⟨gb, 3, none⟩ = some (.string (ofL V.body)) := hb.cell 3
        have b4 : wr.cell? ⟨gb, 4, none⟩ = some (.slice pd V.pass.length cd) := hb.cell 4
        have hd := HP.2.2 (gw, 42, #[.bool V.stop, .int .i64 V.status, .slice px V.fields.length cx, .string (ofL V.body), .slice py V.pass.length cy]) (by simp) (by show 42 ≠ _; decide) (by show 42 ≠ _; decide)
        have d0 : wr.cell? ⟨gw, 0, none⟩ = some (.bool V.stop) := hd.cell 0
        have d1 : wr.cell? ⟨gw, 1, none⟩ = some (.int .i64 V.status) := hd.cell 1
        have d2 : wr.cell? ⟨gw, 2, none⟩ = some (.slice px V.fields.length cx) := hd.cell 2
        have d3 : wr.cell? ⟨gw, 3, none⟩ = some (.string (ofL V.body)) := hd.cell 3
        have d4 : wr.cell? ⟨gw, 4, none⟩ = some (.slice py V.pass.length cy) := hd.cell 4
        have HS3 := Lib.hid (lsame_any V (.slice pc V.fields.length cc) (.slice pd V.pass.length cd) (.slice px V.fields.length cx) (.slice py V.pass.length cy) wr (fl_of (HP.2.1 (.slice pc V.fields.length cc, V.fields) (by simp) (fun k h1 h2 => (List.pairwise_iff_getElem.1 HM16.out.far 4 6 (by simp) (by simp) (by decide)) k h2 h1) (fun k h1 h2 => (List.pairwise_iff_getElem.1 HM16.out.far 4 7 (by simp) (by simp) (by decide)) k h2 h1) (List.pairwise_iff_getElem.1 HM16.out.far 3 4 (by simp) (by simp) (by decide))) (Nat.le_trans HVf.out (by decide))) (fl_of (HP.2.1 (.slice pd V.pass.length cd, V.pass) (by simp) (fun k h1 h2 => (List.pairwise_iff_getElem.1 HM16.out.far 5 6 (by simp) (by simp) (by decide)) k h2 h1) (fun k h1 h2 => (List.pairwise_iff_getElem.1 HM16.out.far 5 7 (by simp) (by simp) (by decide)) k h2 h1) (List.pairwise_iff_getElem.1 HM16.out.far 3 5 (by simp) (by simp) (by decide))) (Nat.le_trans HVp.out (by decide))) (fl_of (HP.2.1 (.slice px V.fields.length cx, V.fields) (by simp) (fun k h1 h2 => (List.pairwise_iff_getElem.1 HM16.out.far 0 6 (by simp) (by simp) (by decide)) k h2 h1) (fun k h1 h2 => (List.pairwise_iff_getElem.1 HM16.out.far 0 7 (by simp) (by simp) (by decide)) k h2 h1) (fun k h1 h2 => (List.pairwise_iff_getElem.1 HM16.out.far 0 3 (by simp) (by simp) (by decide)) k h2 h1)) (Nat.le_trans HVf.out (by decide))) (fl_of (HP.2.1 (.slice py V.pass.length cy, V.pass) (by simp) (fun k h1 h2 => (List.pairwise_iff_getElem.1 HM16.out.far 1 6 (by simp) (by simp) (by decide)) k h2 h1) (fun k h1 h2 => (List.pairwise_iff_getElem.1 HM16.out.far 1 7 (by simp) (by simp) (by decide)) k h2 h1) (fun k h1 h2 => (List.pairwise_iff_getElem.1 HM16.out.far 1 3 (by simp) (by simp) (by decide)) k h2 h1)) (Nat.le_trans HVp.out (by decide))))
        unfold vrdA at HS3
        clear hb hd HP hst HJ HM16 HK1 HSp HNl
        go_wp2_with fail
        refine HS3.out.mono ?_
        rintro e w20 ⟨rfl, hb20⟩
        have HB20 := Lib.hid (below_chain HBw.out hb20)
        have HR20 := Lib.hid (row_below HRo.out hb20)
        have HQ20 := Lib.hid (HQl.out.below hb20)
        clear hb20 HBw HRo HQl HS3 b0 b1 b2 b3 b4 d0 d1 d2 d3 d4
        go_wp2_with fail
        refine (rnew16 fs HR.out (by omega) 0 ⟨by decide, by decide⟩ _ w20 (HKi.out _ HB20.out)).mono ?_
        rintro e w21 ⟨⟨g3, F3, rfl, hch, -⟩, hb21⟩
        obtain ⟨bv, bl, hp3, -⟩ := hch.parts
        obtain ⟨dk3, hd3⟩ := hp3.hd
        have HB21 := Lib.hid (below_chain HB20.out hb21)
        have HR21 := Lib.hid (row_below HR20.out hb21)
        have HQ21 := Lib.hid (HQ20.out.below hb21)
        have HRs := Lib.hid (R16Resp.rresp_any g3 fs HR.out _ _ G HG.out (by omega) HN2.out w21 (hd3.cell 0) (HKi.out _ HB21.out) (HKl.out _ HB21.out))
        rw [hRR.out] at HRs
        clear hb21 HB20 HR20 HQ20 hch hp3 hd3
        go_wp2_with fail
        refine HRs.out.mono ?_
        rintro e w22 ⟨l, rfl, hl, hb22⟩
        have HB22 := Lib.hid (below_chain HB21.out hb22)
        have HR22 := Lib.hid (row_below HR21.out hb22)
        have HQ22 := Lib.hid (HQ21.out.below hb22)
        have HL22 := Lib.hid (fl_of hl (Nat.le_trans HlR.out (by decide)))
        obtain ⟨pz, cz, rfl, -⟩ := RowKeep.row_form hl
        clear hb22 HB21 HR21 HQ21 hl HRs
        have gs : (G == G) = true := beq_self_eq_true _
        have rs : (R == R) = true := beq_self_eq_true _
        go_wp2_with fail
        refine (R7Same.r7same_any _ _ _ _ _ HQ22.out HL22.out).mono ?_
        rintro e w23 ⟨rfl, m, rfl⟩
        rw [rs]
        have HA22 := Lib.hid ((arg_of HR22.out (by omega)).drewN m)
        have HG22 := Lib.hid ((HKl.out _ HB22.out).drewN m)
        obtain ⟨cs1, cs2⟩ := room_cells HR22.out
        have cs3 : ∀ j, (((w22.drewN m).drewN j).cell? ⟨gr, G.length * 2, none⟩) = some (.string ⟨#[115, 112, 97, 114, 101]⟩) := fun j => cs1
        have g1 : (G.length : Int) < (G.length : Int) + 2 := by omega
        clear HQ22 HL22
        go_wp2_with fail
        refine (R7Same.r7same_any _ _ _ _ _ HA22.out HG22.out).mono ?_
        rintro e w24 ⟨rfl, m2, rfl⟩
        rw [gs]
        have cs4 := cs3 m2
        have HBE : Hid (Below w.heap.size w ((w22.drewN m).drewN m2)) := Lib.hid ⟨HB22.out.os, HB22.out.tape, HB22.out.output, HB22.out.size, HB22.out.block⟩
        go_wp2_with fail
        go_ret
        exact ⟨rfl, HBE.out.os, HBE.out.tape, HBE.out.output, HBE.out.size, HBE.out.block⟩
theorem walk {H : Type} {enc : TypeId × Value → H} {W : World} {base : Nat} (v : Value) (d : DataW H) (p : List MemPlace) (hv : Value.okWide Try.prog W .any base 22 v) (hd : DataW.Trod enc Try.prog W 0 (fun _ => true) true 22 v d p) (hl : ∀ x ∈ p, x.block < W.heap.size) (hb : Rows.uptoBulk d ≤ 1048576)
    (v2 : Value) (d2 : DataW H) (p2 : List MemPlace) (hv2 : Value.okWide Try.prog W .any base 32 v2) (hd2 : DataW.Trod enc Try.prog W 0 (fun _ => true) true 32 v2 d2 p2) (hl2 : ∀ x ∈ p2, x.block < W.heap.size) (hb2 : Rows.uptoBulk d2 ≤ 1048576) :
    Calls Try.prog 6 #[v, v2] W fun e w' => e = .returned (.bool true) ∧ Below W.heap.size W w' := by
  obtain ⟨fs, hF, hl1, hx, hs, hn⟩ := FiltArg.filts_arg hv hd hb
  obtain ⟨G, hG, hf, hGl, hy⟩ := FArg.fields_arg hv2 hd2 hb2
  exact walkIn fs v hx hl1 hn G v2 hf hGl hy W hF hG
end Go.Proofs.Ytfdpoibmlggfbaa.FilterMemoryW
