/- Texts of this seat, one behind another: RouStep, L16Copy, L16Join, SArg, FiltArg, FiltBack, RTrim, RElements, AppendRow, R7Elements, LexFlat, R7Has, R7Same, FilterReverseW. -/
import Derived.Deep.AppendLies
import Derived.Maps.AppendAt
import Derived.Handy
import Derived.Test.YtfdpoibmlggfbaaRows
import Derived.Deep.Slices
import Derived.Deep.Fields
import Derived.Lib.Hide
import Derived.Below
import Derived.Outline
import Derived.LoopTactic
import Derived.Laws.DeepStrings4
import Derived.Laws.AppendOwnNone
import Derived.OwnWalk
import Derived.Laws.StructEq
import Derived.Deep.QuietTactic
import Derived.BigQuiet
import Derived.Test.YtfdpoibmlggfbaaA1
import Derived.Test.YtfdpoibmlggfbaaA2
import Derived.Test.YtfdpoibmlggfbaaFR
import Derived.Test.YtfdpoibmlggfbaaR1
import Derived.Test.YtfdpoibmlggfbaaB
import Derived.Test.YtfdpoibmlggfbaaR2
/- Lists appended to a row of a call's own, at a step of a region that draws. No function is named. -/
namespace Go.Proofs.Ytfdpoibmlggfbaa.RouStep
open Go.ChangeShapes Go.WideShapes Go.ChangeAt Go.RowKit LexPure Bytes Ret FieldsPure Flds RowsArg
set_option maxRecDepth 20000
set_option linter.unusedVariables false
theorem step_append_list {w : World} {ops : Array Oper} {o : Oper} {a : Act} {K : Act → World → Prop} {Q : Exit → Act → World → Prop} {E : Prop} (hgd : o.guard = none) (s x : Operand)
    (ho : o.op = .call { callee := .builtin .append, args := #[s, x], argTypes := #[32, 32] }) (base : Nat) (v : Value) (n : Nat) (xs : List Value) (hs : a.eval s = v) (hown : w.ownsRow base 54 2 v n xs)
    (y : Value) (G : List HField) (hx : a.eval x = y) (hF : FL w y G) (hy : FRow.Nice y G.length) (h63 : n + G.length ≤ 4398046511104) (hbase : base ≤ w.heap.size)
    (h : ∀ v' w', w'.ownsRow base 54 2 v' (n + G.length) (xs ++ encFs G) → w.grownBy w' v.ownBlock → K (a.put o.dst v') w') :
    if Region.wanted o (yielded ops a.tmps) = true then Oper.wp Try.prog o a w K Q else E := by
  have hw : Region.wanted o (yielded ops a.tmps) = true := by simp [Region.wanted, hgd]
  rw [if_pos hw]
  obtain ⟨v', w', hrun, r1, r2⟩ := FRow.run_append_list o.type base v n xs hown y G hF hy h63 hbase
  unfold Oper.wp
  simp [execOp, ho, resolve, invoke, builtin, hs, hx, hrun, Result.andThen]
  exact h v' w' r1 r2
section
variable {P : Program}
theorem run_append_rows {w : World} (t ty e : TypeId) (i : TypeInfo) (z : Value) (k bytes : Nat) (ht : P.underlying t = some (.slice e)) (hi : P.info? e = some i) (hz : i.zero = some z) (hsize : i.size = k) (hby : i.bytes = bytes) (hzs : z.cells.size = k) (hk : 0 < k)
    (base : Nat) (v : Value) (n : Nat) (xs : List Value) (hown : w.ownsRow base e k v n xs) (y : Value) (m : Nat) (V : Nat → Nat → Value) (hR : RowsAt w y m k V) (hy : Nice y m)
    (news : List Value) (hl : news.length = m * k) (hnews : ∀ i, i < m → ∀ j, j < k → news[i * k + j]? = some (V i j)) (h1 : ∀ u ∈ news, u.oneCell' = true) (h63 : n + m ≤ maxLen) (hbytes : (n + m) * bytes ≤ 140737488355328) (hbase : base ≤ w.heap.size) :
    ∃ v' w', (Builtin.append_ #[t, t] ty #[v, y]).run P w = .ok v' w' ∧ w'.ownsRow base e k v' (n + m) (xs ++ news) ∧ w.grownBy w' v.ownBlock ∧ (v'.ownBlock = v.ownBlock ∨ v'.ownBlock = some w.heap.size) := by
  rcases hy with rfl | ⟨a, cap, rfl⟩
  · obtain ⟨p', c', hv, _, _⟩ := hR
    have hm : m = 0 := by injection hv with _ h _; exact h.symm
    subst hm
    have hn : news = [] := List.eq_nil_of_length_eq_zero (by simpa using hl)
    subst hn
    exact ⟨v, w, run_append_owned_none (P := P) (w := w) base t ty e i k ht hi v n xs hown, by simpa using hown, World.grownBy.refl w _, .inl rfl⟩
  · obtain ⟨p', c', hv, hle, hc⟩ := hR
    injection hv with e1 _ e3
    subst e1 e3
    obtain ⟨v', w', hr, h2, h3, _, h5⟩ := run_append_own_at (P := P) w base t ty e i z k bytes ht hi hz hsize hby hzs hk v n xs hown a m cap news hl
      (fun j u h => by
        have hj : j < m * k := by rw [← hl]; exact (List.getElem?_eq_some_iff.1 h).1
        have hi : j / k < m := (Nat.div_lt_iff_lt_mul hk).2 hj
        have hr : j % k < k := Nat.mod_lt _ hk
        have ej : j / k * k + j % k = j := by rw [Nat.mul_comm]; exact Nat.div_add_mod j k
        have h6 := hnews _ hi _ hr
        rw [ej, h] at h6
        obtain ⟨g', o', e, _, hcell⟩ := hc (Nat.lt_of_le_of_lt (Nat.zero_le _) hi)
        injection e with e
        subst e
        rw [FArg.add_plain, ← ej, ← Nat.add_assoc, hcell _ hi _ hr, ← h6]) h1 h63 hbytes hbase
    exact ⟨v', w', hr, h2, h3, h5⟩
theorem step_append_rows {w : World} {ops : Array Oper} {o : Oper} {a : Act} {K : Act → World → Prop} {Q : Exit → Act → World → Prop} {E : Prop} (hgd : o.guard = none) (s x : Operand) (t : TypeId)
    (ho : o.op = .call { callee := .builtin .append, args := #[s, x], argTypes := #[t, t] })
    (e : TypeId) (i : TypeInfo) (z : Value) (k bytes : Nat) (ht : P.underlying t = some (.slice e)) (hi : P.info? e = some i) (hz : i.zero = some z) (hsize : i.size = k) (hby : i.bytes = bytes) (hzs : z.cells.size = k) (hk : 0 < k)
    (base : Nat) (v : Value) (n : Nat) (xs : List Value) (hs : a.eval s = v) (hown : w.ownsRow base e k v n xs) (y : Value) (m : Nat) (V : Nat → Nat → Value) (hx : a.eval x = y) (hR : RowsAt w y m k V) (hy : Nice y m)
    (news : List Value) (hl : news.length = m * k) (hnews : ∀ i, i < m → ∀ j, j < k → news[i * k + j]? = some (V i j)) (h1 : ∀ u ∈ news, u.oneCell' = true) (h63 : n + m ≤ maxLen) (hbytes : (n + m) * bytes ≤ 140737488355328) (hbase : base ≤ w.heap.size)
    (h : ∀ v' w', w'.ownsRow base e k v' (n + m) (xs ++ news) → w.grownBy w' v.ownBlock → (v'.ownBlock = v.ownBlock ∨ v'.ownBlock = some w.heap.size) → K (a.put o.dst v') w') :
    if Region.wanted o (yielded ops a.tmps) = true then Oper.wp P o a w K Q else E := by
  have hw : Region.wanted o (yielded ops a.tmps) = true := by simp [Region.wanted, hgd]
  rw [if_pos hw]
  obtain ⟨v', w', hrun, r1, r2, r3⟩ := run_append_rows t o.type e i z k bytes ht hi hz hsize hby hzs hk base v n xs hown y m V hR hy news hl hnews h1 h63 hbytes hbase
  unfold Oper.wp
  simp [execOp, ho, resolve, invoke, builtin, hs, hx, hrun, Result.andThen]
  exact h v' w' r1 r2 r3
theorem wpList_append_rows {w : World} {ops : Array Oper} {rest : List Oper} {o : Oper} {a : Act} {Q : Exit → Act → World → Prop} (hgd : o.guard = none) (s x : Operand) (t : TypeId)
    (ho : o.op = .call { callee := .builtin .append, args := #[s, x], argTypes := #[t, t] })
    (e : TypeId) (i : TypeInfo) (z : Value) (k bytes : Nat) (ht : P.underlying t = some (.slice e)) (hi : P.info? e = some i) (hz : i.zero = some z) (hsize : i.size = k) (hby : i.bytes = bytes) (hzs : z.cells.size = k) (hk : 0 < k)
    (base : Nat) (v : Value) (n : Nat) (xs : List Value) (hs : a.eval s = v) (hown : w.ownsRow base e k v n xs) (y : Value) (m : Nat) (V : Nat → Nat → Value) (hx : a.eval x = y) (hR : RowsAt w y m k V) (hy : Nice y m)
    (news : List Value) (hl : news.length = m * k) (hnews : ∀ i, i < m → ∀ j, j < k → news[i * k + j]? = some (V i j)) (h1 : ∀ u ∈ news, u.oneCell' = true) (h63 : n + m ≤ maxLen) (hbytes : (n + m) * bytes ≤ 140737488355328) (hbase : base ≤ w.heap.size)
    (h : ∀ v' w', w'.ownsRow base e k v' (n + m) (xs ++ news) → w.grownBy w' v.ownBlock → (v'.ownBlock = v.ownBlock ∨ v'.ownBlock = some w.heap.size) → wpList P ops Q rest (a.put o.dst v') w') :
    wpList P ops Q (o :: rest) a w := by
  refine wpList_plain hgd fun K hK => ?_
  obtain ⟨v', w', hrun, r1, r2, r3⟩ := run_append_rows t o.type e i z k bytes ht hi hz hsize hby hzs hk base v n xs hown y m V hR hy news hl hnews h1 h63 hbytes hbase
  unfold Oper.wp execOp
  simp only [ho, resolve, invoke, builtin, Sem.run_bind, Sem.run_pure, Result.andThen_ok, List.map_toArray, List.map_cons, List.map_nil, hs, hx, hrun]
  exact hK _ _ (h v' w' r1 r2 r3)
end
end Go.Proofs.Ytfdpoibmlggfbaa.RouStep

/- Layer 16's laws: filters appended to a row of a law's own. No function is named. -/
namespace Go.Proofs.Ytfdpoibmlggfbaa.L16Copy
open Go.ChangeShapes Go.WideShapes Go.ChangeAt Go.RowKit Bytes LexPure ConfPure ConfMem FieldsPure Flds RowsArg RouStep RowKeep
set_option maxRecDepth 20000
set_option linter.unusedVariables false
theorem infoFi : (Try.prog.info? 29).map (fun i => (i.zero, i.size, i.bytes)) = some (some (.agg #[.int .i64 0, .string .empty, .string .empty, .int .i64 0, .int .i64 0, .int .i64 0]), 6, 64) := by kernel_rfl
def encFi (G : List Filt) : List Value := G.flatMap filtV
theorem fi_len (G : List Filt) : (encFi G).length = G.length * 6 := by
  unfold encFi
  induction G with
  | nil => rfl
  | cons x G ih => rw [List.flatMap_cons, List.length_append, ih, List.length_cons]; show 6 + _ = _; omega
theorem fi_cells (G : List Filt) : ∀ u ∈ encFi G, u.oneCell' = true := by
  intro u hu
  obtain ⟨x, _, hx⟩ := List.mem_flatMap.1 hu
  unfold filtV at hx
  simp only [List.mem_cons, List.not_mem_nil, or_false] at hx
  rcases hx with rfl | rfl | rfl | rfl | rfl | rfl <;> rfl
theorem fi_get (G : List Filt) (i : Nat) (hi : i < G.length) (j : Nat) (hj : j < 6) : (encFi G)[i * 6 + j]? = some ((filtV (G.getD i zFilt)).getD j undef) := by
  have e : G.getD i zFilt = G[i] := by simp [List.getD, List.getElem?_eq_getElem hi]
  rw [e]
  unfold encFi
  induction G generalizing i with
  | nil => simp at hi
  | cons x G ih =>
    rw [List.flatMap_cons]
    cases i with
    | zero =>
      rw [List.getElem?_append_left (by show 0 * 6 + j < 6; omega)]
      have hj2 : j = 0 ∨ j = 1 ∨ j = 2 ∨ j = 3 ∨ j = 4 ∨ j = 5 := by omega
      rcases hj2 with rfl | rfl | rfl | rfl | rfl | rfl <;> rfl
    | succ i =>
      have hi2 : i < G.length := by simpa using hi
      rw [List.getElem?_append_right (by show 6 ≤ (i + 1) * 6 + j; omega)]
      have e2 : (i + 1) * 6 + j - (filtV x).length = i * 6 + j := by show (i + 1) * 6 + j - 6 = _; omega
      rw [e2, ih i hi2 (by simp [List.getD, List.getElem?_eq_getElem hi2])]
      rfl
/-- an empty list of filters -/
theorem ownsFi_none (w : World) (base : Nat) (hb : base ≤ w.heap.size) : (w.alloc (.cells #[] 29)).ownsRow base 29 6 (.slice (some ⟨w.heap.size, 0, none⟩) 0 0) 0 [] :=
  ⟨rfl, .inr ⟨w.heap.size, 0, #[], rfl, hb, heap_alloc_new w _, Nat.le_refl _, Nat.zero_le _, rfl, rfl⟩⟩
theorem filts_of {w : World} {base : Nat} {v : Value} {G : List Filt} (h : w.ownsRow base 29 6 v G.length (encFi G)) : Filts w v G := by
  obtain ⟨p, cap, hv, _⟩ := row_form h
  have hl : G.length ≤ 9223372036854775807 := by
    rcases h.2 with ⟨_, e⟩ | ⟨_, cap, _, _, _, _, h1, h2, _⟩
    · omega
    · unfold maxLen at h2; omega
  refine ⟨p, cap, hv, hl, fun h0 => ?_⟩
  obtain ⟨g, cap2, hv2, _, hg, _, hc⟩ := row_at h h0
  rw [hv] at hv2
  injection hv2 with e1 _ _
  refine ⟨g, 0, e1, hg, fun i hi j hj => ?_⟩
  rw [Nat.zero_add, hc _ (by omega)]
  exact fi_get G i hi j hj
/-- behind 'append([]api.Filter{}, l...)' -/
theorem copiedFi {w1 w4 : World} {v4 : Value} {G : List Filt} (h : w4.ownsRow w1.heap.size 29 6 v4 (0 + G.length) ([] ++ encFi G))
    (hg : (w1.alloc (.cells #[] 29)).grownBy w4 (Value.slice (some ⟨w1.heap.size, 0, none⟩) 0 0).ownBlock) :
    w4.ownsRow w1.heap.size 29 6 v4 G.length (encFi G) ∧ Below w1.heap.size w1 w4 := by
  rw [Nat.zero_add, List.nil_append] at h
  exact ⟨h, ((Below.refl _ w1).alloc (Nat.le_refl _) _).grown hg (by simp) (fun j e => by cases e; exact Nat.le_refl _)⟩
end Go.Proofs.Ytfdpoibmlggfbaa.L16Copy

/- Layer 16's laws: names with commas ahead. -/
namespace Go.Proofs.Ytfdpoibmlggfbaa.L16Join
open Go.ChangeShapes Go.WideShapes Go.ChangeAt Go.RowKit Bytes LexPure PathPure ConfPure FieldsPure FilterPure Ret Texts FilterMore
set_option maxRecDepth 100000
set_option linter.unusedVariables false
set_option linter.unusedSimpArgs false
theorem take_join (s : List L) (k : Nat) (hk : k < s.length) : joinedL (s.take (k + 1)) = joinedL (s.take k) ++ 44 :: s[k] := by
  rw [List.take_succ_eq_append_getElem hk, joined_snoc]
theorem join_le (s : List L) (k : Nat) : (joinedL (s.take k)).length ≤ (joinedL s).length := by
  conv => rhs; rw [← List.take_append_drop k s]
  unfold joinedL
  rw [List.flatMap_append, List.length_append]
  omega
theorem comma_add (A : ByteArray) (x : L) : toL (A ++ (⟨#[44]⟩ ++ ofL x)) = toL A ++ 44 :: x := by simp [toL, ofL]
set_option maxHeartbeats 1600000 in
theorem joined_any (v : Value) (s : List L) (hs : (joinedL s).length ≤ 1099511627776) (w : World) (h : Texts.Texts w v s) :
    Calls Try.prog 21 #[v] w fun e w' => e = .returned (.string (ofL (joinedL s))) ∧ Below w.heap.size w w' := by
  obtain ⟨p, cap, rfl, hn63, hc⟩ := h
  have HC := Lib.hid hc
  have HS := Lib.hid hs
  clear hc hs
  go_enter Try.func21, Try.ntmps21
  go_wp2_with fail
  go_loopw [3, 8] (fun a i wr => ∃ (k : Nat) (A : ByteArray), k ≤ s.length ∧ i = .int .i64 k ∧ a = .string A ∧ Hid (toL A = joinedL (s.take k)) ∧ wr = w) (fun _ i _ => s.length - (intOf i).toNat)
  case atStart => exact ⟨0, ⟨#[]⟩, Nat.zero_le _, rfl, rfl, Lib.hid rfl, rfl⟩
  case round =>
    obtain ⟨k, A, hk, rfl, rfl, HA, rfl⟩ := hrel
    by_cases hlt : k < s.length
    · obtain ⟨g, o, rfl, _, hcell⟩ := HC.out (by omega)
      have c1 := hcell k hlt
      have hki : (k : Int) < (s.length : Int) := by omega
      have hk0 : (0 : Int) ≤ (k : Int) := by omega
      have HN : Hid (toL (A ++ (⟨#[44]⟩ ++ ofL s[k])) = joinedL (s.take (k + 1))) := Lib.hid (by rw [comma_add, HA.out, take_join s k hlt])
      have hsz : A.size + (1 + (ofL s[k]).size) ≤ 1099511627776 := by
        have h1 := join_le s (k + 1)
        rw [← HN.out] at h1
        have h2 := HS.out
        have h3 : (toL (A ++ (⟨#[44]⟩ ++ ofL s[k]))).length = A.size + (1 + (ofL s[k]).size) := by rw [toL_length]; simp; rfl
        omega
      obtain ⟨x, hx⟩ : ∃ x, x = ofL s[k] := ⟨_, rfl⟩
      rw [← hx] at c1 HN hsz
      clear hcell hx
      go_wp2_with fail
      go_roundw
      case rel => exact ⟨k + 1, _, by omega, by go_num, rfl, HN, trivial⟩
      case measure => simp [intOf]; omega
    · have hki : ¬ (k : Int) < (s.length : Int) := by omega
      have HE : Hid (A = ofL (joinedL s)) := Lib.hid (by have := HA.out; rw [List.take_of_length_le (by omega)] at this; rw [← this, ofL_toL])
      go_wp2_with fail
      go_ret
      exact ⟨by rw [HE.out]; rfl, Below.refl _ _⟩
end Go.Proofs.Ytfdpoibmlggfbaa.L16Join

/- An argument that is a list of texts. -/
namespace Go.Proofs.Ytfdpoibmlggfbaa.SArg
open Go.ChangeShapes Go.WideShapes Go.ChangeAt Go.RowKit Go.Deep LexPure Bytes Ret Rows1 Texts BulkOf
set_option maxRecDepth 20000
/-- what both forms have in common: the texts, each with its reading -/
theorem texts_core {H : Type} {enc : TypeId × Value → H} {W : World} {v : Value} {d : DataW H} {p : List MemPlace} {fuel : Nat}
    (hf : DataW.trod enc Try.prog W 0 (fun _ => true) true fuel 50 [v] = some (d, p)) :
    ∃ G, Texts W v G ∧ (d = .nil ∧ G = [] ∨ ∃ sp, d = .slice (G.map fun t => .lit (.string t)) sp) := by
  rcases open_slice1 Try.underlying50 (by kernel_rfl) hf with ⟨hc, hx⟩ | ⟨a, len, cap, m, n, V, D, Pl, hc, _, hlc, hcm, hm, hx, hi⟩
  · obtain rfl : v = .slice none 0 0 := by simpa using hc
    injection hx with hd _
    exact ⟨[], ⟨none, 0, rfl, Nat.zero_le _, fun h => absurd h (by simp)⟩, .inl ⟨hd, rfl⟩⟩
  · obtain rfl : v = .slice (some a) len cap := by simpa using hc
    injection hx with hd hp
    have hlm : len ≤ m := by rw [hm, if_pos rfl]; exact hlc
    unfold maxLen at hcm
    have hS : ∀ i, i < len → ∃ s : List UInt8, V i = .string (ofL s) ∧ D i = .lit (.string s) := fun i hil => by
      obtain ⟨_, t0⟩ := hi i (by omega)
      obtain ⟨s, hs, hs2, _⟩ := DataW.trod_string Try.underlying9 t0
      exact ⟨toL s, by rw [ofL_toL]; simpa using hs, by simpa using congrArg Prod.fst hs2⟩
    let f : Nat → List UInt8 := fun i => if h : i < len then (hS i h).choose else []
    have hfs : ∀ i (h : i < len), V i = .string (ofL (f i)) ∧ D i = .lit (.string (f i)) := fun i h => by
      have := (hS i h).choose_spec
      simp only [f, dif_pos h]
      exact this
    refine ⟨(List.range len).map f, ⟨some a, cap, by simp, by simp; omega, fun h0 => ?_⟩, .inr ⟨(List.range (m - len)).map fun j => D (len + j), ?_⟩⟩
    · rw [List.length_map, List.length_range] at h0
      obtain ⟨c0, _⟩ := hi 0 (by omega)
      have ha := plain_cell c0
      have hae : a = ⟨a.block, a.off, none⟩ := by
        obtain ⟨b, o, e⟩ := a
        cases e with
        | none => rfl
        | some e => simp [Addr.add] at ha
      have hblk := World.block_lt_of_cell? _ _ c0
      obtain ⟨b, o, e⟩ := a
      injection hae with _ _ e3
      subst e3
      refine ⟨b, o, rfl, by simpa [Addr.add] using hblk, fun j hj => ?_⟩
      rw [List.length_map, List.length_range] at hj
      obtain ⟨c1, _⟩ := hi j (by omega)
      rw [(hfs j hj).1] at c1
      simp only [List.getElem_map, List.getElem_range]
      rw [BulkOf.add_plain] at c1
      exact c1
    · rw [hd]
      congr 1
      rw [List.map_map]
      exact List.map_congr_left (fun i hi => (hfs i (List.mem_range.1 hi)).2)
theorem texts_upto {H : Type} {enc : TypeId × Value → H} {W : World} {base : Nat} {v : Value} {d : DataW H} {p : List MemPlace} (hv : Value.okWide Try.prog W .any base 50 v)
    (h : DataW.Trod enc Try.prog W 0 (fun _ => true) true 50 v d p) (hb : Rows.uptoBulk d ≤ 1048576) :
    ∃ G, Texts W v G ∧ (∀ t ∈ G, t.length ≤ 1048576) ∧ G.length ≤ 1048576 := by
  obtain ⟨a0, len, cap, rfl⟩ := okWide_slice Try.underlying50 hv
  obtain ⟨fuel, hf⟩ := h
  obtain ⟨G, hT, hd⟩ := texts_core (v := .slice a0 len cap) (by simpa [Value.cells] using hf)
  refine ⟨G, hT, ?_⟩
  rcases hd with ⟨_, rfl⟩ | ⟨sp, rfl⟩
  · exact ⟨fun t ht => (by cases ht), Nat.zero_le _⟩
  · rw [Rows.uptoBulk] at hb
    have hl := bulkAll_len (G.map fun t => (DataW.lit (.string t) : DataW H))
    rw [List.length_map] at hl
    refine ⟨fun t ht => ?_, by omega⟩
    have := bulkAll_mem (G.map fun t => (DataW.lit (.string t) : DataW H)) (.lit (.string t)) (List.mem_map.2 ⟨t, ht, rfl⟩)
    simp only [Rows.uptoBulk] at this
    omega
theorem texts_reach {H : Type} {enc : TypeId × Value → H} {W : World} {base : Nat} {v : Value} {d : DataW H} {p : List MemPlace} (hv : Value.okWide Try.prog W .any base 50 v)
    (h : DataW.Trod enc Try.prog W 0 (fun _ => true) true 50 v d p) (hb : (d.weights Try.prog 50).all (· ≤ reachBytes) = true) :
    ∃ G, Texts W v G ∧ (∀ t ∈ G, t.length ≤ 140737488351232) ∧ G.length ≤ 8796093022208 := by
  obtain ⟨a0, len, cap, rfl⟩ := okWide_slice Try.underlying50 hv
  obtain ⟨fuel, hf⟩ := h
  obtain ⟨G, hT, hd⟩ := texts_core (v := .slice a0 len cap) (by simpa [Value.cells] using hf)
  refine ⟨G, hT, ?_⟩
  rcases hd with ⟨_, rfl⟩ | ⟨sp, rfl⟩
  · exact ⟨fun t ht => (by cases ht), Nat.zero_le _⟩
  · simp only [DataW.weights, Try.underlying50, List.all_cons, Bool.and_eq_true, List.all_append] at hb
    refine ⟨fun t ht => ?_, ?_⟩
    · have := weightsAll_mem _ _ hb.2.1 (.lit (.string t)) (List.mem_map.2 ⟨t, ht, rfl⟩)
      simp only [DataW.weights, List.all_cons, List.all_nil, Bool.and_true] at this
      have h1 := of_decide_eq_true this
      unfold reachBytes at h1
      exact h1
    · have h1 := of_decide_eq_true hb.1
      rw [show Try.prog.bytesOf 9 = 16 by kernel_rfl, List.length_map] at h1
      unfold reachBytes at h1
      omega
end Go.Proofs.Ytfdpoibmlggfbaa.SArg

/- An argument that is a list of filters, of bulk at most 1048576. -/
namespace Go.Proofs.Ytfdpoibmlggfbaa.FiltArg
open Go.ChangeShapes Go.WideShapes Go.ChangeAt Go.RowKit Go.Deep LexPure Bytes Ret Rows1 Texts ConfPure ConfMem RowsArg
set_option maxRecDepth 100000
theorem wf_in {n : Int} (h : (Lit.int .i64 n).wf = true) : -9223372036854775808 ≤ n ∧ n ≤ 9223372036854775807 := by
  simpa [Lit.wf, IntKind.min, IntKind.max, IntKind.bits, IntKind.signed] using h
theorem gather {T : Type} {n : Nat} {R : Nat → T → Prop} (z : T) (h : ∀ i, i < n → ∃ x, R i x) : ∃ G : List T, G.length = n ∧ ∀ i, i < n → R i (G.getD i z) := by
  let f : Nat → T := fun i => if h2 : i < n then (h i h2).choose else z
  refine ⟨(List.range n).map f, by simp, fun i hi => ?_⟩
  have e : ((List.range n).map f).getD i z = f i := by simp [List.getD, hi]
  rw [e]
  have := (h i hi).choose_spec
  simp only [f, dif_pos hi]
  exact this
theorem mem_getD {T : Type} {G : List T} {z x : T} (h : x ∈ G) : ∃ i, i < G.length ∧ G.getD i z = x := by
  obtain ⟨i, hi, rfl⟩ := List.getElem_of_mem h
  exact ⟨i, hi, by simp [List.getD, List.getElem?_eq_getElem hi]⟩
section
variable {H : Type} {enc : TypeId × Value → H} {W : World}
theorem str_size {s : ByteArray} {y : DataW H × List MemPlace} {p : List MemPlace} (hx : y = (.lit (.string s.data.toList), p)) {n : Nat} (h : Rows.uptoBulk y.1 ≤ n) : s.size ≤ n := by
  subst hx
  simp only [Rows.uptoBulk, Array.length_toList] at h
  have e : s.data.size = s.size := rfl
  omega
theorem agg_bulk {H : Type} {k : Nat} {Y : Nat → DataW H × List MemPlace} {n : Nat} (h : Rows.uptoBulk (.agg ((List.range k).map fun j => (Y j).1)) ≤ n) : ∀ j, j < k → Rows.uptoBulk (Y j).1 ≤ n := fun j hj => by
  rw [Rows.uptoBulk] at h
  have := BulkOf.bulkAll_mem ((List.range k).map fun j => (Y j).1) (Y j).1 (List.mem_map.2 ⟨j, List.mem_range.2 hj, rfl⟩)
  omega
theorem slice_bulk {n k : Nat} {Y : Nat → Nat → DataW H × List MemPlace} {sp : List (DataW H)} {b : Nat} (h : Rows.uptoBulk (.slice ((List.range n).map fun i => .agg ((List.range k).map fun j => (Y i j).1)) sp) ≤ b) :
    n ≤ b ∧ ∀ i, i < n → Rows.uptoBulk (.agg ((List.range k).map fun j => (Y i j).1)) ≤ b := by
  rw [Rows.uptoBulk] at h
  refine ⟨?_, fun i hi => ?_⟩
  · have := BulkOf.bulkAll_len ((List.range n).map fun i => (.agg ((List.range k).map fun j => (Y i j).1) : DataW H))
    rw [List.length_map, List.length_range] at this
    omega
  · have := BulkOf.bulkAll_mem ((List.range n).map fun i => (.agg ((List.range k).map fun j => (Y i j).1) : DataW H)) (.agg ((List.range k).map fun j => (Y i j).1)) (List.mem_map.2 ⟨i, List.mem_range.2 hi, rfl⟩)
    omega

theorem filt_elem {N : Nat} {V : Nat → Value} {Y : Nat → DataW H × List MemPlace} (hrd : ∀ (j : Nat) (f : Field), (Try.prog.fieldsOf 29)[j]? = some f → DataW.trod enc Try.prog W 0 (fun _ => true) true N f.type [V j] = some (Y j))
    (hb : Rows.uptoBulk (.agg ((List.range 6).map fun j => (Y j).1)) ≤ 1048576) : ∃ x : Filt, (∀ j, j < 6 → V j = (filtV x).getD j undef) ∧ FitFilt x ∧ x.name.length + 5 ≤ Rows.uptoBulk (.agg ((List.range 6).map fun j => (Y j).1)) := by
  have hl : (Try.prog.fieldsOf 29).size = 6 := by kernel_rfl
  have hq : ∀ i, i < 6 → (Try.prog.fieldsOf 29)[i]? = some (Try.prog.fieldsOf 29)[i]! := fun i hi => by
    rw [getElem!_pos _ i (by rw [hl]; exact hi)]
    exact Array.getElem?_eq_getElem _
  have hbj := agg_bulk hb
  have k0 := hrd 0 _ (hq 0 (by decide))
  obtain ⟨n0, e0, x0, w0⟩ := DataW.trod_int (show Try.prog.underlying (Try.prog.fieldsOf 29)[0]!.type = some (.int .i64) by kernel_rfl) k0
  have k1 := hrd 1 _ (hq 1 (by decide))
  obtain ⟨s1, e1, x1, _⟩ := DataW.trod_string (show Try.prog.underlying (Try.prog.fieldsOf 29)[1]!.type = some .string by kernel_rfl) k1
  have k2 := hrd 2 _ (hq 2 (by decide))
  obtain ⟨s2, e2, x2, _⟩ := DataW.trod_string (show Try.prog.underlying (Try.prog.fieldsOf 29)[2]!.type = some .string by kernel_rfl) k2
  have k3 := hrd 3 _ (hq 3 (by decide))
  obtain ⟨n3, e3, x3, w3⟩ := DataW.trod_int (show Try.prog.underlying (Try.prog.fieldsOf 29)[3]!.type = some (.int .i64) by kernel_rfl) k3
  have k4 := hrd 4 _ (hq 4 (by decide))
  obtain ⟨n4, e4, x4, w4⟩ := DataW.trod_int (show Try.prog.underlying (Try.prog.fieldsOf 29)[4]!.type = some (.int .i64) by kernel_rfl) k4
  have k5 := hrd 5 _ (hq 5 (by decide))
  obtain ⟨n5, e5, x5, w5⟩ := DataW.trod_int (show Try.prog.underlying (Try.prog.fieldsOf 29)[5]!.type = some (.int .i64) by kernel_rfl) k5
  refine ⟨⟨n0, toL s1, toL s2, n3, n4, n5⟩, fun j hj => ?_, ⟨wf_in w0, by rw [toL_length]; exact str_size x1 (hbj 1 (by decide)), by rw [toL_length]; exact str_size x2 (hbj 2 (by decide)), wf_in w3, wf_in w4, wf_in w5⟩, ?_⟩
  rotate_left
  · have g1 : s1.size ≤ Rows.uptoBulk (Y 1).1 := str_size x1 (Nat.le_refl _)
    have b0 := BulkOf.bulk_pos (Y 0).1
    have b2 := BulkOf.bulk_pos (Y 2).1
    have b3 := BulkOf.bulk_pos (Y 3).1
    have b4 := BulkOf.bulk_pos (Y 4).1
    have b5 := BulkOf.bulk_pos (Y 5).1
    have e : (List.range 6).map (fun j => (Y j).1) = [(Y 0).1, (Y 1).1, (Y 2).1, (Y 3).1, (Y 4).1, (Y 5).1] := rfl
    rw [e, Rows.uptoBulk]
    simp only [Rows.uptoBulkAll]
    show (toL s1).length + 5 ≤ _
    rw [toL_length]
    omega
  have hj2 : j = 0 ∨ j = 1 ∨ j = 2 ∨ j = 3 ∨ j = 4 ∨ j = 5 := by omega
  rcases hj2 with rfl | rfl | rfl | rfl | rfl | rfl
  · simpa [filtV] using e0
  · show V 1 = .string (ofL (toL s1))
    rw [ofL_toL]; simpa using e1
  · show V 2 = .string (ofL (toL s2))
    rw [ofL_toL]; simpa using e2
  · simpa [filtV] using e3
  · simpa [filtV] using e4
  · simpa [filtV] using e5
theorem sum_bulk {A : Type} (F : A → DataW H) (f : A → Nat) : ∀ l : List A, (∀ i ∈ l, f i ≤ Rows.uptoBulk (F i)) → (l.map f).sum ≤ Rows.uptoBulkAll (l.map F)
  | [], _ => Nat.zero_le _
  | a :: l, h => by
    have h1 := sum_bulk F f l (fun i hi => h i (List.mem_cons_of_mem _ hi))
    have h2 := h a List.mem_cons_self
    rw [List.map_cons, List.map_cons, List.sum_cons, Rows.uptoBulkAll]
    omega
theorem map_getD {A : Type} (G : List A) (z : A) (g : A → Nat) : G.map g = (List.range G.length).map fun i => g (G.getD i z) := by
  apply List.ext_getElem
  · simp
  · intro i h1 h2
    simp at h1
    simp [List.getD, List.getElem?_eq_getElem h1]
/-- what the names of a list take up -/
def nameSum (G : List Filt) : Nat := (G.map fun x => x.name.length + 5).sum
theorem filts_core {v : Value} {d : DataW H} {p : List MemPlace} {fuel : Nat} (hf : DataW.trod enc Try.prog W 0 (fun _ => true) true fuel 22 [v] = some (d, p)) (hb : Rows.uptoBulk d ≤ 1048576) :
    ∃ G, Filts W v G ∧ G.length ≤ 1048576 ∧ (∀ x ∈ G, FitFilt x) ∧ nameSum G ≤ 1048576 ∧ RowsArg.Nice v G.length := by
  have he : Try.prog.underlying 29 = some (.struct (Try.prog.fieldsOf 29)) := by kernel_rfl
  obtain ⟨n, V, Y, N, hR, hni, hrd, hd⟩ := rows_core (k := 6) Try.underlying22 he (by kernel_rfl) (by kernel_rfl) (by kernel_rfl) (by decide) hf
  have hB : n ≤ 1048576 ∧ ∀ i, i < n → Rows.uptoBulk (.agg ((List.range 6).map fun j => (Y i j).1)) ≤ 1048576 := by
    rcases hd with ⟨_, rfl⟩ | ⟨sp, rfl⟩
    · exact ⟨Nat.zero_le _, fun i hi => absurd hi (by omega)⟩
    · exact slice_bulk hb
  obtain ⟨G, rfl, hG⟩ := gather zFilt (fun i hi => filt_elem (hrd i hi) (hB.2 i hi))
  refine ⟨G, hR.congr (fun i hi j hj => (hG i hi).1 j hj), hB.1, fun x hx => ?_, ?_, hni⟩
  · obtain ⟨i, hi, rfl⟩ := mem_getD (z := zFilt) hx
    exact (hG i hi).2.1
  · rcases hd with ⟨rfl, h0⟩ | ⟨sp, rfl⟩
    · have e : G = [] := List.eq_nil_of_length_eq_zero h0
      rw [e]
      exact Nat.zero_le _
    · rw [Rows.uptoBulk] at hb
      unfold nameSum
      rw [map_getD G zFilt]
      have := sum_bulk (fun i => (.agg ((List.range 6).map fun j => (Y i j).1) : DataW H)) (fun i => (G.getD i zFilt).name.length + 5) (List.range G.length) (fun i hi => (hG i (List.mem_range.1 hi)).2.2)
      omega
theorem filts_arg {base : Nat} {v : Value} {d : DataW H} {p : List MemPlace} (hv : Value.okWide Try.prog W .any base 22 v) (h : DataW.Trod enc Try.prog W 0 (fun _ => true) true 22 v d p) (hb : Rows.uptoBulk d ≤ 1048576) :
    ∃ G, Filts W v G ∧ G.length ≤ 1048576 ∧ (∀ x ∈ G, FitFilt x) ∧ nameSum G ≤ 1048576 ∧ RowsArg.Nice v G.length := by
  obtain ⟨a0, len, cap, rfl⟩ := okWide_slice Try.underlying22 hv
  obtain ⟨fuel, hf⟩ := h
  exact filts_core (by simpa [Value.cells] using hf) hb
end
end Go.Proofs.Ytfdpoibmlggfbaa.FiltArg

/- Layer 16: the way back stays short; how long the names that a law gathers get. No program is named. -/
namespace Go.Proofs.Ytfdpoibmlggfbaa.FiltBack
open Bytes LexPure PathPure ConfPure ConfBack FieldsPure FilterPure FilterMore FiltKeep FiltArg
set_option maxRecDepth 20000
set_option linter.unusedVariables false
theorem back_keep {f : Filt} (hf : filtB f = true) {G : List HField} (h : FewM G) : FewM (back16 f G) ∧ (back16 f G).length ≤ G.length + 1 := by
  obtain ⟨h1, h2⟩ := right_len hf
  unfold back16
  split
  · exact ⟨few_set h h1 h2, len_set _ _ _⟩
  split
  · exact ⟨few_set h (show ACAO.length ≤ 1048576 by decide) h2, len_set _ _ _⟩
  · exact ⟨h, by omega⟩
theorem resp_keep : ∀ (fs : List Filt) (G : List HField), (∀ f ∈ fs, filtB f = true) → FewM G → FewM (resp16 fs G) ∧ (resp16 fs G).length ≤ G.length + fs.length
  | [], G, _, h => ⟨h, Nat.le_add_right _ _⟩
  | f :: fs, G, hr, h => by
    obtain ⟨a1, a2⟩ := resp_keep fs G (fun g hg => hr g (List.mem_cons_of_mem _ hg)) h
    obtain ⟨b1, b2⟩ := back_keep (hr f List.mem_cons_self) a1
    exact ⟨b1, by have e : (f :: fs).length = fs.length + 1 := rfl; show (back16 f (resp16 fs G)).length ≤ _; omega⟩
theorem name_le {f : Filt} (hf : filtB f = true) (h : f.kind = 8) : f.name.length ≤ 32 := by
  unfold filtB at hf
  rw [if_pos (.inr h)] at hf
  simp only [Bool.and_eq_true, nameB, tokenB, decide_eq_true_eq] at hf
  exact hf.1.2.2.2
/-- how long the names are that a law gathered -/
structure Jn (fs : List Filt) (k : Nat) (s : List L) : Prop where
  ex : ∃ a b : Nat, b ≤ 1 ∧ (b = 1 → s.any (fun x => alike x ACAO) = true) ∧ (joinedL s).length + 4 * a ≤ nameSum (fs.take k) + 23 * b ∧ (joinedL s).length ≤ 33 * a + 28 * b ∧ s.length ≤ k
theorem Jn.zero (fs : List Filt) : Jn fs 0 [] := ⟨⟨0, 0, Nat.zero_le _, fun h => absurd h (by decide), Nat.zero_le _, Nat.zero_le _, Nat.le_refl _⟩⟩
theorem sum_more (fs : List Filt) (k : Nat) (hk : k < fs.length) : nameSum (fs.take (k + 1)) = nameSum (fs.take k) + (fs[k].name.length + 5) := by
  unfold nameSum
  rw [List.take_succ_eq_append_getElem hk, List.map_append, List.sum_append]
  simp
theorem sum_le (fs : List Filt) (k : Nat) : nameSum (fs.take k) ≤ nameSum fs := by
  conv => rhs; rw [← List.take_append_drop k fs]
  unfold nameSum
  rw [List.map_append, List.sum_append]
  exact Nat.le_add_right _ _
theorem Jn.skip {fs : List Filt} {k : Nat} {s : List L} (h : Jn fs k s) (hk : k < fs.length) : Jn fs (k + 1) s := by
  obtain ⟨a, b, h1, h2, h3, h4, h5⟩ := h.ex
  have := sum_more fs k hk
  exact ⟨a, b, h1, h2, by omega, h4, by omega⟩
theorem join_len (s : List L) (x : L) : (joinedL (s ++ [x])).length = (joinedL s).length + 1 + x.length := by rw [joined_snoc]; simp; omega
theorem Jn.eight {fs : List Filt} {k : Nat} {s : List L} (h : Jn fs k s) (hk : k < fs.length) (hf : filtB fs[k] = true) (h8 : fs[k].kind = 8) : Jn fs (k + 1) (s ++ [fs[k].name]) := by
  obtain ⟨a, b, h1, h2, h3, h4, h5⟩ := h.ex
  have e1 := sum_more fs k hk
  have e2 := name_le hf h8
  have e3 := join_len s fs[k].name
  exact ⟨a + 1, b, h1, fun q => by rw [List.any_append, h2 q]; rfl, by omega, by omega, by simp; omega⟩
theorem Jn.five {fs : List Filt} {k : Nat} {s : List L} (h : Jn fs k s) (hk : k < fs.length) (ha : s.any (fun x => alike x ACAO) = false) : Jn fs (k + 1) (s ++ [ACAO]) := by
  obtain ⟨a, b, h1, h2, h3, h4, h5⟩ := h.ex
  have hb : b = 0 := by
    have : b ≠ 1 := fun q => by rw [h2 q] at ha; cases ha
    omega
  have e1 := sum_more fs k hk
  have e3 := join_len s ACAO
  have e4 : ACAO.length = 27 := by decide
  exact ⟨a, 1, by decide, fun _ => by rw [List.any_append, List.any_cons, alike_self]; simp, by omega, by omega, by simp; omega⟩
theorem Jn.le {fs : List Filt} {k : Nat} {s : List L} (h : Jn fs k s) (hs : nameSum fs ≤ 1048576) : (joinedL s).length ≤ 1048576 ∧ s.length ≤ k := by
  obtain ⟨a, b, h1, h2, h3, h4, h5⟩ := h.ex
  have := sum_le fs k
  exact ⟨by omega, h5⟩
end Go.Proofs.Ytfdpoibmlggfbaa.FiltBack

/- Layer 4, the document's own Trim. -/
namespace Go.Proofs.Ytfdpoibmlggfbaa.RTrim
open Go.ChangeShapes Go.WideShapes Go.ChangeAt Go.RowKit LexPure Bytes Ret RBlank
set_option maxRecDepth 20000
theorem drop_at (s : ByteArray) (k : Nat) (h : k < s.size) : ((toL s).drop k).dropWhile blankB = if blankB s[k] then ((toL s).drop (k + 1)).dropWhile blankB else (toL s).drop k := by
  rw [toL_drop s k h, List.dropWhile_cons]
theorem last_at (D : List UInt8) (j : Nat) (c : UInt8) (h : D[j]? = some c) : (D.take (j + 1)).reverse.dropWhile blankB = if blankB c then (D.take j).reverse.dropWhile blankB else (D.take (j + 1)).reverse := by
  rw [List.take_add_one, h]
  simp only [Option.toList_some, List.reverse_append, List.reverse_cons, List.reverse_nil, List.nil_append, List.cons_append]
  rw [List.dropWhile_cons]
theorem rtrim_any (s : ByteArray) (hs : s.size ≤ maxLen) (w : World) :
    Calls Try.prog 50 #[.string s] w fun e w' => e = .returned (.string (ofL (trim (toL s)))) ∧ w = w' := by
  unfold maxLen at hs
  go_enter Try.func50, Try.ntmps50
  go_wp2_with fail
  go_loop [3] (fun f => ∃ k : Nat, k ≤ s.size ∧ f = .int .i64 k ∧ Hid ((toL s).dropWhile blankB = ((toL s).drop k).dropWhile blankB)) (fun f => s.size - (intOf f).toNat)
  case atStart => exact ⟨0, Nat.zero_le _, rfl, Lib.hid rfl⟩
  case round =>
    obtain ⟨k, hk, rfl, ha⟩ := hrel
    by_cases hgo : ∃ h : k < s.size, blankB s[k] = true
    · obtain ⟨hlt, hb⟩ := hgo
      have hki : (k : Int) < (s.size : Int) := by omega
      have HA : Hid ((toL s).dropWhile blankB = ((toL s).drop (k + 1)).dropWhile blankB) := Lib.hid (by rw [ha.out, drop_at s k hlt, if_pos hb])
      have HB := Lib.hid hb
      clear hb
      go_wp2_with fail
      refine (rblank_any _ _).mono ?_
      rintro e w' ⟨rfl, rfl⟩
      rw [HB.out]
      go_wp2_with fail
      go_round
      case rel => exact ⟨k + 1, by omega, by go_num, HA⟩
      case measure => simp [intOf]; omega
    · have HD : Hid ((toL s).dropWhile blankB = (toL s).drop k) := Lib.hid (by
        rw [ha.out]
        by_cases hlt : k < s.size
        · rw [drop_at s k hlt, if_neg (fun hb => hgo ⟨hlt, hb⟩)]
        · rw [List.drop_eq_nil_of_le (by rw [toL_length]; omega)]
          rfl)
      have HL : Hid (((toL s).drop k).length = s.size - k) := Lib.hid (by rw [List.length_drop, toL_length])
      have hx : (∃ h : k < s.size, (k : Int) < (s.size : Int) ∧ Hid (blankB s[k] = false)) ∨ (¬ (k : Int) < (s.size : Int)) := by
        by_cases hlt : k < s.size
        · refine .inl ⟨hlt, by omega, Lib.hid ?_⟩
          cases h : blankB s[k] with
          | true => exact absurd ⟨hlt, h⟩ hgo
          | false => rfl
        · exact .inr (by omega)
      clear hgo ha
      rcases hx with ⟨hlt, hki, HB⟩ | hki
      rotate_left
      · have ek : k = s.size := by omega
        subst ek
        have HV : Hid (ByteArray.empty = ofL (trim (toL s))) := Lib.hid (by
          refine toL_inj ?_
          rw [toL_ofL]
          unfold trim
          rw [HD.out, List.drop_eq_nil_of_le (by rw [toL_length]; omega)]
          rfl)
        go_wp2_with fail
        go_loop [4] (fun t => t = .int .i64 (s.size : Nat)) (fun _ => 0)
        case atStart => rfl
        case round =>
          subst hrel
          go_wp2_with fail
          go_ret
          exact ⟨ret_string HV.out, rfl⟩
      · go_wp2_with fail
        refine (rblank_any _ _).mono ?_
        rintro e w' ⟨rfl, rfl⟩
        rw [HB.out]
        go_wp2_with fail
        go_loop [4] (fun t => ∃ m : Nat, k ≤ m ∧ m ≤ s.size ∧ t = .int .i64 m ∧ Hid (((toL s).drop k).reverse.dropWhile blankB = (((toL s).drop k).take (m - k)).reverse.dropWhile blankB)) (fun t => (intOf t).toNat)
        case atStart => exact ⟨s.size, hk, Nat.le_refl _, rfl, Lib.hid (by rw [List.take_of_length_le (by rw [HL.out]; omega)])⟩
        case round =>
          obtain ⟨m, hm1, hm2, rfl, hb⟩ := hrel
          by_cases hlt2 : k < m
          · obtain ⟨j, rfl⟩ : ∃ j, m = j + 1 := ⟨m - 1, by omega⟩
            have hji : (k : Int) < ((j + 1 : Nat) : Int) := by omega
            have HE : Hid (((toL s).drop k)[j - k]? = some s[j]) := Lib.hid (by rw [List.getElem?_drop, show k + (j - k) = j by omega]; exact toL_get s j (by omega))
            have HLA := Lib.hid (last_at _ _ _ HE.out)
            by_cases hbl : blankB s[j] = true
            · have HB2 := Lib.hid hbl
              have HA : Hid (((toL s).drop k).reverse.dropWhile blankB = (((toL s).drop k).take (j - k)).reverse.dropWhile blankB) := Lib.hid (by
                rw [hb.out, show j + 1 - k = j - k + 1 by omega, HLA.out, if_pos hbl])
              clear hbl HLA HE
              go_wp2_with fail
              refine (rblank_any _ _).mono ?_
              rintro e w' ⟨rfl, rfl⟩
              rw [HB2.out]
              go_wp2_with fail
              go_round
              case rel => exact ⟨j, by omega, by omega, rfl, HA⟩
              case measure => simp [intOf]
            · have hbl : blankB s[j] = false := by simpa using hbl
              have HB2 := Lib.hid hbl
              have HV : Hid (s.extract k (j + 1) = ofL (trim (toL s))) := Lib.hid (by
                refine toL_inj ?_
                rw [toL_extract, toL_ofL]
                unfold trim
                rw [HD.out, hb.out, show j + 1 - k = j - k + 1 by omega, HLA.out, if_neg (by rw [hbl]; decide), List.reverse_reverse, List.drop_take, show j + 1 - k = j - k + 1 by omega])
              clear hbl HLA HE
              go_wp2_with fail
              refine (rblank_any _ _).mono ?_
              rintro e w' ⟨rfl, rfl⟩
              rw [HB2.out]
              go_wp2_with fail
              go_ret
              exact ⟨ret_string HV.out, rfl⟩
          · have em : m = k := by omega
            subst em
            have HV : Hid (ByteArray.empty = ofL (trim (toL s))) := Lib.hid (by
              refine toL_inj ?_
              rw [toL_ofL]
              unfold trim
              rw [HD.out, hb.out, Nat.sub_self]
              rfl)
            go_wp2_with fail
            go_ret
            exact ⟨ret_string HV.out, rfl⟩
end Go.Proofs.Ytfdpoibmlggfbaa.RTrim

/- Layer 4, the document's own Elements. -/
namespace Go.Proofs.Ytfdpoibmlggfbaa.RElements
open Go.ChangeShapes Go.WideShapes Go.ChangeAt Go.RowKit LexPure Bytes Ret RTrim LexList Rows1 Texts
set_option maxRecDepth 20000
def rest (s : ByteArray) (f : Nat) : List (List UInt8) := if f ≤ s.size then elements ((toL s).drop f) else []
/-- behind k bytes, the last comma ahead of f -/
structure EInv (w : World) (s : ByteArray) (k f : Nat) (v : Value) (G : List (List UInt8)) (wr : World) : Prop where
  row : wr.ownsRow w.heap.size 9 1 v G.length (strs G)
  below : Below w.heap.size w wr
  all_ : elements (toL s) = G ++ rest s f
  le : f ≤ k
  in_ : k ≤ s.size → f ≤ s.size
  out_ : s.size < k → s.size < f
  no : noComma (((toL s).drop f).take (k - f)) = true
  few : G.length ≤ k
theorem rest_end {s : ByteArray} {f : Nat} (hf : f ≤ s.size) (h : noComma (((toL s).drop f).take (s.size - f)) = true) : rest s f = one (((toL s).drop f).take (s.size - f)) := by
  unfold rest
  have e : ((toL s).drop f).take (s.size - f) = (toL s).drop f := List.take_of_length_le (by rw [List.length_drop, toL_length]; omega)
  rw [if_pos hf]
  rw [e] at h ⊢
  exact elements_plain h
theorem rest_cut {s : ByteArray} {f k : Nat} (hf : f ≤ k) (hk : k < s.size) (h : noComma (((toL s).drop f).take (k - f)) = true) (hc : s[k] = 44) : rest s f = one (((toL s).drop f).take (k - f)) ++ rest s (k + 1) := by
  unfold rest
  rw [if_pos (by omega), if_pos (by omega)]
  have e : (toL s).drop f = ((toL s).drop f).take (k - f) ++ 44 :: (toL s).drop (k + 1) := by
    have h1 := List.take_append_drop (k - f) ((toL s).drop f)
    rw [List.drop_drop, show f + (k - f) = k by omega, toL_drop s k hk, hc] at h1
    exact h1.symm
  conv => lhs; rw [e]
  exact elements_cut h
theorem piece_eq (s : ByteArray) (f k : Nat) : toL (s.extract f k) = ((toL s).drop f).take (k - f) := by
  rw [toL_extract, List.drop_take]
set_option maxHeartbeats 1600000 in
theorem relements_any (s : ByteArray) (hs : s.size ≤ 8796093022206) (w : World) :
    Calls Try.prog 43 #[.string s] w fun e w' => ∃ v, e = .returned v ∧ w'.ownsRow w.heap.size 9 1 v (elements (toL s)).length (strs (elements (toL s))) ∧ Below w.heap.size w w' := by
  obtain ⟨i0, hi, hz0, hz1, hz2⟩ := info_parts infoS
  go_enter Try.func43, Try.ntmps43
  go_wp2_with fail
  go_loopw [3, 4, 5] (fun v f i wr => ∃ k : Nat, k ≤ s.size + 1 ∧ i = .int .i64 k ∧ ∃ j : Nat, f = .int .i64 j ∧ Hid (∃ G, EInv w s k j v G wr)) (fun _ _ i _ => s.size + 1 - (intOf i).toNat)
  case atStart => exact ⟨0, Nat.zero_le _, rfl, 0, rfl, Lib.hid ⟨[], World.ownsRow_nil _ _ _ _, Below.refl _ _, by simp [rest], Nat.le_refl _, fun _ => Nat.zero_le _, fun h => h, rfl, Nat.le_refl _⟩⟩
  case round =>
    obtain ⟨k, hk, rfl, f, rfl, HI⟩ := hrel
    obtain ⟨G, I⟩ := HI.out
    have hfk := I.le
    by_cases hle : k ≤ s.size
    · have hki : (k : Int) ≤ (s.size : Int) := by omega
      have hfs := I.in_ hle
      by_cases hcut : k = s.size ∨ (∃ h : k < s.size, s[k] = 44)
      · have hE : elements (toL s) = (G ++ one (((toL s).drop f).take (k - f))) ++ rest s (k + 1) := by
          rcases hcut with h | ⟨h, hc⟩
          · subst h
            rw [I.all_, rest_end hfs I.no, show rest s (s.size + 1) = [] by unfold rest; rw [if_neg (by omega)]]
            simp
          · rw [I.all_, rest_cut hfk h I.no hc, List.append_assoc]
        have hsz : (s.extract f k).size ≤ maxLen := by
          have := toL_length (s.extract f k)
          rw [piece_eq, List.length_take, List.length_drop, toL_length] at this
          unfold maxLen
          omega
        have HT := Lib.hid (rtrim_any (s.extract f k) hsz)
        rw [piece_eq] at HT
        clear hsz
        generalize hX : ((toL s).drop f).take (k - f) = X at *
        have hrow := I.row
        have hbw := I.below
        have hfew := I.few
        have hfi : (f : Int) ≤ (k : Int) := by omega
        have hx : (((k : Int) == (s.size : Int)) = true) ∨ (∃ h : k < s.size, ((k : Int) == (s.size : Int)) = false ∧ (k : Int) < (s.size : Int) ∧ ((s[k].toNat : Int) == 44) = true) := by
          rcases hcut with h | ⟨h, hc⟩
          · exact .inl (by rw [h]; exact beq_self_eq_true _)
          · exact .inr ⟨h, beq_eq_false_iff_ne.2 (by omega), by omega, by rw [hc]; rfl⟩
        have HNE : Hid (∀ G' v' wr', wr'.ownsRow w.heap.size 9 1 v' G'.length (strs G') → Below w.heap.size w wr' → G' = G ++ one X → Hid (∃ G, EInv w s (k + 1) (k + 1) v' G wr')) := Lib.hid (fun G' v' wr' h1 h2 h3 => Lib.hid ⟨G', h1, h2, by rw [h3]; exact hE, Nat.le_refl _, fun h => h, fun h => h, by rw [Nat.sub_self]; rfl, by
          have := one_length X
          rw [h3, List.length_append]
          omega⟩)
        clear hE HI I hX hcut
        rcases hx with hq | ⟨hlt, hq, hki2, hc⟩
        all_goals
          go_wp2_with fail
          refine (HT.out _).mono ?_
          rintro e w' ⟨rfl, rfl⟩
          by_cases hem : (trim X).isEmpty = true
          · have h1 : one X = [] := by unfold one; rw [if_pos hem]
            have h2 : (ofL (trim X)).size = 0 := by rw [ofL_size, List.isEmpty_iff.1 hem]; rfl
            have HR := HNE.out G u3 wr hrow hbw (by rw [h1, List.append_nil])
            clear HNE HT h1 hem hrow
            generalize ofL (trim X) = E at *
            go_wp2_with fail
            go_roundw
            case rel => exact ⟨k + 1, by omega, by go_num, k + 1, by go_num, HR⟩
            case measure => simp [intOf]; omega
          · have h1 : one X = [trim X] := by unfold one; rw [if_neg hem]
            have h2 : 0 < (ofL (trim X)).size := by
              rw [ofL_size]
              cases h : trim X with
              | nil => rw [h] at hem; exact absurd rfl hem
              | cons => simp
            rw [h1] at HNE
            have hbase : w.heap.size ≤ wr.heap.size := hbw.size
            have HNF : Hid (∀ v' wr', wr'.ownsRow w.heap.size 9 1 v' (G.length + 1) (strs G ++ [.string (ofL (trim X))]) → Below w.heap.size w wr' → Hid (∃ G, EInv w s (k + 1) (k + 1) v' G wr')) := Lib.hid (fun v' wr' h1 h2 => HNE.out (G ++ [trim X]) v' wr' (by rw [List.length_append, strs_append]; exact h1) h2 rfl)
            clear HNE HT h1 hem
            generalize ofL (trim X) = E at *
            go_wp2_with (at_builtin; refine wpList_append_own _ rfl _ _ 50 rfl w.heap.size 9 i0 (.string ByteArray.empty) 1 16 Try.underlying50 hi hz0 hz1 hz2 rfl (by decide) _ _ _ rfl (hrow.alloc _) ⟨wr.heap.size, 0, none⟩ 1 1 [.string E] rfl rfl (cell_one_new _ _ _) (fun x hx => by simp at hx; subst hx; rfl) (by unfold maxLen; omega) (by omega) (by simp; omega) ?_; intro v' w3 hown' hgrow3 hnil3)
            have HR := HNF.out v' w3 hown' (Below.grown (hbw.alloc hbw.size _) hgrow3 (by simp; omega) (fun j hj => (hrow.lt _ hj).1))
            clear hown' hgrow3 hnil3 HNF hrow
            go_wp2_with fail
            go_roundw
            case rel => exact ⟨k + 1, by omega, by go_num, k + 1, by go_num, HR⟩
            case measure => simp [intOf]; omega
      · have hlt : k < s.size := by
          rcases Nat.lt_or_ge k s.size with h | h
          · exact h
          · exact absurd (.inl (by omega)) hcut
        have hcb : (s[k] == 44) = false := by
          rw [beq_eq_false_iff_ne]
          exact fun h => hcut (.inr ⟨hlt, h⟩)
        have hcd : ((s[k].toNat : Int) == 44) = false := by
          have := all_bytes (p := fun b => (((b.toNat : Int) == 44) == (b == 44))) (by decide +kernel) s[k]
          rw [beq_iff_eq] at this
          rw [this]
          exact hcb
        have hq : ((k : Int) == (s.size : Int)) = false := beq_eq_false_iff_ne.2 (by omega)
        have hki2 : (k : Int) < (s.size : Int) := by omega
        have HR : Hid (∃ G, EInv w s (k + 1) f u3 G wr) := Lib.hid ⟨G, I.row, I.below, I.all_, by omega, fun _ => hfs, fun h => by omega, by
          rw [show k + 1 - f = k - f + 1 by omega, List.take_add_one, List.getElem?_drop, show f + (k - f) = k by omega, toL_get s k hlt]
          exact noComma_snoc I.no hcb, by have := I.few; omega⟩
        clear hcut hcb HI I
        go_wp2_with fail
        go_roundw
        case rel => exact ⟨k + 1, by omega, by go_num, f, rfl, HR⟩
        case measure => simp [intOf]; omega
    · have hrow := I.row
      have hbw := I.below
      have hG : G = elements (toL s) := by
        rw [I.all_]
        have hf := I.out_ (by omega)
        have : rest s f = [] := by unfold rest; rw [if_neg (by omega)]
        rw [this, List.append_nil]
      rw [hG] at hrow
      clear I HI
      go_wp2_with fail
      go_ret
      exact ⟨_, rfl, hrow, hbw⟩
end Go.Proofs.Ytfdpoibmlggfbaa.RElements

/- append of one row of the call's own onto another: the source nil or not, in one law. No program is named. -/
namespace Go.Proofs.Ytfdpoibmlggfbaa.AppendRow

theorem wpList_append_row {P : Program} {w : World} {ops : Array Oper} {rest : List Oper} {o : Oper} {a : Act} {Q : Exit → Act → World → Prop} (hgd : o.guard = none) (s x : Operand) (t : TypeId)
    (ho : o.op = .call { callee := .builtin .append, args := #[s, x], argTypes := #[t, t] })
    (base : Nat) (e : TypeId) (i : TypeInfo) (z : Value) (size bytes : Nat) (ht : P.underlying t = some (.slice e)) (hi : P.info? e = some i) (hz : i.zero = some z)
    (hsize : i.size = size) (hby : i.bytes = bytes) (hzs : z.cells.size = size) (hsz : 0 < size)
    (v : Value) (n : Nat) (xs : List Value) (hs : a.eval s = v) (hown : w.ownsRow base e size v n xs)
    (y : Value) (base' m : Nat) (ys : List Value) (hx : a.eval x = y) (hrow : w.ownsRow base' e size y m ys) (h1 : ∀ u ∈ ys, u.oneCell' = true)
    (h63 : n + m ≤ maxLen) (hbytes : (n + m) * bytes ≤ 140737488355328) (hbase : base ≤ w.heap.size)
    (h : ∀ v' w', w'.ownsRow base e size v' (n + m) (xs ++ ys) → w.grownBy w' v.ownBlock → (v'.ownBlock = v.ownBlock ∨ v'.ownBlock = some w.heap.size) → wpList P ops Q rest (a.put o.dst v') w') :
    wpList P ops Q (o :: rest) a w := by
  rcases hrow.2 with ⟨rfl, rfl⟩ | ⟨g, cap, cur, rfl, _⟩
  · have hys : ys = [] := List.eq_nil_of_length_eq_zero (by simpa using hrow.1)
    subst hys
    exact wpList_append_own_none hgd s x t ho base e i size ht hi v n xs hs hown hx (h v w (by simpa using hown) (World.grownBy.refl w _) (.inl rfl))
  · exact wpList_append_own_at w hgd s x t ho base e i z size bytes ht hi hz hsize hby hzs hsz v n xs hs hown ⟨g, 0, none⟩ m cap ys hx hrow.1 (hrow.cells rfl) h1 h63 hbytes hbase (fun v' w' a1 a2 _ a4 => h v' w' a1 a2 a4)
end Go.Proofs.Ytfdpoibmlggfbaa.AppendRow

/- Layer 7, the document's own Elements. -/
namespace Go.Proofs.Ytfdpoibmlggfbaa.R7Elements
open Go.ChangeShapes Go.WideShapes Go.ChangeAt Go.RowKit LexPure Bytes Ret Rows1 Texts FieldsPure Flds RAlike7 RElements R7Get KeptRow AppendRow Mem
set_option maxRecDepth 20000
theorem elems_snoc (l : List HField) (f : HField) (n : List UInt8) : elems (l ++ [f]) n = if hit n f then elems l n ++ elements f.2 else elems l n := by
  unfold elems
  rw [List.filter_append, List.flatMap_append]
  cases h : hit n f <;> simp [h]
theorem pieces_len : ∀ s : List UInt8, (pieces s).length ≤ s.length + 1
  | [] => by simp [pieces]
  | c :: s => by
    have ih := pieces_len s
    rw [pieces]
    split
    · simp; omega
    · split
      · simp
      · rename_i p ps hp
        rw [hp] at ih
        simp at ih ⊢
        omega
theorem elements_len (s : List UInt8) : (elements s).length ≤ s.length + 1 := by
  unfold elements
  have h1 := List.length_filter_le (fun e : List UInt8 => !e.isEmpty) ((pieces s).map trim)
  rw [List.length_map] at h1
  have := pieces_len s
  omega
theorem elems_len (l : List HField) (n : List UInt8) (B : Nat) (h : ∀ f ∈ l, f.2.length + 1 ≤ B) : (elems l n).length ≤ l.length * B := by
  induction l with
  | nil => simp [elems]
  | cons f l ih =>
    have ih' := ih (fun g hg => h g (List.mem_cons_of_mem _ hg))
    have hf := h f (List.mem_cons_self)
    have he := elements_len f.2
    unfold elems at *
    rw [List.length_cons, Nat.succ_mul]
    clear h ih
    generalize l.length * B = m at *
    cases hq : hit n f
    · rw [List.filter_cons_of_neg (by rw [hq]; decide)]
      omega
    · rw [List.filter_cons_of_pos hq, List.flatMap_cons, List.length_append]
      omega
/-- the elements of the first k fields -/
structure Gath (w : World) (X : List (List UInt8)) (v : Value) (wr : World) : Prop where
  row : wr.ownsRow w.heap.size 9 1 v X.length (strs X)
  below : Below w.heap.size w wr
theorem Gath.start (w : World) : Gath w [] (.slice none 0 0) w := ⟨World.ownsRow_nil _ _ _ _, Below.refl _ _⟩
theorem Gath.call {w w1 w2 : World} {X : List (List UInt8)} {v : Value} (h : Gath w X v w1) (hb : Below w1.heap.size w1 w2) : Gath w X v w2 :=
  ⟨row_below h.row hb, below_chain h.below hb⟩
theorem Gath.lt {w w1 : World} {X : List (List UInt8)} {v : Value} (h : Gath w X v w1) : ∀ j, v.ownBlock = some j → w.heap.size ≤ j := fun j hj => (h.row.lt j hj).1
theorem strs_cells (L : List (List UInt8)) : ∀ u ∈ Texts.strs L, u.oneCell' = true := by
  intro u hu
  unfold Texts.strs at hu
  obtain ⟨a, _, rfl⟩ := List.mem_map.1 hu
  rfl
set_option maxHeartbeats 1600000 in
theorem r7elements_any (v : Value) (G : List HField) (n : ByteArray) (hn : n.size ≤ 1048576) (hG : Few G) (hle2 : G.length ≤ 1048576) (w : World) (hF : FL w v G) :
    Calls Try.prog 31 #[v, .string n] w fun e w' => ∃ v', e = .returned v' ∧ w'.ownsRow w.heap.size 9 1 v' (elems G (toL n)).length (strs (elems G (toL n))) ∧ Below w.heap.size w w' := by
  obtain ⟨i0, hi, hz0, hz1, hz2⟩ := info_parts infoS
  obtain ⟨p, cap, rfl, hle, hc⟩ := hF
  have hbig : ∀ k, (elems (G.take k) (toL n)).length ≤ 1099512676352 := fun k => by
    have := elems_len (G.take k) (toL n) 1048577 (fun f hf => by
      obtain ⟨j, hj, rfl⟩ := List.mem_iff_getElem.1 (List.mem_of_mem_take hf)
      exact Nat.succ_le_succ (hG j hj).2)
    have h2 : (G.take k).length ≤ 1048576 := Nat.le_trans (List.length_take_le' _ _) hle2
    have h3 := Nat.mul_le_mul_right 1048577 h2
    omega
  replace hc := Lib.hid hc
  replace hG := Lib.hid hG
  replace hbig := Lib.hid hbig
  have HK := Lib.hid (Gath.start w)
  go_enter Try.func31, Try.ntmps31
  go_wp2_with fail
  go_loopw [5, 6] (fun x i wr => ∃ k : Nat, k ≤ G.length ∧ i = .int .i64 k ∧ Hid (Gath w (elems (G.take k) (toL n)) x wr)) (fun _ i _ => G.length - (intOf i).toNat)
  case atStart => exact ⟨0, Nat.zero_le _, rfl, HK⟩
  case round =>
    obtain ⟨k, hk, rfl, HI⟩ := hrel
    clear HK
    by_cases hlt : k < G.length
    · obtain ⟨g, o, rfl, hgl, hcell⟩ := hc.out (by omega)
      obtain ⟨c1, c2⟩ := hcell k hlt
      have hki : (k : Int) < (G.length : Int) := by omega
      obtain ⟨s1, s2⟩ := hG.out k hlt
      have HA := Lib.hid (fun w => ralike7_any (ofL G[k].1) n (by rw [ofL_size]; omega) (by omega) w)
      rw [toL_ofL] at HA
      have HT : Hid (elems (G.take (k + 1)) (toL n) = if hit (toL n) G[k] then elems (G.take k) (toL n) ++ elements G[k].2 else elems (G.take k) (toL n)) := Lib.hid (by rw [← elems_snoc, List.take_add_one, List.getElem?_eq_getElem hlt]; rfl)
      replace c1 := (HI.out.below.cell (p := ⟨g, o + k * 2, none⟩) hgl).trans c1
      replace c2 := (HI.out.below.cell (p := ⟨g, o + k * 2 + 1, none⟩) hgl).trans c2
      have hgl2 := Nat.lt_of_lt_of_le hgl HI.out.below.size
      clear hcell
      cases hh : hit (toL n) G[k]
      · rw [hh] at HT
        rw [show alike G[k].1 (toL n) = false from hh] at HA
        clear hh
        go_wp2_with fail
        refine (HA.out _).mono ?_
        rintro e w2 ⟨rfl, hb2⟩
        have HK3 : Hid (Gath w (elems (G.take (k + 1)) (toL n)) u5 w2) := Lib.hid (by
          rw [HT.out]
          exact HI.out.call hb2)
        clear hb2
        go_wp2_with fail
        go_roundw
        case rel => exact ⟨k + 1, by omega, by go_num, HK3⟩
        case measure => simp [intOf]; omega
      · rw [hh] at HT
        rw [show alike G[k].1 (toL n) = true from hh] at HA
        have HE := Lib.hid (fun w => relements_any (ofL G[k].2) (by rw [ofL_size]; omega) w)
        rw [toL_ofL] at HE
        have hel := elements_len G[k].2
        clear hh
        go_wp2_with fail
        refine (HA.out _).mono ?_
        rintro e w2 ⟨rfl, hb2⟩
        replace c2 := (hb2.cell (p := ⟨g, o + k * 2 + 1, none⟩) hgl2).trans c2
        have HG2 := Lib.hid (HI.out.call hb2)
        clear hb2 c1
        go_wp2_with fail
        refine (HE.out _).mono ?_
        rintro e w3 ⟨v3, rfl, hr3, hb3⟩
        have HG3 := Lib.hid (HG2.out.call hb3)
        have hrow := HG3.out.row
        have hlen := hbig.out k
        clear hb3 HG2 c2
        go_wp2_with (at_builtin; refine wpList_append_row rfl (.tmp 27) (.tmp 28) 50 rfl w.heap.size 9 i0 (.string ByteArray.empty) 1 16 Try.underlying50 hi hz0 hz1 hz2 rfl (by decide) u5 _ _ rfl hrow v3 w2.heap.size _ _ rfl hr3 (strs_cells _) (by simp only [maxLen]; omega) (by omega) HG3.out.below.size ?_; intro v4 w4 hown4 hg4 hat4)
        have HK3 : Hid (Gath w (elems (G.take (k + 1)) (toL n)) v4 w4) := Lib.hid (by
          rw [HT.out]
          refine ⟨?_, Below.grown HG3.out.below hg4 HG3.out.below.size HG3.out.lt⟩
          simp only [if_true]
          rw [strs_append, List.length_append]
          exact hown4)
        clear hown4 hg4 hat4 hrow
        go_wp2_with fail
        go_roundw
        case rel => exact ⟨k + 1, by omega, by go_num, HK3⟩
        case measure => simp [intOf]; omega
    · have hall : G.take k = G := List.take_of_length_le (by omega)
      have HE := HI.out
      rw [hall] at HE
      have HEH := Lib.hid HE
      clear HE HI hall
      go_wp2_with fail
      go_ret
      exact ⟨_, rfl, HEH.out.row, HEH.out.below⟩
end Go.Proofs.Ytfdpoibmlggfbaa.R7Elements

/- Elements joined again. No program is named. -/
namespace Go.Proofs.Ytfdpoibmlggfbaa.LexFlat
open LexPure Bytes LexList
/-- one element, dressed -/
def dress (e : List UInt8) : List UInt8 := [32, 44] ++ e ++ [9, 44]
def flat (G : List (List UInt8)) : List UInt8 := G.flatMap dress
theorem flat_snoc (G : List (List UInt8)) (e : List UInt8) : flat (G ++ [e]) = flat G ++ dress e := by simp [flat]
theorem trim_blank {e : List UInt8} (h : trim e = e) (hne : e.isEmpty = false) : trim (e ++ [9]) = e := by
  have h1 : ∀ c r, e = c :: r → blankB c = false := fun c r he => trim_head (s := e) c r (by rw [h]; exact he)
  have h2 : ∀ c r, e.reverse = c :: r → blankB c = false := fun c r he => trim_last (s := e) c r (by rw [h]; exact he)
  unfold trim
  have e1 : (e ++ [9]).dropWhile blankB = e ++ [9] := dropWhile_id (fun c r he => by
    cases e with
    | nil => simp at hne
    | cons d t => simp only [List.cons_append, List.cons.injEq] at he; rw [← he.1]; exact h1 d t rfl)
  rw [e1, List.reverse_append, List.reverse_singleton, List.singleton_append, List.dropWhile_cons, if_pos (by decide), dropWhile_id h2, List.reverse_reverse]
theorem elements_dress {e r : List UInt8} (h : trim e = e) (hne : e.isEmpty = false) (hc : noComma e = true) : elements (dress e ++ r) = e :: elements r := by
  have e1 : dress e ++ r = [32] ++ 44 :: ((e ++ [9]) ++ 44 :: r) := by simp [dress]
  have hc2 : noComma (e ++ [9]) = true := noComma_snoc hc (by decide)
  rw [e1, elements_cut (p := [32]) (by decide), elements_cut hc2]
  have o1 : one [32] = [] := by decide
  have o2 : one (e ++ [9]) = [e] := by unfold one; rw [trim_blank h hne, hne]; rfl
  rw [o1, o2]
  rfl
theorem elements_flat : ∀ {G : List (List UInt8)}, (∀ e ∈ G, e.isEmpty = false ∧ trim e = e ∧ noComma e = true) → elements (flat G) = G
  | [], _ => by decide
  | e :: G, h => by
    have h0 := h e (by simp)
    show elements (dress e ++ flat G) = _
    rw [elements_dress h0.2.1 h0.1 h0.2.2, elements_flat (fun x hx => h x (by simp [hx]))]
theorem pieces_count : ∀ s : List UInt8, (pieces s).length ≤ s.length + 1
  | [] => by simp [pieces]
  | c :: s => by
    have := pieces_count s
    rw [pieces]
    split
    · simp; omega
    · split
      · simp
      · rename_i p ps hp
        rw [hp] at this
        simp at this ⊢
        omega
theorem pieces_short : ∀ {s p : List UInt8}, p ∈ pieces s → p.length ≤ s.length
  | [], p, h => by
    simp only [pieces, List.mem_singleton] at h
    subst h
    simp
  | c :: s, p, h => by
    rw [pieces] at h
    split at h
    · rw [List.mem_cons] at h
      rcases h with rfl | h
      · simp
      · have := pieces_short h
        simp
        omega
    · split at h
      · rw [List.mem_singleton] at h
        subst h
        simp
      · rename_i q qs hp
        rw [List.mem_cons] at h
        rcases h with rfl | h
        · have := pieces_short (s := s) (p := q) (by rw [hp]; simp)
          simp
          omega
        · have := pieces_short (s := s) (p := p) (by rw [hp]; simp [h])
          simp
          omega
theorem elements_count (s : List UInt8) : (elements s).length ≤ s.length + 1 := by
  have h1 := List.length_filter_le (fun e : List UInt8 => !e.isEmpty) ((pieces s).map trim)
  rw [List.length_map] at h1
  have := pieces_count s
  unfold elements
  omega
theorem elements_short {s e : List UInt8} (h : e ∈ elements s) : e.length ≤ s.length := by
  unfold elements at h
  rw [List.mem_filter, List.mem_map] at h
  obtain ⟨⟨p, hp, rfl⟩, _⟩ := h
  have h1 := trim_length p
  have h2 := pieces_short hp
  omega
theorem flat_length {n : Nat} : ∀ {G : List (List UInt8)}, (∀ e ∈ G, e.length ≤ n) → (flat G).length ≤ G.length * (n + 4)
  | [], _ => by simp [flat]
  | e :: G, h => by
    have h0 := h e (by simp)
    have h1 := flat_length (G := G) (fun x hx => h x (by simp [hx]))
    show (dress e ++ flat G).length ≤ _
    rw [List.length_append, List.length_cons, Nat.add_mul, Nat.one_mul]
    have : (dress e).length = e.length + 4 := by simp [dress]
    omega
theorem pieces_total : ∀ s : List UInt8, (pieces s).flatten.length ≤ s.length
  | [] => by simp [pieces]
  | c :: s => by
    have := pieces_total s
    rw [pieces]
    split
    · simp at this ⊢; omega
    · split
      · simp
      · rename_i p ps hp
        rw [hp] at this
        simp at this ⊢
        omega
theorem flat_total : ∀ L : List (List UInt8), (flat ((L.map trim).filter (fun e => !e.isEmpty))).length ≤ L.flatten.length + 4 * L.length
  | [] => by simp [flat]
  | p :: L => by
    have ih := flat_total L
    have ht := trim_length p
    rw [List.map_cons, List.filter_cons]
    split
    · show (dress (trim p) ++ flat _).length ≤ _
      rw [List.length_append]
      have : (dress (trim p)).length = (trim p).length + 4 := by simp [dress]
      simp only [List.flatten_cons, List.length_append, List.length_cons]
      omega
    · simp only [List.flatten_cons, List.length_append, List.length_cons]
      omega
theorem elements_total (s : List UInt8) : (flat (elements s)).length ≤ 5 * s.length + 4 := by
  have h1 := flat_total (pieces s)
  have h2 := pieces_total s
  have h3 := pieces_count s
  unfold elements
  omega
theorem flat_take (G : List (List UInt8)) (k : Nat) : (flat (G.take k)).length ≤ (flat G).length := by
  have h : flat G = flat (G.take k) ++ flat (G.drop k) := by
    unfold flat
    rw [← List.flatMap_append, List.take_append_drop]
  rw [h, List.length_append]
  omega
end Go.Proofs.Ytfdpoibmlggfbaa.LexFlat

/- Layer 7, the document's own Has. -/
namespace Go.Proofs.Ytfdpoibmlggfbaa.R7Has
open Go.ChangeShapes Go.WideShapes Go.ChangeAt Go.RowKit LexPure Bytes Ret Rows1 Texts FieldsPure Flds RAlike7 R7Get KeptRow R7Elements LexFlat Mem
set_option maxRecDepth 20000
theorem elems_short (G : List HField) (n : List UInt8) (hG : Few G) : ∀ (j : Nat) (h : j < (elems G n).length), (elems G n)[j].length ≤ 1048576 := by
  intro j h
  have hm := List.getElem_mem h
  unfold elems at hm
  obtain ⟨f, hf, he⟩ := List.mem_flatMap.1 hm
  obtain ⟨i, hi, rfl⟩ := List.mem_iff_getElem.1 (List.mem_filter.1 hf).1
  exact Nat.le_trans (elements_short he) (hG i hi).2
set_option maxHeartbeats 1600000 in
theorem r7has_any (v : Value) (G : List HField) (n x : ByteArray) (hn : n.size ≤ 1048576) (hx : x.size ≤ 1048576) (hG : Few G) (hle2 : G.length ≤ 1048576) (w : World) (hF : FL w v G) :
    Calls Try.prog 20 #[v, .string n, .string x] w fun e w' => e = .returned (.bool (hasE G (toL n) (toL x))) ∧ Below w.heap.size w w' := by
  have HR := Lib.hid (r7elements_any v G n hn hG hle2 w hF)
  have hS := Lib.hid (elems_short G (toL n) hG)
  clear hF hG hle2
  have HV : Hid (hasE G (toL n) (toL x) = (elems G (toL n)).any (fun y => alike y (toL x))) := Lib.hid rfl
  obtain ⟨b, hb⟩ : ∃ b, b = hasE G (toL n) (toL x) := ⟨_, rfl⟩
  rw [← hb] at HV ⊢
  replace hb := Lib.hid hb
  generalize elems G (toL n) = E at *
  go_enter Try.func20, Try.ntmps20
  go_wp2_with fail
  refine HR.out.mono ?_
  rintro e w2 ⟨v2, rfl, hrow, hb2⟩
  obtain ⟨p, cap, rfl, hle, hc⟩ := texts_of hrow
  replace hc := Lib.hid hc
  have HB0 := Lib.hid hb2
  clear HR hrow hb2
  go_wp2_with fail
  go_loopw [8] (fun i wr => ∃ k : Nat, k ≤ E.length ∧ i = .int .i64 k ∧ Hid ((E.take k).any (fun y => alike y (toL x)) = false) ∧ Hid (Below w2.heap.size w2 wr)) (fun i _ => E.length - (intOf i).toNat)
  case atStart => exact ⟨0, Nat.zero_le _, rfl, Lib.hid rfl, Lib.hid (Below.refl _ _)⟩
  case round =>
    obtain ⟨k, hk, rfl, ha, HB⟩ := hrel
    by_cases hlt : k < E.length
    · obtain ⟨g, o, rfl, hgl, hcell⟩ := hc.out (by omega)
      have c1 := (HB.out.cell (p := ⟨g, o + k, none⟩) hgl).trans (hcell k hlt)
      have hki : (k : Int) < (E.length : Int) := by omega
      have s1 := hS.out k hlt
      have HA := Lib.hid (fun w => ralike7_any (ofL E[k]) x (by rw [ofL_size]; omega) (by omega) w)
      rw [toL_ofL] at HA
      clear hcell
      cases hh : alike E[k] (toL x)
      · have HN : Hid ((E.take (k + 1)).any (fun y => alike y (toL x)) = false) := Lib.hid (by
          rw [List.take_add_one, List.getElem?_eq_getElem hlt, List.any_append, ha.out]
          simp [hh])
        rw [hh] at HA
        clear hh ha
        go_wp2_with fail
        refine (HA.out _).mono ?_
        rintro e w3 ⟨rfl, hb3⟩
        have HB3 := Lib.hid (below_chain HB.out hb3)
        clear hb3 c1
        go_wp2_with fail
        go_roundw
        case rel => exact ⟨k + 1, by omega, by go_num, HN, HB3⟩
        case measure => simp [intOf]; omega
      · have HV2 : Hid (b = true) := Lib.hid (by
          rw [HV.out, List.any_eq_true]
          exact ⟨E[k], List.getElem_mem hlt, hh⟩)
        rw [hh] at HA
        clear hh ha
        go_wp2_with fail
        refine (HA.out _).mono ?_
        rintro e w3 ⟨rfl, hb3⟩
        have HB3 := Lib.hid (below_chain HB0.out (below_chain HB.out hb3))
        clear hb3 c1
        go_wp2_with fail
        go_ret
        exact ⟨ret_bool HV2.out.symm, HB3.out⟩
    · have HV2 : Hid (b = false) := Lib.hid (by
        have h := ha.out
        rw [List.take_of_length_le (by omega)] at h
        rw [HV.out, h])
      have HB3 := Lib.hid (below_chain HB0.out HB.out)
      clear ha
      go_wp2_with fail
      go_ret
      exact ⟨ret_bool HV2.out.symm, HB3.out⟩
end Go.Proofs.Ytfdpoibmlggfbaa.R7Has

/- Layer 7, the document's own Same. -/
namespace Go.Proofs.Ytfdpoibmlggfbaa.R7Same
open Go.ChangeShapes Go.WideShapes Go.ChangeAt Go.RowKit LexPure Bytes Ret Rows1 FieldsPure Flds Mem
set_option maxRecDepth 20000
theorem neqF (a b c d : ByteArray) (p q : Bool) (h1 : (a.toList == c.toList) = p) (h2 : (b.toList == d.toList) = q) (w : World) : (binOp .neq 54 (.agg #[.string a, .string b]) (.agg #[.string c, .string d])).run Try.prog w = .ok (.bool (!(p && q))) w := by
  have u9 := Try.underlying9
  have a9 := Try.isAgg9
  have z9 := Try.sizeOf9
  have hS : Try.prog.underlying 54 = some (.struct (Try.prog.fieldsOf 54)) := by kernel_rfl
  have hp : Try.prog.stoodInHeld 54 = false := by kernel_rfl
  rw [run_neq_struct, show (10000 : Nat) = 9999 + 1 from rfl, run_equalIn_agg w 9999 54 _ _ hS hp]
  simp only [Program.fieldsOf, Try.underlying54]
  cases p
  · go_simp
  · cases q
    · go_simp
    · go_simp
theorem take_ext7 {G H : List HField} {k : Nat} (hk : k < G.length) (hk2 : k < H.length) (h : G.take k = H.take k) (he : G[k] = H[k]) : G.take (k + 1) = H.take (k + 1) := by
  rw [List.take_add_one, List.take_add_one, h, List.getElem?_eq_getElem hk, List.getElem?_eq_getElem hk2, he]
set_option maxHeartbeats 1600000 in
theorem r7same_any (v1 v2 : Value) (G H : List HField) (w : World) (h1 : FL w v1 G) (h2 : FL w v2 H) :
    Calls Try.prog 13 #[v1, v2] w fun e w' => e = .returned (.bool (G == H)) ∧ ∃ m, w' = w.drewN m := by
  obtain ⟨p1, c1, rfl, hn1, HC1⟩ := h1
  obtain ⟨p2, c2, rfl, hn2, HC2⟩ := h2
  replace HC1 := Lib.hid HC1
  replace HC2 := Lib.hid HC2
  by_cases hl : G.length = H.length
  · have hq : ((G.length : Int) != (H.length : Int)) = false := by rw [hl]; exact bne_self_eq_false _
    go_enter Try.func13, Try.ntmps13
    go_wp2_with fail
    go_loopw [5] (fun i wr => ∃ k : Nat, k ≤ G.length ∧ i = .int .i64 k ∧ Hid (G.take k = H.take k) ∧ Hid (∃ m, wr = w.drewN m)) (fun i _ => G.length - (intOf i).toNat)
    case atStart => exact ⟨0, Nat.zero_le _, rfl, Lib.hid rfl, Lib.hid ⟨0, rfl⟩⟩
    case round =>
      obtain ⟨k, hk, rfl, ht, hw⟩ := hrel
      obtain ⟨m, rfl⟩ := hw.out
      by_cases hlt : k < G.length
      · have hki : (k : Int) < (G.length : Int) := by omega
        have hkj : (k : Int) < (H.length : Int) := by omega
        obtain ⟨g1, o1, rfl, _, hcell1⟩ := HC1.out (by omega)
        obtain ⟨g2, o2, rfl, _, hcell2⟩ := HC2.out (by omega)
        obtain ⟨d1, d3⟩ := hcell1 k hlt
        obtain ⟨d2, d4⟩ := hcell2 k (by omega)
        clear hcell1 hcell2
        have hd : ∀ q : Bool, (G[k] == H[k]'(by omega)) = q → (((ofL G[k].1).toList == (ofL (H[k]'(by omega)).1).toList) && ((ofL G[k].2).toList == (ofL (H[k]'(by omega)).2).toList)) = q := fun q hq => by
          rw [same_ofL, same_ofL]; exact hq
        by_cases he : G[k] = H[k]'(by omega)
        · have HT := Lib.hid (take_ext7 hlt (by omega) ht.out he)
          have hnq := fun w => neqF (ofL G[k].1) (ofL G[k].2) (ofL (H[k]'(by omega)).1) (ofL (H[k]'(by omega)).2) true true (by rw [same_ofL, he]; exact beq_self_eq_true _) (by rw [same_ofL, he]; exact beq_self_eq_true _) w
          clear he hd
          generalize ofL G[k].1 = s1 at *
          generalize ofL G[k].2 = s2 at *
          generalize ofL (H[k]'(by omega)).1 = s3 at *
          generalize ofL (H[k]'(by omega)).2 = s4 at *
          clear HC1 HC2 ht hw
          go_wp2_with fail
          go_quiet (fail)
          have HW : Hid (∃ m1, (w.drewN m).drewN nq = w.drewN m1) := Lib.hid ⟨m + nq, by simp⟩
          generalize ((w.drewN m).drewN nq) = w2 at *
          go_wp2_with fail
          go_roundw
          case rel => exact ⟨k + 1, by omega, by go_num, HT, HW⟩
          case measure => simp [intOf]; omega
        · have HV : Hid ((G == H) = false) := Lib.hid (by
            rw [beq_eq_false_iff_ne]
            intro h
            subst h
            exact he rfl)
          have hde := hd false (beq_eq_false_iff_ne.2 he)
          have hnq : ∀ w, (binOp .neq 54 (.agg #[.string (ofL G[k].1), .string (ofL G[k].2)]) (.agg #[.string (ofL (H[k]'(by omega)).1), .string (ofL (H[k]'(by omega)).2)])).run Try.prog w = .ok (.bool true) w := fun w => by
            have := neqF (ofL G[k].1) (ofL G[k].2) (ofL (H[k]'(by omega)).1) (ofL (H[k]'(by omega)).2) _ _ rfl rfl w
            rw [hde] at this
            exact this
          clear he hd hde
          generalize ofL G[k].1 = s1 at *
          generalize ofL G[k].2 = s2 at *
          generalize ofL (H[k]'(by omega)).1 = s3 at *
          generalize ofL (H[k]'(by omega)).2 = s4 at *
          clear HC1 HC2 ht hw
          go_wp2_with fail
          go_quiet (fail)
          have HW : Hid (∃ m1, (w.drewN m).drewN nq = w.drewN m1) := Lib.hid ⟨m + nq, by simp⟩
          generalize ((w.drewN m).drewN nq) = w2 at *
          go_wp2_with fail
          go_ret
          exact ⟨ret_bool HV.out.symm, HW.out⟩
      · have HV : Hid ((G == H) = true) := Lib.hid (by
          have h := ht.out
          rw [List.take_of_length_le (by omega), List.take_of_length_le (by omega)] at h
          rw [h]
          exact beq_self_eq_true _)
        have HW := Lib.hid hw.out
        clear hw
        generalize (w.drewN m) = w2 at *
        go_wp2_with fail
        go_ret
        exact ⟨ret_bool HV.out.symm, HW.out⟩
  · have HV : Hid ((G == H) = false) := Lib.hid (by
      rw [beq_eq_false_iff_ne]
      intro h
      exact hl (by rw [h]))
    have hq : ((G.length : Int) != (H.length : Int)) = true := by
      rw [bne_iff_ne]
      omega
    go_enter Try.func13, Try.ntmps13
    go_wp2_with fail
    go_ret
    exact ⟨ret_bool HV.out.symm, 0, rfl⟩
end Go.Proofs.Ytfdpoibmlggfbaa.R7Same

/- On the way back the first filter has the last word: FilterReverse returns true, for what comes in of bulk at most 1048576. -/
namespace Go.Proofs.Ytfdpoibmlggfbaa.FilterReverseW
open Go.ChangeShapes Go.WideShapes Go.ChangeAt Go.RowKit Bytes LexPure ConfPure ConfMem FieldsPure Flds FilterPure FilterMore FiltState FiltKeep FiltObj L16Anchor L16Right L16Copy L16Join FiltBack RowsArg RouStep RowKeep Texts Ret Mem Step
set_option maxRecDepth 100000
set_option linter.unusedVariables false
set_option linter.unusedSimpArgs false
/-- what a law was handed, and stays -/
structure Hd (w : World) (vl : Value) (fs : List Filt) (vg : Value) (G : List HField) (W : World) : Prop where
  fi : Filts W vl fs
  fl : FL W vg G
  below : Below w.heap.size w W
theorem Hd.call {w W W' : World} {vl vg : Value} {fs : List Filt} {G : List HField} (x : Hd w vl fs vg G W) (hb : Below W.heap.size W W') : Hd w vl fs vg G W' := ⟨x.fi.below hb, x.fl.below hb, below_chain x.below hb⟩
theorem hd_of {w W : World} {vl vg : Value} {fs : List Filt} {G : List HField} (h1 : Filts w vl fs) (h2 : FL w vg G) (hb : Below w.heap.size w W) : Hd w vl fs vg G W := ⟨h1.below hb, h2.below hb, hb⟩
theorem own_lt {w : World} {base n size : Nat} {e : TypeId} {v : Value} {xs : List Value} (h : w.ownsRow base e size v n xs) (j : Nat) (hj : v.ownBlock = some j) : j < w.heap.size ∧ base ≤ j := by
  rcases h.2 with ⟨hv, _⟩ | ⟨g, cap, cur, hv, hb, hg, _⟩
  · rw [hv] at hj; cases hj
  · rw [hv] at hj
    have e : g = j := by simpa [Value.ownBlock] using hj
    subst e
    exact ⟨(Array.getElem?_eq_some_iff.1 hg).1, hb⟩
theorem fl_two (w : World) (a : ByteArray) (b : L) : FL (w.alloc (.cells #[.string a, .string (ofL b)] 54)) (.slice (some ⟨w.heap.size, 0, none⟩) 1 1) [(toL a, b)] :=
  ⟨_, _, rfl, Nat.le_of_ble_eq_true rfl, fun _ => ⟨w.heap.size, 0, rfl, by simp, fun j hj => by
    obtain rfl : j = 0 := by have : j < 1 := hj; omega
    rw [(Has.new w _ _).cell, (Has.new w _ _).cell]
    exact ⟨by show some (Value.string a) = some (.string (ofL (toL a))); rw [ofL_toL], rfl⟩⟩⟩
theorem few_two {b : L} (h : b.length ≤ 1048576) : Few [([108], b)] := fun j hj => by
  obtain rfl : j = 0 := by have : j < 1 := hj; omega
  exact ⟨by show 1 ≤ 1048576; decide, h⟩
set_option maxHeartbeats 6400000 in
theorem walkIn (fs : List Filt) (vl : Value) (hx : ∀ x ∈ fs, FitFilt x) (hfl : fs.length ≤ 1048576) (hfn : RowsArg.Nice vl fs.length) (hns : FiltArg.nameSum fs ≤ 1048576) (G : List HField) (vg : Value) (hG : Few G) (hgl : G.length ≤ 1048576) (hgn : FRow.Nice vg G.length) (w : World) (hFi : Filts w vl fs) (hF : FL w vg G) :
    Calls Try.prog 5 #[vl, vg] w fun e w' => e = .returned (.bool true) ∧ Below w.heap.size w w' := by
  obtain ⟨i0, hi, hz0, hz1, hz2⟩ := info_parts infoFi
  have HAn := Lib.hid (fun w => anchor_any w)
  have HRi := Lib.hid (fun w h => right_any fs hx vl w h)
  have HB := Lib.hid (show Hd w vl fs vg G w from ⟨hFi, hF, Below.refl _ _⟩)
  obtain ⟨pf, cf, rfl, -, -⟩ := hFi.parts
  obtain ⟨pg, cg, rfl, -, -⟩ := id hF
  have HX := Lib.hid hx
  have HF0 := Lib.hid (fun W hb => hd_of (W := W) hFi hF hb)
  have HN1 := Lib.hid hfn
  have HN2 := Lib.hid hgn
  have HS := Lib.hid hns
  have HG := Lib.hid hG
  clear hFi hF hx hfn hgn hns hG
  obtain ⟨b, hb⟩ : ∃ b, b = fs.all filtB := ⟨_, rfl⟩
  rw [← hb] at HRi
  have HBb := Lib.hid hb
  clear hb
  go_enter Try.func5, Try.ntmps5
  go_wp2_with fail
  refine (HAn.out _).mono ?_
  rintro e w1 ⟨rfl, hb1⟩
  have HB1 := Lib.hid (HB.out.call hb1)
  clear hb1 HAn HB
  go_wp2_with fail
  refine (HRi.out w1 HB1.out.fi).mono ?_
  rintro e w2 ⟨rfl, hb2⟩
  have HB2 := Lib.hid (HB1.out.call hb2)
  clear hb2 HRi HB1
  cases b
  · go_wp2_with fail
    go_ret
    exact ⟨rfl, HB2.out.below⟩
  have HR : Hid (∀ f ∈ fs, filtB f = true) := Lib.hid (List.all_eq_true.1 HBb.out.symm)
  have hF2 := (HB2.out.call ((Below.refl w2.heap.size w2).alloc (Nat.le_refl _) (.cells #[] 29))).fi
  have hsz : w2.heap.size ≤ (w2.alloc (.cells #[] 29)).heap.size := by simp
  have hown := ownsFi_none w2 w2.heap.size (Nat.le_refl _)
  go_wp2_with (at_builtin; refine wpList_append_rows rfl _ _ 22 rfl 29 i0 (.agg #[.int .i64 0, .string .empty, .string .empty, .int .i64 0, .int .i64 0, .int .i64 0]) 6 64 Try.underlying22 hi hz0 hz1 hz2 rfl (by decide) w2.heap.size (.slice (some ⟨w2.heap.size, 0, none⟩) 0 0) 0 [] rfl hown (.slice pf fs.length cf) fs.length _ rfl hF2 HN1.out (encFi fs) (fi_len fs) (fun i hi j hj => fi_get fs i hi j hj) (fi_cells fs) (by unfold maxLen; omega) (by omega) hsz ?_; intro v4 w4 hown4 hg4 _)
  obtain ⟨hrow, hb4⟩ := copiedFi hown4 hg4
  have HV := Lib.hid (filts_of hrow)
  have HB4 := Lib.hid (HB2.out.call hb4)
  obtain ⟨p4, c4, rfl, -, -⟩ := HV.out.parts
  clear hrow hb4 hown4 hg4 hF2 hsz hown HB2 hi hz0 hz1 hz2
  go_wp2_with fail
  refine (pnew16 fs HR.out (by omega) 0 ⟨by decide, by decide⟩ _ w4 HV.out).mono ?_
  rintro e w5 ⟨⟨g, F, rfl, hch, hlo⟩, hb5⟩
  obtain ⟨s0, hs0⟩ : ∃ s0, Hid (s0 = start16 fs (seed16 0)) := ⟨_, Lib.hid rfl⟩
  rw [← hs0.out] at hch
  have HLn : Hid (s0.fs = fs) := Lib.hid (by rw [hs0.out]; rfl)
  have L5 := Lib.hid (show Lc w F g s0 w5 from ⟨hch, fun k hk => Nat.le_trans HB4.out.below.size (hlo k hk), (HB4.out.call hb5).below⟩)
  clear hch hlo hb5 HB4 HV hs0
  have hF5 := ((HF0.out _ L5.out.below).call ((Below.refl w5.heap.size w5).alloc (Nat.le_refl _) (.cells #[] 54))).fl
  have hsz5 : w5.heap.size ≤ (w5.alloc (.cells #[] 54)).heap.size := by simp
  go_wp2_with (at_builtin; refine FRow.wpList_append_list rfl _ _ rfl w5.heap.size _ 0 [] rfl (FRow.owns_none w5 _ _ (Nat.le_refl _)) _ G rfl hF5 HN2.out (by omega) hsz5 ?_; intro v6 w6 hown6 hg6)
  obtain ⟨hrow, hb6⟩ := FRow.copied hown6 hg6
  have HV6 := Lib.hid (fl_of hrow (by omega))
  have L6 := Lib.hid (L5.out.call hb6)
  obtain ⟨p6, c6, rfl, -, -⟩ := id HV6.out
  clear hrow hb6 hown6 hg6 hF5 hsz5 L5
  go_wp2_with fail
  refine (presp16 F g s0 _ G (by intro f hf; obtain ⟨j, hj, rfl⟩ := List.getElem_of_mem hf; exact HG.out j hj) (by rw [HLn.out]; omega) w6 L6.out.ch HV6.out).mono ?_
  rintro e w8 ⟨l, F4, rfl, hl, -, hch3, hst3⟩
  rw [HLn.out] at hl
  obtain ⟨k1, k2⟩ := resp_keep fs G HR.out (by intro f hf; obtain ⟨j, hj, rfl⟩ := List.getElem_of_mem hf; exact HG.out j hj)
  have L8 := Lib.hid (L6.out.turn hch3 hst3)
  obtain ⟨pl, cl, rfl, -⟩ := RowKeep.row_form hl
  have HO := Lib.hid (fl_of hl (by omega))
  have HB8 := Lib.hid (HF0.out _ L8.out.below)
  clear hl hch3 hst3 HV6 L6 HF0 L8
  obtain ⟨R, hR⟩ : ∃ R, Hid (R = resp16 fs G) := ⟨_, Lib.hid rfl⟩
  rw [← hR.out] at HO k1 k2
  have HRf : Hid (Few R) := Lib.hid (fun j hj => k1 _ (List.getElem_mem hj))
  have HRl := Lib.hid k2
  have HA0 : Hid ((w8.alloc (.cells #[] 9)).ownsRow w8.heap.size 9 1 (.slice (some ⟨w8.heap.size, 0, none⟩) 0 0) 0 (Texts.strs []) ∧ Below w8.heap.size w8 (w8.alloc (.cells #[] 9))) := Lib.hid ⟨⟨rfl, .inr ⟨w8.heap.size, 0, #[], rfl, Nat.le_refl _, heap_alloc_new w8 _, Nat.le_refl _, Nat.zero_le _, rfl, rfl⟩⟩, (Below.refl _ w8).alloc (Nat.le_refl _) _⟩
  clear k1 k2
  rw [← hR.out]
  go_wp2_with fail
  go_loopw [7, 32] (fun sv i wr => ∃ (k : Nat) (s : List L), k ≤ fs.length ∧ i = .int .i64 k ∧ Hid (Jn fs k s ∧ SetOk fs k s) ∧ (∃ p c, sv = .slice p s.length c) ∧ Hid (wr.ownsRow w8.heap.size 9 1 sv s.length (Texts.strs s) ∧ Below w8.heap.size w8 wr)) (fun _ i _ => fs.length - (intOf i).toNat)
  case atStart => exact ⟨0, [], Nat.zero_le _, rfl, Lib.hid ⟨Jn.zero fs, SetOk.zero fs⟩, ⟨_, _, rfl⟩, HA0⟩
  case round =>
    obtain ⟨k, s, hk, rfl, HJ, ⟨ps, cs, rfl⟩, HW⟩ := hrel
    clear HA0
    by_cases hlt : k < fs.length
    · have hki : (k : Int) < (fs.length : Int) := by omega
      have hk0 : (0 : Int) ≤ (k : Int) := by omega
      obtain ⟨x, hx⟩ : ∃ x, Hid (x = fs[k]) := ⟨_, Lib.hid rfl⟩
      obtain ⟨gf, ff, rfl, m0, m1, m2, m3, m4, m5⟩ := filt_at (HB8.out.fi.below HW.out.2) k hlt x hx.out
      rcases (show (x.kind ≠ 5 ∧ x.kind ≠ 8) ∨ x.kind = 8 ∨ x.kind = 5 from by omega) with ⟨z5, z8⟩ | z8 | z5
      · have HJ2 : Hid (Jn fs (k + 1) s ∧ SetOk fs (k + 1) s) := Lib.hid ⟨HJ.out.1.skip hlt, HJ.out.2.skip hlt (by rw [← hx.out]; unfold name16; rw [if_neg z8, if_neg z5])⟩
        have ha := (Below.refl wr.heap.size wr).alloc (Nat.le_refl _) (.cells #[.int .i64 x.kind, .string (ofL x.name), .string (ofL x.value), .int .i64 x.n, .int .i64 x.m, .int .i64 x.k] 29)
        have HW2 := Lib.hid (And.intro (row_below HW.out.1 ha) (below_chain HW.out.2 ha))
        clear ha
        go_wp2_with fail
        go_roundw
        case rel => exact ⟨k + 1, s, by omega, by go_num, HJ2, ⟨_, _, rfl⟩, HW2⟩
        case measure => simp [intOf]; omega
      · have HN : Hid (name16 fs[k] = some x.name) := Lib.hid (by rw [← hx.out]; unfold name16; rw [if_pos z8])
        have HS1 := Lib.hid (show ((ofL x.name) : ByteArray).size ≤ 1048576 from (by rw [ofL_size]; have := name_le (f := x) (by rw [hx.out]; exact HR.out _ (List.getElem_mem hlt)) z8; omega))
        have HTo := Lib.hid (show toL (ofL x.name) = x.name from toL_ofL _)
        have HZ := Lib.hid (show Hid (x.kind = 8) from Lib.hid z8)
        rw [z8] at m0
        have ha := (Below.refl wr.heap.size wr).alloc (Nat.le_refl _) (.cells #[.int .i64 8, .string (ofL x.name), .string (ofL x.value), .int .i64 x.n, .int .i64 x.m, .int .i64 x.k] 29)
        have HX1 := Lib.hid (Has.new wr 29 #[.int .i64 8, .string (ofL x.name), .string (ofL x.value), .int .i64 x.n, .int .i64 x.m, .int .i64 x.k])
        have HR2 := Lib.hid (row_below HW.out.1 ha)
        have HB2 := Lib.hid (below_chain HW.out.2 ha)
        have HOL := Lib.hid (fun j hj => (own_lt HW.out.1 j hj).1)
        have HJo := Lib.hid (joined_any _ s (by have := (HJ.out.1.le HS.out).1; omega) _ (texts_of HR2.out))
        obtain ⟨gx, hgx⟩ : ∃ gx, gx = wr.heap.size := ⟨_, rfl⟩
        rw [← hgx] at HX1 HOL
        have HGx := Lib.hid hgx
        clear ha hgx HW
        go_wp2_with fail
        refine HJo.out.mono ?_
        rintro e w3 ⟨rfl, hb3⟩
        rw [← HGx.out]
        have HX3 := Lib.hid (HX1.out.below hb3 HX1.out.lt)
        have HR3 := Lib.hid (row_below HR2.out hb3)
        have HB3 := Lib.hid (below_chain HB2.out hb3)
        have HFl := Lib.hid (fl_two w3 ⟨#[108]⟩ (joinedL s))
        have ha3 := (Below.refl w3.heap.size w3).alloc (Nat.le_refl _) (.cells #[.string ⟨#[108]⟩, .string (ofL (joinedL s))] 54)
        have HA3 := Lib.hid ha3
        clear hb3 ha3 HX1 HR2 HB2 HJo m0 m1 m2 m3 m4 m5
        go_wp2_with fail
        refine (R7Has.r7has_any _ [([108], joinedL s)] ⟨#[108]⟩ (ofL x.name) (by decide) HS1.out (few_two (HJ.out.1.le HS.out).1) (by simp) _ HFl.out).mono ?_
        rintro e w4 ⟨rfl, hb4⟩
        rw [show hasE [([108], joinedL s)] (toL ⟨#[108]⟩) (toL (ofL x.name)) = s.any (fun y => alike y x.name) from by rw [HTo.out]; exact has_joined s HJ.out.2.nm x.name]
        have hb5 := below_chain HA3.out hb4
        have HX4 := Lib.hid (HX3.out.below hb5 HX3.out.lt)
        have HR4 := Lib.hid (row_below HR3.out hb5)
        have HB4 := Lib.hid (below_chain HB3.out hb5)
        clear hb4 hb5 HX3 HR3 HB3 HA3 HFl
        cases ha : s.any (fun y => alike y x.name)
        · have HJ2 : Hid (Jn fs (k + 1) (s ++ [x.name]) ∧ SetOk fs (k + 1) (s ++ [x.name])) := Lib.hid ⟨by have := HJ.out.1.eight hlt (HR.out _ (List.getElem_mem hlt)) (by rw [← hx.out]; exact z8); rwa [← hx.out] at this, HJ.out.2.more hlt (HR.out _ (List.getElem_mem hlt)) HN.out⟩
          have HWd : Hid (getN R x.name = 1 ∧ getV R x.name = x.value) := Lib.hid (by rw [hR.out]; exact ⟨(HJ.out.2.word hlt HN.out ha G).1, (HJ.out.2.word hlt HN.out ha G).2.trans (by rw [hx.out])⟩)
          have hsl := (HJ.out.1.le HS.out).2
          obtain ⟨i1, hi, hz0, hz1, hz2⟩ := info_parts Texts.infoS
          have hnw := World.news_of_block (heap_alloc_new w4 (.cells #[.string (ofL x.name)] 9))
          have hrow5 := row_below HR4.out ((Below.refl w4.heap.size w4).alloc (Nat.le_refl _) (.cells #[.string (ofL x.name)] 9))
          have hsz : w8.heap.size ≤ (w4.alloc (.cells #[.string (ofL x.name)] 9)).heap.size := by have := HB4.out.size; simp; omega
          go_wp2_with (at_builtin; refine wpList_append_own_at _ rfl (.tmp 57) (.tmp 59) 50 rfl w8.heap.size 9 i1 (.string ByteArray.empty) 1 16 Try.underlying50 hi hz0 hz1 hz2 rfl (by omega) _ _ _ rfl hrow5 ⟨w4.heap.size, 0, none⟩ 1 1 [.string (ofL x.name)] rfl rfl hnw (by simp [Value.oneCell']) (by simp only [maxLen]; omega) (by omega) hsz ?_; intro v5 w5 hown5 hg5 _ hat5)
          have hbg : Below w8.heap.size w8 w5 := (HB4.out.alloc (by exact HB4.out.size) _).grown hg5 hsz (fun j e => (own_lt HR4.out j e).2)
          have HB5 := Lib.hid hbg
          have HX5 := Lib.hid ((HX4.out.alloc (.cells #[.string (ofL x.name)] 9)).grown hg5 (fun e => by have := HOL.out gx e.symm; omega))
          obtain ⟨p5, c5, rfl, -⟩ := row_form hown5
          have HR5 : Hid (w5.ownsRow w8.heap.size 9 1 (.slice p5 (s.length + 1) c5) (s ++ [x.name]).length (Texts.strs (s ++ [x.name]))) := Lib.hid (by rw [show Texts.strs (s ++ [x.name]) = Texts.strs s ++ [.string (ofL x.name)] from by rw [Texts.strs_append]; rfl, List.length_append]; exact hown5)
          have HGt := Lib.hid (R7Get.rget_any _ R (ofL x.name) HS1.out HRf.out w5 (HO.out.below HB5.out))
          clear hi hz0 hz1 hz2 hnw hrow5 hsz hbg hown5 hg5 hat5
          refine HGt.out.mono ?_
          rintro e w6 ⟨rfl, hb6⟩
          rw [HTo.out, HWd.out.1, HWd.out.2]
          have HX6 := Lib.hid (HX5.out.below hb6 HX5.out.lt)
          have HR6 := Lib.hid (row_below HR5.out hb6)
          have HB6 := Lib.hid (below_chain HB5.out hb6)
          have d2 : w6.cell? ⟨gx, 2, none⟩ = some (.string (ofL x.value)) := HX6.out.cell 2
          clear hb6
          go_wp2_with fail
          go_roundw
          case rel => exact ⟨k + 1, s ++ [x.name], by omega, by go_num, HJ2, ⟨p5, c5, by simp⟩, Lib.hid ⟨HR6.out, HB6.out⟩⟩
          case measure => simp [intOf]; omega
        · have HJ2 : Hid (Jn fs (k + 1) s ∧ SetOk fs (k + 1) s) := Lib.hid ⟨HJ.out.1.skip hlt, HJ.out.2.had hlt HN.out ha⟩
          go_wp2_with fail
          go_roundw
          case rel => exact ⟨k + 1, s, by omega, by go_num, HJ2, ⟨_, _, rfl⟩, Lib.hid ⟨HR4.out, HB4.out⟩⟩
          case measure => simp [intOf]; omega
      · have HN : Hid (name16 fs[k] = some ACAO) := Lib.hid (by rw [← hx.out]; unfold name16; rw [if_neg (by omega), if_pos z5])
        have HS1 := Lib.hid (show (⟨#[65, 99, 99, 101, 115, 115, 45, 67, 111, 110, 116, 114, 111, 108, 45, 65, 108, 108, 111, 119, 45, 79, 114, 105, 103, 105, 110]⟩ : ByteArray).size ≤ 1048576 from (by decide))
        have HTo := Lib.hid (show toL ⟨#[65, 99, 99, 101, 115, 115, 45, 67, 111, 110, 116, 114, 111, 108, 45, 65, 108, 108, 111, 119, 45, 79, 114, 105, 103, 105, 110]⟩ = ACAO from rfl)
        have HZ := Lib.hid (show Hid (x.kind = 5) from Lib.hid z5)
        rw [z5] at m0
        have ha := (Below.refl wr.heap.size wr).alloc (Nat.le_refl _) (.cells #[.int .i64 5, .string (ofL x.name), .string (ofL x.value), .int .i64 x.n, .int .i64 x.m, .int .i64 x.k] 29)
        have HX1 := Lib.hid (Has.new wr 29 #[.int .i64 5, .string (ofL x.name), .string (ofL x.value), .int .i64 x.n, .int .i64 x.m, .int .i64 x.k])
        have HR2 := Lib.hid (row_below HW.out.1 ha)
        have HB2 := Lib.hid (below_chain HW.out.2 ha)
        have HOL := Lib.hid (fun j hj => (own_lt HW.out.1 j hj).1)
        have HJo := Lib.hid (joined_any _ s (by have := (HJ.out.1.le HS.out).1; omega) _ (texts_of HR2.out))
        obtain ⟨gx, hgx⟩ : ∃ gx, gx = wr.heap.size := ⟨_, rfl⟩
        rw [← hgx] at HX1 HOL
        have HGx := Lib.hid hgx
        clear ha hgx HW
        go_wp2_with fail
        refine HJo.out.mono ?_
        rintro e w3 ⟨rfl, hb3⟩
        rw [← HGx.out]
        have HX3 := Lib.hid (HX1.out.below hb3 HX1.out.lt)
        have HR3 := Lib.hid (row_below HR2.out hb3)
        have HB3 := Lib.hid (below_chain HB2.out hb3)
        have HFl := Lib.hid (fl_two w3 ⟨#[108]⟩ (joinedL s))
        have ha3 := (Below.refl w3.heap.size w3).alloc (Nat.le_refl _) (.cells #[.string ⟨#[108]⟩, .string (ofL (joinedL s))] 54)
        have HA3 := Lib.hid ha3
        clear hb3 ha3 HX1 HR2 HB2 HJo m0 m1 m2 m3 m4 m5
        go_wp2_with fail
        refine (R7Has.r7has_any _ [([108], joinedL s)] ⟨#[108]⟩ ⟨#[65, 99, 99, 101, 115, 115, 45, 67, 111, 110, 116, 114, 111, 108, 45, 65, 108, 108, 111, 119, 45, 79, 114, 105, 103, 105, 110]⟩ (by decide) HS1.out (few_two (HJ.out.1.le HS.out).1) (by simp) _ HFl.out).mono ?_
        rintro e w4 ⟨rfl, hb4⟩
        rw [show hasE [([108], joinedL s)] (toL ⟨#[108]⟩) (toL ⟨#[65, 99, 99, 101, 115, 115, 45, 67, 111, 110, 116, 114, 111, 108, 45, 65, 108, 108, 111, 119, 45, 79, 114, 105, 103, 105, 110]⟩) = s.any (fun y => alike y ACAO) from by rw [HTo.out]; exact has_joined s HJ.out.2.nm ACAO]
        have hb5 := below_chain HA3.out hb4
        have HX4 := Lib.hid (HX3.out.below hb5 HX3.out.lt)
        have HR4 := Lib.hid (row_below HR3.out hb5)
        have HB4 := Lib.hid (below_chain HB3.out hb5)
        clear hb4 hb5 HX3 HR3 HB3 HA3 HFl
        cases ha : s.any (fun y => alike y ACAO)
        · have HJ2 : Hid (Jn fs (k + 1) (s ++ [ACAO]) ∧ SetOk fs (k + 1) (s ++ [ACAO])) := Lib.hid ⟨HJ.out.1.five hlt ha, HJ.out.2.more hlt (HR.out _ (List.getElem_mem hlt)) HN.out⟩
          have HWd : Hid (getN R ACAO = 1 ∧ getV R ACAO = x.value) := Lib.hid (by rw [hR.out]; exact ⟨(HJ.out.2.word hlt HN.out ha G).1, (HJ.out.2.word hlt HN.out ha G).2.trans (by rw [hx.out])⟩)
          have hsl := (HJ.out.1.le HS.out).2
          obtain ⟨i1, hi, hz0, hz1, hz2⟩ := info_parts Texts.infoS
          have hnw := World.news_of_block (heap_alloc_new w4 (.cells #[.string ⟨#[65, 99, 99, 101, 115, 115, 45, 67, 111, 110, 116, 114, 111, 108, 45, 65, 108, 108, 111, 119, 45, 79, 114, 105, 103, 105, 110]⟩] 9))
          have hrow5 := row_below HR4.out ((Below.refl w4.heap.size w4).alloc (Nat.le_refl _) (.cells #[.string ⟨#[65, 99, 99, 101, 115, 115, 45, 67, 111, 110, 116, 114, 111, 108, 45, 65, 108, 108, 111, 119, 45, 79, 114, 105, 103, 105, 110]⟩] 9))
          have hsz : w8.heap.size ≤ (w4.alloc (.cells #[.string ⟨#[65, 99, 99, 101, 115, 115, 45, 67, 111, 110, 116, 114, 111, 108, 45, 65, 108, 108, 111, 119, 45, 79, 114, 105, 103, 105, 110]⟩] 9)).heap.size := by have := HB4.out.size; simp; omega
          go_wp2_with (at_builtin; refine wpList_append_own_at _ rfl (.tmp 57) (.tmp 59) 50 rfl w8.heap.size 9 i1 (.string ByteArray.empty) 1 16 Try.underlying50 hi hz0 hz1 hz2 rfl (by omega) _ _ _ rfl hrow5 ⟨w4.heap.size, 0, none⟩ 1 1 [.string ⟨#[65, 99, 99, 101, 115, 115, 45, 67, 111, 110, 116, 114, 111, 108, 45, 65, 108, 108, 111, 119, 45, 79, 114, 105, 103, 105, 110]⟩] rfl rfl hnw (by simp [Value.oneCell']) (by simp only [maxLen]; omega) (by omega) hsz ?_; intro v5 w5 hown5 hg5 _ hat5)
          have hbg : Below w8.heap.size w8 w5 := (HB4.out.alloc (by exact HB4.out.size) _).grown hg5 hsz (fun j e => (own_lt HR4.out j e).2)
          have HB5 := Lib.hid hbg
          have HX5 := Lib.hid ((HX4.out.alloc (.cells #[.string ⟨#[65, 99, 99, 101, 115, 115, 45, 67, 111, 110, 116, 114, 111, 108, 45, 65, 108, 108, 111, 119, 45, 79, 114, 105, 103, 105, 110]⟩] 9)).grown hg5 (fun e => by have := HOL.out gx e.symm; omega))
          obtain ⟨p5, c5, rfl, -⟩ := row_form hown5
          have HR5 : Hid (w5.ownsRow w8.heap.size 9 1 (.slice p5 (s.length + 1) c5) (s ++ [ACAO]).length (Texts.strs (s ++ [ACAO]))) := Lib.hid (by rw [show Texts.strs (s ++ [ACAO]) = Texts.strs s ++ [.string ⟨#[65, 99, 99, 101, 115, 115, 45, 67, 111, 110, 116, 114, 111, 108, 45, 65, 108, 108, 111, 119, 45, 79, 114, 105, 103, 105, 110]⟩] from by rw [Texts.strs_append]; rfl, List.length_append]; exact hown5)
          have HGt := Lib.hid (R7Get.rget_any _ R ⟨#[65, 99, 99, 101, 115, 115, 45, 67, 111, 110, 116, 114, 111, 108, 45, 65, 108, 108, 111, 119, 45, 79, 114, 105, 103, 105, 110]⟩ HS1.out HRf.out w5 (HO.out.below HB5.out))
          clear hi hz0 hz1 hz2 hnw hrow5 hsz hbg hown5 hg5 hat5
          refine HGt.out.mono ?_
          rintro e w6 ⟨rfl, hb6⟩
          rw [HTo.out, HWd.out.1, HWd.out.2]
          have HX6 := Lib.hid (HX5.out.below hb6 HX5.out.lt)
          have HR6 := Lib.hid (row_below HR5.out hb6)
          have HB6 := Lib.hid (below_chain HB5.out hb6)
          have d2 : w6.cell? ⟨gx, 2, none⟩ = some (.string (ofL x.value)) := HX6.out.cell 2
          clear hb6
          go_wp2_with fail
          go_roundw
          case rel => exact ⟨k + 1, s ++ [ACAO], by omega, by go_num, HJ2, ⟨p5, c5, by simp⟩, Lib.hid ⟨HR6.out, HB6.out⟩⟩
          case measure => simp [intOf]; omega
        · have HJ2 : Hid (Jn fs (k + 1) s ∧ SetOk fs (k + 1) s) := Lib.hid ⟨HJ.out.1.skip hlt, HJ.out.2.had hlt HN.out ha⟩
          go_wp2_with fail
          go_roundw
          case rel => exact ⟨k + 1, s, by omega, by go_num, HJ2, ⟨_, _, rfl⟩, Lib.hid ⟨HR4.out, HB4.out⟩⟩
          case measure => simp [intOf]; omega
    · have hki : ¬ (k : Int) < (fs.length : Int) := by omega
      have ek : k = fs.length := by omega
      have HB9 := Lib.hid (HB8.out.call HW.out.2)
      cases s with
      | nil =>
        have HE : Hid ((R == G) = true) := Lib.hid (by rw [hR.out, SetOk.done (by have := HJ.out.2; rwa [ek] at this) G]; exact beq_self_eq_true _)
        have HSm := Lib.hid (R7Same.r7same_any _ _ R G wr (HO.out.below HW.out.2) HB9.out.fl)
        clear ek
        go_wp2_with fail
        refine HSm.out.mono ?_
        rintro e w9 ⟨rfl, m, rfl⟩
        have HB10 : Hid (Below w.heap.size w (wr.drewN m)) := Lib.hid (by have hB := HB9.out.below; exact ⟨hB.os, hB.tape, hB.output, hB.size, hB.block⟩)
        rw [HE.out]
        go_wp2_with fail
        go_ret
        exact ⟨rfl, HB10.out⟩
      | cons y s =>
        clear ek
        have hl0 : (0 : Int) < ((y :: s).length : Int) := by rw [List.length_cons]; omega
        generalize (y :: s).length = N at *
        go_wp2_with fail
        go_ret
        exact ⟨rfl, HB9.out.below⟩
theorem walk {H : Type} {enc : TypeId × Value → H} {W : World} {base : Nat} (v : Value) (d : DataW H) (p : List MemPlace) (hv : Value.okWide Try.prog W .any base 22 v) (hd : DataW.Trod enc Try.prog W 0 (fun _ => true) true 22 v d p) (hl : ∀ x ∈ p, x.block < W.heap.size) (hb : Rows.uptoBulk d ≤ 1048576)
    (v2 : Value) (d2 : DataW H) (p2 : List MemPlace) (hv2 : Value.okWide Try.prog W .any base 32 v2) (hd2 : DataW.Trod enc Try.prog W 0 (fun _ => true) true 32 v2 d2 p2) (hl2 : ∀ x ∈ p2, x.block < W.heap.size) (hb2 : Rows.uptoBulk d2 ≤ 1048576) :
    Calls Try.prog 5 #[v, v2] W fun e w' => e = .returned (.bool true) ∧ Below W.heap.size W w' := by
  obtain ⟨fs, hF, hl1, hx, hs, hn⟩ := FiltArg.filts_arg hv hd hb
  obtain ⟨G, hG, hf, hGl, hy⟩ := FArg.fields_arg hv2 hd2 hb2
  exact walkIn fs v hx hl1 hn hs G v2 hf hGl hy W hF hG
end Go.Proofs.Ytfdpoibmlggfbaa.FilterReverseW
