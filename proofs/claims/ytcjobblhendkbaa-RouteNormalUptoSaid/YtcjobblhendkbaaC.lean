/- Texts of this seat, one behind another: KeptRow, FRow, RouStep, RouState. -/
import Derived.OwnWalk
import Derived.Maps.AppendAt
import Derived.Deep.AppendLies
import Derived.Test.YtcjobblhendkbaaA2
import Derived.Test.YtcjobblhendkbaaA1
/- Layer 7: a row of fields that a call gathers. -/
namespace Go.Proofs.Ytcjobblhendkbaa.KeptRow
open Go.ChangeShapes Go.WideShapes Go.ChangeAt Go.RowKit LexPure Bytes Ret Rows1 FieldsPure Flds Mem
set_option maxRecDepth 20000
/-- what is kept of the first k -/
structure Kept (w : World) (X : List HField) (v : Value) (wr : World) : Prop where
  row : wr.ownsRow w.heap.size 84 2 v X.length (encFs X)
  below : Below w.heap.size w wr
theorem Kept.start (w : World) : Kept w [] (.slice none 0 0) w := ⟨World.ownsRow_nil _ _ _ _, Below.refl _ _⟩
theorem row_below {w w' : World} {base n size : Nat} {e : TypeId} {v : Value} {xs : List Value} (h : w.ownsRow base e size v n xs) (hb : Below w.heap.size w w') : w'.ownsRow base e size v n xs := by
  refine ⟨h.1, ?_⟩
  rcases h.2 with h0 | ⟨g, cap, cur, hv, h1, hg, rest⟩
  · exact .inl h0
  · exact .inr ⟨g, cap, cur, hv, h1, (hb.block g (Array.getElem?_eq_some_iff.1 hg).1).trans hg, rest⟩
theorem row_mono {w : World} {base base' n size : Nat} {e : TypeId} {v : Value} {xs : List Value} (h : w.ownsRow base e size v n xs) (hb : base' ≤ base) : w.ownsRow base' e size v n xs := by
  refine ⟨h.1, ?_⟩
  rcases h.2 with h0 | ⟨g, cap, cur, h1, h2, h3⟩
  · exact .inl h0
  · exact .inr ⟨g, cap, cur, h1, Nat.le_trans hb h2, h3⟩
theorem Kept.call {w w1 w2 : World} {X : List HField} {v : Value} (h : Kept w X v w1) (hb : Below w1.heap.size w1 w2) : Kept w X v w2 :=
  ⟨row_below h.row hb, below_chain h.below hb⟩
theorem Kept.alloc {w w1 : World} {X : List HField} {v : Value} (h : Kept w X v w1) (o : Obj) : Kept w X v (w1.alloc o) := h.call ((Below.refl _ _).alloc (Nat.le_refl _) o)
theorem Kept.lt {w w1 : World} {X : List HField} {v : Value} (h : Kept w X v w1) : ∀ j, v.ownBlock = some j → w.heap.size ≤ j := fun j hj => (h.row.lt j hj).1
theorem fl_none (w : World) : FL w (.slice none 0 0) [] := ⟨none, 0, rfl, Nat.zero_le _, fun h => absurd h (by decide)⟩
/-- a row of a call's own, of 32 fields at most -/
def RowF (W : World) (base : Nat) (v : Value) (l : List HField) : Prop := W.ownsRow base 84 2 v l.length (encFs l) ∧ l.length ≤ 32
theorem row_none (W : World) (base : Nat) : RowF W base (.slice none 0 0) [] := ⟨World.ownsRow_nil _ _ _ _, by decide⟩
end Go.Proofs.Ytcjobblhendkbaa.KeptRow

/- A list of fields appended to a row of one's own. -/
namespace Go.Proofs.Ytcjobblhendkbaa.FRow
open Go.ChangeShapes Go.WideShapes Go.ChangeAt Go.RowKit LexPure Bytes Ret Rows1 FieldsPure Flds KeptRow Mem
set_option maxRecDepth 20000
/-- a list's value is nil, or it has an address -/
abbrev Nice := FArg.Nice
theorem encFs_len (G : List HField) : (encFs G).length = G.length * 2 := by
  induction G with
  | nil => rfl
  | cons f G ih =>
    rw [show f :: G = [f] ++ G from rfl, encFs_append, List.length_append, ih]
    simp [encFs, encF]
    omega
theorem encFs_cells (G : List HField) : ∀ u ∈ encFs G, u.oneCell' = true := by
  intro u hu
  unfold encFs at hu
  obtain ⟨f, _, hf⟩ := List.mem_flatMap.1 hu
  unfold encF at hf
  simp only [List.mem_cons, List.not_mem_nil, or_false] at hf
  rcases hf with rfl | rfl <;> rfl
theorem encFs_get (G : List HField) (j : Nat) (u : Value) (h : (encFs G)[j]? = some u) : ∃ i, ∃ hi : i < G.length, (j = i * 2 ∧ u = .string (ofL G[i].1)) ∨ (j = i * 2 + 1 ∧ u = .string (ofL G[i].2)) := by
  have hj : j < G.length * 2 := by rw [← encFs_len]; exact (List.getElem?_eq_some_iff.1 h).1
  have hi : j / 2 < G.length := by omega
  obtain ⟨h1, h2⟩ := encFs_at G (j / 2) G[j / 2] (List.getElem?_eq_getElem hi)
  refine ⟨j / 2, hi, ?_⟩
  rcases Nat.mod_two_eq_zero_or_one j with e | e
  · have ej : j = j / 2 * 2 := by omega
    rw [← ej] at h1
    rw [h1] at h
    exact .inl ⟨ej, (Option.some.inj h).symm⟩
  · have ej : j = j / 2 * 2 + 1 := by omega
    rw [← ej] at h2
    rw [h2] at h
    exact .inr ⟨ej, (Option.some.inj h).symm⟩
set_option maxHeartbeats 800000 in
theorem run_append_list {w : World} (ty base : Nat) (v : Value) (n : Nat) (xs : List Value) (hown : w.ownsRow base 84 2 v n xs) (y : Value) (G : List HField) (hF : FL w y G) (hy : Nice y G.length)
    (h63 : n + G.length ≤ 4398046511104) (hbase : base ≤ w.heap.size) :
    ∃ v' w', (Builtin.append_ #[27, 27] ty #[v, y]).run Try.prog w = .ok v' w' ∧ w'.ownsRow base 84 2 v' (n + G.length) (xs ++ encFs G) ∧ w.grownBy w' v.ownBlock := by
  obtain ⟨i0, hi, hz0, hz1, hz2⟩ := info_parts infoF
  rcases hy with rfl | ⟨a, cap, rfl⟩
  · obtain ⟨p', c', hv, _, _⟩ := hF
    have hlen : G.length = 0 := by injection hv with _ h _; exact h.symm
    have hG : G = [] := List.eq_nil_of_length_eq_zero hlen
    subst hG
    exact ⟨v, w, run_append_owned_none (P := Try.prog) (w := w) base 27 ty 84 i0 2 Try.underlying27 hi v n xs hown, by simpa [encFs] using hown, World.grownBy.refl w _⟩
  · obtain ⟨p', c', hv, hle, hc⟩ := hF
    injection hv with e1 _ e3
    subst e1 e3
    obtain ⟨v', w', hr, h2, h3, _, _⟩ := run_append_own_at (P := Try.prog) w base 27 ty 84 i0 _ 2 32 Try.underlying27 hi hz0 hz1 hz2 rfl (by omega) v n xs hown a G.length cap (encFs G) (encFs_len G)
      (fun j u h => by
        obtain ⟨i, hi, hh⟩ := encFs_get G j u h
        obtain ⟨g', o', e, _, hcell⟩ := hc (by omega)
        injection e with e
        subst e
        rw [FArg.add_plain]
        rcases hh with ⟨rfl, rfl⟩ | ⟨rfl, rfl⟩
        · exact (hcell i hi).1
        · exact (hcell i hi).2) (encFs_cells G) (by unfold maxLen; omega) (by omega) hbase
    exact ⟨v', w', hr, h2, h3⟩
theorem wpList_append_list {w : World} {ops : Array Oper} {rest : List Oper} {o : Oper} {a : Act} {Q : Exit → Act → World → Prop} (hgd : o.guard = none) (s x : Operand)
    (ho : o.op = .call { callee := .builtin .append, args := #[s, x], argTypes := #[27, 27] }) (base : Nat) (v : Value) (n : Nat) (xs : List Value) (hs : a.eval s = v) (hown : w.ownsRow base 84 2 v n xs)
    (y : Value) (G : List HField) (hx : a.eval x = y) (hF : FL w y G) (hy : Nice y G.length) (h63 : n + G.length ≤ 4398046511104) (hbase : base ≤ w.heap.size)
    (h : ∀ v' w', w'.ownsRow base 84 2 v' (n + G.length) (xs ++ encFs G) → w.grownBy w' v.ownBlock → wpList Try.prog ops Q rest (a.put o.dst v') w') :
    wpList Try.prog ops Q (o :: rest) a w := by
  refine wpList_plain hgd fun K hK => ?_
  obtain ⟨v', w', hrun, r1, r2⟩ := run_append_list o.type base v n xs hown y G hF hy h63 hbase
  unfold Oper.wp execOp
  simp only [ho, resolve, invoke, builtin, Sem.run_bind, Sem.run_pure, Result.andThen_ok, List.map_toArray, List.map_cons, List.map_nil, hs, hx, hrun]
  exact hK _ _ (h v' w' r1 r2)
/-- an empty list that is no nil -/
theorem owns_none (w : World) (t : TypeId) (base : Nat) (hb : base ≤ w.heap.size) : (w.alloc (.cells #[] t)).ownsRow base t 2 (.slice (some ⟨w.heap.size, 0, none⟩) 0 0) 0 [] :=
  ⟨rfl, .inr ⟨w.heap.size, 0, #[], rfl, hb, heap_alloc_new w _, Nat.le_refl _, Nat.zero_le _, rfl, rfl⟩⟩
/-- behind 'append([]api.Field{}, l...)' -/
theorem copied {w1 w4 : World} {v4 : Value} {G : List HField} (h : w4.ownsRow w1.heap.size 84 2 v4 (0 + G.length) ([] ++ encFs G))
    (hg : (w1.alloc (.cells #[] 84)).grownBy w4 (Value.slice (some ⟨w1.heap.size, 0, none⟩) 0 0).ownBlock) :
    w4.ownsRow w1.heap.size 84 2 v4 G.length (encFs G) ∧ Below w1.heap.size w1 w4 := by
  rw [Nat.zero_add, List.nil_append] at h
  exact ⟨h, ((Below.refl _ w1).alloc (Nat.le_refl _) _).grown hg (by simp) (fun j e => by cases e; exact Nat.le_refl _)⟩
theorem fl_new (w : World) (G : List HField) (cells : List Value) (cap : Nat) (hc : cells = encFs G) (hle : G.length ≤ 4398046511104) :
    FL (w.alloc (.cells cells.toArray 84)) (.slice (some ⟨w.heap.size, 0, none⟩) G.length cap) G := by
  refine ⟨_, cap, rfl, hle, fun _ => ⟨w.heap.size, 0, rfl, by simp, fun j hj => ?_⟩⟩
  have h := (Has.new w 84 cells.toArray).cell
  obtain ⟨h1, h2⟩ := encFs_at G j G[j] (List.getElem?_eq_getElem hj)
  rw [Nat.zero_add, h, h]
  subst hc
  constructor
  · simpa using h1
  · simpa using h2
end Go.Proofs.Ytcjobblhendkbaa.FRow

/- Lists appended to a row of a call's own, at a step of a region that draws. No function is named. -/
namespace Go.Proofs.Ytcjobblhendkbaa.RouStep
open Go.ChangeShapes Go.WideShapes Go.ChangeAt Go.RowKit LexPure Bytes Ret FieldsPure Flds RowsArg
set_option maxRecDepth 20000
set_option linter.unusedVariables false
theorem step_append_list {w : World} {ops : Array Oper} {o : Oper} {a : Act} {K : Act → World → Prop} {Q : Exit → Act → World → Prop} {E : Prop} (hgd : o.guard = none) (s x : Operand)
    (ho : o.op = .call { callee := .builtin .append, args := #[s, x], argTypes := #[27, 27] }) (base : Nat) (v : Value) (n : Nat) (xs : List Value) (hs : a.eval s = v) (hown : w.ownsRow base 84 2 v n xs)
    (y : Value) (G : List HField) (hx : a.eval x = y) (hF : FL w y G) (hy : FRow.Nice y G.length) (h63 : n + G.length ≤ 4398046511104) (hbase : base ≤ w.heap.size)
    (h : ∀ v' w', w'.ownsRow base 84 2 v' (n + G.length) (xs ++ encFs G) → w.grownBy w' v.ownBlock → K (a.put o.dst v') w') :
    if Region.wanted o (yielded ops a.tmps) = true then Oper.wp Try.prog o a w K Q else E := by
  have hw : Region.wanted o (yielded ops a.tmps) = true := by simp [Region.wanted, hgd]
  rw [if_pos hw]
  obtain ⟨v', w', hrun, r1, r2⟩ := FRow.run_append_list o.type base v n xs hown y G hF hy h63 hbase
  unfold Oper.wp
  simp [execOp, ho, resolve, invoke, builtin, hs, hx, hrun, Result.andThen]
  exact h v' w' r1 r2
section
variable {P : Program}
theorem run_append_rows {w : World} (t ty e : TypeId) (i : TypeInfo) (z : Value) (k bytes : Nat) (ht : P.underlying t = some (.slice e)) (hi : P.info? e = some i) (hz : i.zero = some z) (hsize : i.size = k) (hby : i.bytes = bytes) (hzs : z.cells.size = k) (hk : 0 < k)
    (base : Nat) (v : Value) (n : Nat) (xs : List Value) (hown : w.ownsRow base e k v n xs) (y : Value) (m : Nat) (V : Nat → Nat → Value) (hR : RowsAt w y m k V) (hy : Nice y m)
    (news : List Value) (hl : news.length = m * k) (hnews : ∀ i, i < m → ∀ j, j < k → news[i * k + j]? = some (V i j)) (h1 : ∀ u ∈ news, u.oneCell' = true) (h63 : n + m ≤ maxLen) (hbytes : (n + m) * bytes ≤ 140737488355328) (hbase : base ≤ w.heap.size) :
    ∃ v' w', (Builtin.append_ #[t, t] ty #[v, y]).run P w = .ok v' w' ∧ w'.ownsRow base e k v' (n + m) (xs ++ news) ∧ w.grownBy w' v.ownBlock ∧ (v'.ownBlock = v.ownBlock ∨ v'.ownBlock = some w.heap.size) := by
  rcases hy with rfl | ⟨a, cap, rfl⟩
  · obtain ⟨p', c', hv, _, _⟩ := hR
    have hm : m = 0 := by injection hv with _ h _; exact h.symm
    subst hm
    have hn : news = [] := List.eq_nil_of_length_eq_zero (by simpa using hl)
    subst hn
    exact ⟨v, w, run_append_owned_none (P := P) (w := w) base t ty e i k ht hi v n xs hown, by simpa using hown, World.grownBy.refl w _, .inl rfl⟩
  · obtain ⟨p', c', hv, hle, hc⟩ := hR
    injection hv with e1 _ e3
    subst e1 e3
    obtain ⟨v', w', hr, h2, h3, _, h5⟩ := run_append_own_at (P := P) w base t ty e i z k bytes ht hi hz hsize hby hzs hk v n xs hown a m cap news hl
      (fun j u h => by
        have hj : j < m * k := by rw [← hl]; exact (List.getElem?_eq_some_iff.1 h).1
        have hi : j / k < m := (Nat.div_lt_iff_lt_mul hk).2 hj
        have hr : j % k < k := Nat.mod_lt _ hk
        have ej : j / k * k + j % k = j := by rw [Nat.mul_comm]; exact Nat.div_add_mod j k
        have h6 := hnews _ hi _ hr
        rw [ej, h] at h6
        obtain ⟨g', o', e, _, hcell⟩ := hc (Nat.lt_of_le_of_lt (Nat.zero_le _) hi)
        injection e with e
        subst e
        rw [FArg.add_plain, ← ej, ← Nat.add_assoc, hcell _ hi _ hr, ← h6]) h1 h63 hbytes hbase
    exact ⟨v', w', hr, h2, h3, h5⟩
theorem step_append_rows {w : World} {ops : Array Oper} {o : Oper} {a : Act} {K : Act → World → Prop} {Q : Exit → Act → World → Prop} {E : Prop} (hgd : o.guard = none) (s x : Operand) (t : TypeId)
    (ho : o.op = .call { callee := .builtin .append, args := #[s, x], argTypes := #[t, t] })
    (e : TypeId) (i : TypeInfo) (z : Value) (k bytes : Nat) (ht : P.underlying t = some (.slice e)) (hi : P.info? e = some i) (hz : i.zero = some z) (hsize : i.size = k) (hby : i.bytes = bytes) (hzs : z.cells.size = k) (hk : 0 < k)
    (base : Nat) (v : Value) (n : Nat) (xs : List Value) (hs : a.eval s = v) (hown : w.ownsRow base e k v n xs) (y : Value) (m : Nat) (V : Nat → Nat → Value) (hx : a.eval x = y) (hR : RowsAt w y m k V) (hy : Nice y m)
    (news : List Value) (hl : news.length = m * k) (hnews : ∀ i, i < m → ∀ j, j < k → news[i * k + j]? = some (V i j)) (h1 : ∀ u ∈ news, u.oneCell' = true) (h63 : n + m ≤ maxLen) (hbytes : (n + m) * bytes ≤ 140737488355328) (hbase : base ≤ w.heap.size)
    (h : ∀ v' w', w'.ownsRow base e k v' (n + m) (xs ++ news) → w.grownBy w' v.ownBlock → (v'.ownBlock = v.ownBlock ∨ v'.ownBlock = some w.heap.size) → K (a.put o.dst v') w') :
    if Region.wanted o (yielded ops a.tmps) = true then Oper.wp P o a w K Q else E := by
  have hw : Region.wanted o (yielded ops a.tmps) = true := by simp [Region.wanted, hgd]
  rw [if_pos hw]
  obtain ⟨v', w', hrun, r1, r2, r3⟩ := run_append_rows t o.type e i z k bytes ht hi hz hsize hby hzs hk base v n xs hown y m V hR hy news hl hnews h1 h63 hbytes hbase
  unfold Oper.wp
  simp [execOp, ho, resolve, invoke, builtin, hs, hx, hrun, Result.andThen]
  exact h v' w' r1 r2 r3
theorem wpList_append_rows {w : World} {ops : Array Oper} {rest : List Oper} {o : Oper} {a : Act} {Q : Exit → Act → World → Prop} (hgd : o.guard = none) (s x : Operand) (t : TypeId)
    (ho : o.op = .call { callee := .builtin .append, args := #[s, x], argTypes := #[t, t] })
    (e : TypeId) (i : TypeInfo) (z : Value) (k bytes : Nat) (ht : P.underlying t = some (.slice e)) (hi : P.info? e = some i) (hz : i.zero = some z) (hsize : i.size = k) (hby : i.bytes = bytes) (hzs : z.cells.size = k) (hk : 0 < k)
    (base : Nat) (v : Value) (n : Nat) (xs : List Value) (hs : a.eval s = v) (hown : w.ownsRow base e k v n xs) (y : Value) (m : Nat) (V : Nat → Nat → Value) (hx : a.eval x = y) (hR : RowsAt w y m k V) (hy : Nice y m)
    (news : List Value) (hl : news.length = m * k) (hnews : ∀ i, i < m → ∀ j, j < k → news[i * k + j]? = some (V i j)) (h1 : ∀ u ∈ news, u.oneCell' = true) (h63 : n + m ≤ maxLen) (hbytes : (n + m) * bytes ≤ 140737488355328) (hbase : base ≤ w.heap.size)
    (h : ∀ v' w', w'.ownsRow base e k v' (n + m) (xs ++ news) → w.grownBy w' v.ownBlock → (v'.ownBlock = v.ownBlock ∨ v'.ownBlock = some w.heap.size) → wpList P ops Q rest (a.put o.dst v') w') :
    wpList P ops Q (o :: rest) a w := by
  refine wpList_plain hgd fun K hK => ?_
  obtain ⟨v', w', hrun, r1, r2, r3⟩ := run_append_rows t o.type e i z k bytes ht hi hz hsize hby hzs hk base v n xs hown y m V hR hy news hl hnews h1 h63 hbytes hbase
  unfold Oper.wp execOp
  simp only [ho, resolve, invoke, builtin, Sem.run_bind, Sem.run_pure, Result.andThen_ok, List.map_toArray, List.map_cons, List.map_nil, hs, hx, hrun]
  exact hK _ _ (h v' w' r1 r2 r3)
end
end Go.Proofs.Ytcjobblhendkbaa.RouStep

/- Layer 15's law RouteFirst: a second config whose vhosts are a copy, and one of whose lists of routes is another. No function is named. -/
namespace Go.Proofs.Ytcjobblhendkbaa.RouState
open Go.ChangeShapes Go.WideShapes Go.ChangeAt Go.RowKit Bytes LexPure ConfPure ConfMem ConfAt RowsArg Mem RowKeep ConfOwn ConfCF Texts RouArg RouRow PRouLead
set_option maxRecDepth 20000
set_option linter.unusedVariables false
def vl (p : Vhos × Value) : List Value := vhosV p.1 p.2
def VL0 (G : List Vhos) (hv : Nat → Value) : List (Vhos × Value) := (List.range G.length).map fun j => (G.getD j zVhos, hv j)
theorem VL0_len (G : List Vhos) (hv : Nat → Value) : (VL0 G hv).length = G.length := by simp [VL0]
theorem VL0_at (G : List Vhos) (hv : Nat → Value) (i : Nat) (h : i < (VL0 G hv).length) : (VL0 G hv)[i] = (G.getD i zVhos, hv i) := by simp [VL0]
theorem VL0_fst (G : List Vhos) (hv : Nat → Value) : (VL0 G hv).map (·.1) = G := by
  apply List.ext_getElem (by simp [VL0])
  intro i h1 h2
  rw [List.getElem_map, VL0_at]
  simp [List.getD, List.getElem?_eq_getElem h2]
theorem flat_put {α : Type} (f : α → List Value) (k : Nat) (hk : ∀ a, (f a).length = k) : ∀ (l : List α) (i j : Nat) (a : α) (u : Value) (hi : i < l.length), j < k → f a = (f l[i]).set j u → (l.flatMap f).set (i * k + j) u = (l.set i a).flatMap f
  | [], i, j, a, u, hi, _, _ => absurd hi (by simp)
  | x :: l, 0, j, a, u, hi, hj, h => by
    rw [List.flatMap_cons, Nat.zero_mul, Nat.zero_add, List.set_append_left _ _ (by rw [hk]; exact hj), List.set_cons_zero, List.flatMap_cons, h]
    rfl
  | x :: l, i + 1, j, a, u, hi, hj, h => by
    have hi2 : i < l.length := by simpa using hi
    rw [List.flatMap_cons, List.set_append_right _ _ (by rw [hk, Nat.add_mul]; omega), hk, show (i + 1) * k + j - k = i * k + j by rw [Nat.add_mul]; omega, flat_put f k hk l i j a u hi2 hj (by simpa using h), List.set_cons_succ, List.flatMap_cons]
/-- the config's box and the route's -/
structure Sb (w : World) (c : Conf) (vf vc vv : Value) (m : Rout) (W : World) : Prop where
  box : Has W w.heap.size CT (confV c vf vc vv)
  rbox : Has W (w.heap.size + 1) RT (routA m)
  below : Below w.heap.size w W
section
variable {w W W' : World} {c : Conf} {vf vc vv : Value} {m : Rout}
theorem Sb.size (x : Sb w c vf vc vv m W) : w.heap.size + 2 ≤ W.heap.size := x.rbox.lt
theorem Sb.start : Sb w c vf vc vv m ((w.alloc (.cells (confV c vf vc vv) CT)).alloc (.cells (routA m) RT)) := by
  have b1 := (Below.refl w.heap.size w).alloc (Nat.le_refl _) (.cells (confV c vf vc vv) CT)
  have h2 := Has.new (w.alloc (.cells (confV c vf vc vv) CT)) RT (routA m)
  rw [show (w.alloc (.cells (confV c vf vc vv) CT)).heap.size = w.heap.size + 1 by simp] at h2
  exact ⟨(Has.new _ _ _).alloc _, h2, b1.alloc (by simp) _⟩
theorem Sb.grown {row : Option Nat} (x : Sb w c vf vc vv m W) (hg : W.grownBy W' row) (hr : ∀ k, row = some k → w.heap.size + 2 ≤ k) : Sb w c vf vc vv m W' :=
  ⟨x.box.grown hg (fun e => by have := hr _ e.symm; omega), x.rbox.grown hg (fun e => by have := hr _ e.symm; omega), x.below.grown hg x.below.size (fun j hj => by have := hr j hj; omega)⟩
theorem Sb.call (x : Sb w c vf vc vv m W) (hb : Below W.heap.size W W') : Sb w c vf vc vv m W' := ⟨x.box.below hb x.box.lt, x.rbox.below hb x.rbox.lt, below_chain x.below hb⟩
end
/-- a list of routes that isn't in a block -/
def Far15 (v : Value) (rs : List Rout) (o : Option Nat) : Prop := rs = [] ∨ v.ownBlock ≠ o
theorem routs_grown {W W' : World} {v : Value} {rs : List Rout} {o : Option Nat} (h : Routs W v rs) (hn : Far15 v rs o) (hg : W.grownBy W' o) : Routs W' v rs := by
  obtain ⟨p, cap, hv, hle, hc⟩ := h
  refine ⟨p, cap, hv, hle, fun h0 => ?_⟩
  obtain ⟨g, o', hp, hlt, hcell⟩ := hc h0
  have hne : some g ≠ o := by
    rcases hn with q | q
    · rw [q] at h0; simp at h0
    · rw [hv, hp] at q
      exact q
  exact ⟨g, o', hp, Nat.lt_of_lt_of_le hlt hg.size, fun i hi j hj => (World.cell?_of_block (a := ⟨g, o' + i * 13 + j, none⟩) (hg.block g hlt hne)).trans (hcell i hi j hj)⟩
theorem far_old {w : World} {vv : Value} {G : List Vhos} {hv : Nat → Value} (h : RV w vv G hv) {j : Nat} (hj : j < G.length) {o : Option Nat} (ho : ∀ k, o = some k → w.heap.size ≤ k) : Far15 (hv j) (G.getD j zVhos).routes o := by
  obtain ⟨p, cap, hvv, _, hc⟩ := (h.rows j hj).1
  by_cases h0 : 0 < (G.getD j zVhos).routes.length
  · obtain ⟨g, o', hp, hlt, _⟩ := hc h0
    right
    rw [hvv, hp]
    intro e
    have := ho g e.symm
    omega
  · exact .inl (List.eq_nil_of_length_eq_zero (by omega))
/-- the second config -/
structure Ds (w : World) (c : Conf) (vf vc : Value) (g2 : Nat) (vv2 : Value) (VL : List (Vhos × Value)) (W : World) : Prop where
  box : Has W g2 CT (confV c vf vc vv2)
  row : W.ownsRow (w.heap.size + 2) VT 2 vv2 VL.length (VL.flatMap vl)
  rts : ∀ p ∈ VL, Routs W p.2 p.1.routes ∧ Far15 p.2 p.1.routes vv2.ownBlock
  lo : w.heap.size + 2 ≤ g2
section
variable {w W W' : World} {c : Conf} {vf vc vv2 : Value} {g2 : Nat} {VL : List (Vhos × Value)}
theorem Ds.vh (x : Ds w c vf vc g2 vv2 VL W) : Vhoss W vv2 (VL.map (·.1)) := vhoss_of x.row (fun p hp => (x.rts p hp).1)
theorem Ds.call (x : Ds w c vf vc g2 vv2 VL W) (hb : Below W.heap.size W W') : Ds w c vf vc g2 vv2 VL W' :=
  ⟨x.box.below hb x.box.lt, row_below x.row hb, fun p hp => ⟨(x.rts p hp).1.below hb, (x.rts p hp).2⟩, x.lo⟩
/-- the copy is put into the second config -/
theorem Ds.start {vv : Value} {hv : Nat → Value} {m : Rout} {vv0 : Value} (K : Sb w c vf vc vv m W) (hR : RV w vv c.vhosts hv) (hB : Has W g2 CT (confV c vf vc vv0)) (hlo : w.heap.size + 2 ≤ g2) {p5 : Option Addr} {c5 : Nat} (ho : W.ownsRow (w.heap.size + 2) VT 2 (.slice p5 c.vhosts.length c5) c.vhosts.length ((VL0 c.vhosts hv).flatMap vl)) :
    Sb w c vf vc vv m (W.setCell ⟨g2, 8, none⟩ (.slice p5 c.vhosts.length c5)) ∧ Ds w c vf vc g2 (.slice p5 c.vhosts.length c5) (VL0 c.vhosts hv) (W.setCell ⟨g2, 8, none⟩ (.slice p5 c.vhosts.length c5)) := by
  have hg := set_g W g2 8 (.slice p5 c.vhosts.length c5)
  have K' := K.grown hg (fun k e => by injection e with e; omega)
  refine ⟨K', hB.set_ 8 _, ?_, fun p hp => ?_, hlo⟩
  · rw [VL0_len]
    exact row_set ho hB (by decide) 8 _
  · obtain ⟨j, hj, rfl⟩ := List.mem_map.1 hp
    rw [List.mem_range] at hj
    exact ⟨((hR.below K'.below).rows j hj).1, far_old hR hj (fun k e => by have := (ho.lt k e).1; omega)⟩
/-- another list of routes is put in -/
theorem Ds.put (x : Ds w c vf vc g2 vv2 VL W) {gv cap n : Nat} (hv : vv2 = .slice (some ⟨gv, 0, none⟩) n cap) (i : Nat) (hi : i < VL.length) (R : Value) (rs : List Rout) (hR : Routs W R rs) (hF : Far15 R rs (some gv)) :
    Ds w c vf vc g2 vv2 (VL.set i (⟨VL[i].1.domain, rs⟩, R)) (W.setCell ⟨gv, i * 2 + 1, none⟩ R) ∧ W.grownBy (W.setCell ⟨gv, i * 2 + 1, none⟩ R) (some gv) ∧ w.heap.size + 2 ≤ gv := by
  subst hv
  obtain ⟨p2, c2, e2, _⟩ := row_form x.row
  have hn : n = VL.length := by injection e2 with _ e _
  subst hn
  obtain ⟨h1, hg⟩ := x.row.stored (i * 2 + 1) R
  have hlo := (x.row.lt gv rfl).1
  have hne : g2 ≠ gv := fun e => row_far x.row x.box (by decide) (by rw [e]; rfl)
  refine ⟨⟨x.box.grown hg (fun e => hne (Option.some.inj e)), ?_, fun p hp => ?_, x.lo⟩, hg, hlo⟩
  · rw [flat_put vl 2 (fun _ => rfl) VL i 1 (⟨VL[i].1.domain, rs⟩, R) R hi (by decide) rfl] at h1
    rwa [List.length_set]
  · rcases List.mem_or_eq_of_mem_set hp with q | q
    · exact ⟨routs_grown (x.rts p q).1 (x.rts p q).2 hg, (x.rts p q).2⟩
    · subst q
      exact ⟨routs_grown hR hF hg, hF⟩
/-- both configs, another list of routes put in -/
theorem put_both {vv : Value} {m : Rout} (K : Sb w c vf vc vv m W) (x : Ds w c vf vc g2 vv2 VL W) {gv cap n : Nat} (hv : vv2 = .slice (some ⟨gv, 0, none⟩) n cap) (i : Nat) (hi : i < VL.length) (R : Value) (rs : List Rout) {d : L} (hd : VL[i].1.domain = d) {N : Nat} (hR : W.ownsRow N RT 13 R rs.length (rs.flatMap routV)) (hN : gv < N) :
    Sb w c vf vc vv m (W.setCell ⟨gv, i * 2 + 1, none⟩ R) ∧ Ds w c vf vc g2 vv2 (VL.set i (⟨d, rs⟩, R)) (W.setCell ⟨gv, i * 2 + 1, none⟩ R) := by
  obtain ⟨h1, h2, h3⟩ := x.put hv i hi R rs (routs_of hR) (.inr (fun e => by have := (hR.lt _ e).1; omega))
  rw [hd] at h1
  exact ⟨K.grown h2 (fun k e => by injection e with e; omega), h1⟩
/-- the cell that a list of routes stands in -/
theorem Ds.cell_at (x : Ds w c vf vc g2 vv2 VL W) {gv cap n : Nat} (hv : vv2 = .slice (some ⟨gv, 0, none⟩) n cap) (i : Nat) (hi : i < VL.length) : W.cell? ⟨gv, i * 2 + 1, none⟩ = some VL[i].2 ∧ W.frozen? ⟨gv, i * 2 + 1, none⟩ = false := by
  subst hv
  obtain ⟨p2, c2, e2, _⟩ := row_form x.row
  have hn : n = VL.length := by injection e2 with _ e _
  subst hn
  have hr := x.row
  obtain ⟨g', c', hv', _, _, _, hc⟩ := row_at hr (by omega)
  injection hv' with e1 _ _
  injection e1 with e1
  injection e1 with e1
  subst e1
  refine ⟨?_, hr.frozenAt _⟩
  rw [hc _ (by omega), flat_at vl 2 (fun _ => rfl) VL i 1 hi (by decide)]
  rfl
/-- a slice of one element -/
theorem rows_one {W : World} {b : Nat} {r : Rout} (h : Has W b RT (routA r)) : RowsAt W (.slice (some ⟨b, 0, none⟩) 1 1) 1 13 (fun _ j => (routV r).getD j undef) := by
  refine ⟨_, _, rfl, by decide, fun _ => ⟨b, 0, rfl, h.lt, fun i hi j hj => ?_⟩⟩
  obtain rfl : i = 0 := by omega
  rw [h.cell, show 0 + 0 * 13 + j = j by omega]
  unfold routA
  have hj2 : j = 0 ∨ j = 1 ∨ j = 2 ∨ j = 3 ∨ j = 4 ∨ j = 5 ∨ j = 6 ∨ j = 7 ∨ j = 8 ∨ j = 9 ∨ j = 10 ∨ j = 11 ∨ j = 12 := by omega
  rcases hj2 with rfl | rfl | rfl | rfl | rfl | rfl | rfl | rfl | rfl | rfl | rfl | rfl | rfl <;> rfl
end
end Go.Proofs.Ytcjobblhendkbaa.RouState
