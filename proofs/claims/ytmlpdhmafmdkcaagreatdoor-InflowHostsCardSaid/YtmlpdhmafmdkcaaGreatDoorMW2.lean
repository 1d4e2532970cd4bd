/- Texts of this seat, one behind another: InflowWholeW. -/

import Derived.Test.YtmlpdhmafmdkcaaGreatDoorB
import Derived.Test.YtmlpdhmafmdkcaaGreatDoorA3
import Derived.Test.YtmlpdhmafmdkcaaGreatDoorMW1
/- A request that is told has the framing that its head says: InflowWhole returns true. -/
namespace Go.Proofs.YtmlpdhmafmdkcaaGreatDoor.InflowWholeW
open Go.ChangeShapes Go.WideShapes Go.ChangeAt Go.RowKit Bytes LexPure Ret Texts FieldsPure HeadPure HeadLines FramePure InflowPure InflowWholeP R9Req R7Get HeadFew QCell InObj InflowObj PUnder L11Anchor L11Read Flds HBox KeptRow Mem Step
set_option maxRecDepth 100000
theorem texts1 (W : World) (a : ByteArray) : Texts (W.alloc (.cells #[.string a] 9)) (.slice (some ⟨W.heap.size, 0, none⟩) 1 1) [toL a] :=
  ⟨_, 1, rfl, by simp, fun _ => ⟨W.heap.size, 0, rfl, by simp, fun j hj => by
    have h := (Has.new W 9 #[.string a]).cell (0 + j)
    match j, hj with
    | 0, _ => rw [h]; simp [ofL_toL]⟩⟩
theorem encQ_at : ∀ (P : List (Rq × Value)) (k j : Nat) (hk : k < P.length), j < 18 → (encQ P)[k * 18 + j]? = (qcl P[k].1 P[k].2).toList[j]?
  | x :: P, 0, j, _, hj => by
    show ((qcl x.1 x.2).toList ++ encQ P)[0 * 18 + j]? = _
    rw [Nat.zero_mul, Nat.zero_add, List.getElem?_append_left (by rw [qcl_len]; exact hj)]
    rfl
  | x :: P, k + 1, j, hk, hj => by
    show ((qcl x.1 x.2).toList ++ encQ P)[(k + 1) * 18 + j]? = _
    rw [List.getElem?_append_right (by rw [qcl_len]; omega), qcl_len, show (k + 1) * 18 + j - 18 = k * 18 + j by omega]
    exact encQ_at P k j (by simpa using hk) hj
/-- an element of a row of requests -/
theorem row_load {W : World} {base : Nat} {v : Value} {P : List (Rq × Value)} (h : W.ownsRow base RQT 18 v P.length (encQ P)) (h0 : 0 < P.length) :
    ∃ gv cap, v = .slice (some ⟨gv, 0, none⟩) P.length cap ∧ gv < W.heap.size ∧ P.length ≤ maxLen ∧ ∀ (k : Nat) (hk : k < P.length), (loadVar RQT ⟨gv, k * 18, none⟩).run Tryz.prog W = .ok (.agg (qcl P[k].1 P[k].2)) W := by
  rcases h.2 with ⟨_, hn⟩ | ⟨g, cap, cur, hv, _, hg, hcap, hm, _⟩
  · omega
  · refine ⟨g, cap, hv, (Array.getElem?_eq_some_iff.1 hg).1, by omega, fun k hk => ?_⟩
    have hr : W.rangeAt g (k * 18) (qcl P[k].1 P[k].2).toList := fun j u hj => by
      have hj18 : j < 18 := by
        have := (List.getElem?_eq_some_iff.1 hj).1
        rw [qcl_len] at this
        exact this
      have hc := h.cells (g := g) (by rw [hv]; rfl) (k * 18 + j) u (by rw [encQ_at P k j hk hj18]; exact hj)
      rw [show (⟨g, 0, none⟩ : Addr).add (k * 18 + j) = ⟨g, k * 18 + j, none⟩ by unfold Addr.add; split <;> simp_all] at hc
      exact hc
    have := run_loadVar_mid (P := Tryz.prog) W g (k * 18) RQT _ _ hr Tryz.underlying35 rfl (by kernel_rfl)
    rw [Array.toArray_toList] at this
    exact this
theorem wpList_load_any {ops : Array Oper} {rest : List Oper} {o : Oper} {a : Act} {w : World} {Q : Exit → Act → World → Prop} (hgd : o.guard = none) (ty : TypeId) (x : Operand) (ho : o.op = .load ty x) (p : Addr) (hx : a.eval x = .pointer (some p)) (v : Value)
    (hl : (loadVar ty p).run Tryz.prog w = .ok v w) (h : wpList Tryz.prog ops Q rest (a.put o.dst v) w) : wpList Tryz.prog ops Q (o :: rest) a w := by
  refine wpList_plain hgd fun _ hK => ?_
  unfold Oper.wp execOp
  simp only [ho, hx, Instr.loadAt, Instr.sureAddr, Sem.run_bind, Sem.run_pure, Result.andThen_ok, hl]
  exact hK _ _ h
theorem head_load (w : World) (q : Rq) (l : Value) : (loadVar 31 ⟨w.heap.size, 0, none⟩).run Tryz.prog (w.alloc (.cells (qcl q l) RQT)) = .ok (hv q.head l) (w.alloc (.cells (qcl q l) RQT)) := by
  have hr : (w.alloc (.cells (qcl q l) RQT)).rangeAt w.heap.size 0 [.string (ofL q.head.method), .string (ofL q.head.target), .int .i64 q.head.status, .string (ofL q.head.reason), .int .i64 q.head.minor, l] := fun j u hj => by
    have h := (Has.new w RQT (qcl q l)).cell (0 + j)
    rw [h]
    match j, hj with
    | 0, hj => exact hj
    | 1, hj => exact hj
    | 2, hj => exact hj
    | 3, hj => exact hj
    | 4, hj => exact hj
    | 5, hj => exact hj
    | _ + 6, hj => cases hj
  exact run_loadVar_mid (P := Tryz.prog) _ w.heap.size 0 31 _ _ hr Tryz.underlying31 rfl (by kernel_rfl)
theorem frame_kind (minor : Int) (G : List HField) (most : Int) (h : (request9 minor G most).2.2 = 0) : (request9 minor G most).1 = 1 ∨ (request9 minor G most).1 = 2 ∨ (request9 minor G most).1 = 3 := by
  unfold request9 at *
  by_cases h1 : 0 < getN G TENC
  · rw [if_pos h1] at *
    by_cases h2 : minor = 0 ∨ 0 < getN G CLEN ∨ codeN (elems G TENC) = 3
    · rw [if_pos h2] at h; cases h
    · rw [if_neg h2] at *
      by_cases h3 : codeN (elems G TENC) = 2
      · rw [if_pos h3] at h; cases h
      · rw [if_neg h3]; exact .inr (.inr rfl)
  · rw [if_neg h1] at *
    by_cases h2 : getN G CLEN = 0
    · rw [if_pos h2]; exact .inl rfl
    · rw [if_neg h2] at *
      by_cases h3 : lenN G < 0
      · rw [if_pos h3] at h; cases h
      · rw [if_neg h3] at *
        by_cases h4 : most < lenN G
        · rw [if_pos h4] at h; cases h
        · rw [if_neg h4]; exact .inr (.inl rfl)
end Go.Proofs.YtmlpdhmafmdkcaaGreatDoor.InflowWholeW
