/- Texts of this seat, one behind another: PEmReason, PEmHead, PEmLocal, PEmLen. -/
import Derived.Lib.Hide
import Derived.Outline
import Derived.Handy
import Derived.Maps.OwnOps
import Derived.Maps.OwnSet
import Derived.Below
import Derived.Test.YtblpooddamkfdaaGreatDoorA1
import Derived.Test.YtblpooddamkfdaaGreatDoorA2
/- Layer 13 of the program: the phrases. -/
namespace Go.Proofs.YtblpooddamkfdaaGreatDoor.PEmReason
open Go.ChangeShapes Go.WideShapes Go.ChangeAt Go.RowKit Go.Maps Go.WideMaps Bytes EmitPure Mem
set_option maxRecDepth 100000
set_option linter.unusedVariables false
set_option linter.unusedSimpArgs false
abbrev MT : TypeId := 122
/-- a phrase as it is read -/
def phR (v : Value) : Option (DataW Unit × List MemPlace) :=
  match v with
  | .agg a => match a.toList with
    | [.string s] => some (.lit (.string s.data.toList), [])
    | _ => none
  | _ => none
theorem phR_mk (s : ByteArray) : phR (.agg #[.string s]) = some (.lit (.string s.data.toList), []) := rfl
theorem phR_inv {v : Value} {d : DataW Unit} {ps : List MemPlace} (h : phR v = some (d, ps)) : ∃ s : ByteArray, v = .agg #[.string s] ∧ d = .lit (.string s.data.toList) := by
  unfold phR at h
  split at h
  · rename_i a
    split at h
    · rename_i s he
      have ha : a = #[.string s] := by
        apply Array.toList_inj.1
        simpa using he
      subst ha
      simp only [Option.some.injEq, Prod.mk.injEq] at h
      exact ⟨s, rfl, h.1.symm⟩
    · cases h
  · cases h
def entry (p : Int × List UInt8) : Lit × DataW Unit := (.int .i64 p.1, .lit (.string p.2))
def PD (k : Nat) : DataW Unit := .map ((phrases.take k).map entry)
theorem law : Keyed Tryz.prog 3 := int_keyed Tryz.underlying3
theorem wf64 {x : Int} (h1 : -9223372036854775808 ≤ x) (h2 : x ≤ 9223372036854775807) : (Lit.int .i64 x).wf = true := by
  simp [Lit.wf, IntKind.min, IntKind.max, IntKind.bits, IntKind.signed]; omega
theorem keyI {x : Int} (h1 : -9223372036854775808 ≤ x) (h2 : x ≤ 9223372036854775807) : keyOf Tryz.prog 3 (.int .i64 x) = some (.int .i64 x) := keyOf_int_mk Tryz.underlying3 (wf64 h1 h2)
/-- the first k are laid -/
structure Ph (w0 w : World) (k : Nat) : Prop where
  own : w.ownsMap Tryz.prog 3 phR w0.heap.size k (PD k)
  below : Below w0.heap.size w0 w
theorem Ph.start (w : World) : Ph w (w.alloc (.map #[] 0)) 0 := ⟨World.ownsMap_made w Tryz.prog 3 phR, (Below.refl _ w).alloc (Nat.le_refl _) _⟩
theorem wp_ph {w0 w : World} {k : Nat} {ops : Array Oper} {rest : List Oper} {o : Oper} {a : Act} {Q : Exit → Act → World → Prop} (h : Ph w0 w k) (hgd : o.guard = none) (m x v : Operand)
    (ho : o.op = Op.insert MT m x v) (key : Int) (s : ByteArray) (hm : a.eval m = .map (some w0.heap.size)) (hx : a.eval x = .int .i64 key) (hv : a.eval v = .agg #[.string s])
    (h1 : -9223372036854775808 ≤ key) (h2 : key ≤ 9223372036854775807) (hk : k < 1000) (hput : (PD k).put (.int .i64 key) (.lit (.string s.data.toList)) = PD (k + 1))
    (hn : ∀ w', Ph w0 w' (k + 1) → wpList Tryz.prog ops Q rest (a.put o.dst undef) w') : wpList Tryz.prog ops Q (o :: rest) a w := by
  refine wpList_plain hgd fun K hK => ?_
  obtain ⟨w', hrun, r1, r2⟩ := h.own.update law Tryz.underlying122 (by unfold maxLen; omega) (keyI h1 h2) (phR_mk s)
  rw [hput] at r1
  have hh : Ph w0 w' (k + 1) := ⟨r1, Below.grown h.below r2 h.below.size (fun j e => by cases e; exact Nat.le_refl _)⟩
  unfold Oper.wp
  simp [execOp, ho, hm, hx, hv, hrun, Result.andThen]
  exact hK _ _ (hn w' hh)
set_option maxHeartbeats 3200000 in
theorem phrases_any (w : World) : Calls Tryz.prog 67 #[] w fun e w' => e = .returned (.map (some w.heap.size)) ∧ Ph w w' 23 := by
  have hmm := @run_makeMap Tryz.prog
  have HP := Ph.start w
  go_enter Tryz.func67, Tryz.ntmps67
  go_wp2_with (refine wp_ph (by assumption) rfl _ _ _ rfl _ _ rfl rfl rfl (by decide) (by decide) (by decide) rfl ?_; clear HP; intro w2 HP; dsimp only)
  go_ret
  exact ⟨rfl, HP⟩
theorem find_entry (s : Int) : ∀ l : List (Int × List UInt8), (l.map entry).find? (fun p => p.1.sameKey (.int .i64 s)) = (l.find? (fun p => p.1 == s)).map entry
  | [] => rfl
  | p :: l => by
    have e : (entry p).1.sameKey (.int .i64 s) = (p.1 == s) := by
      show decide (IntKind.i64 = IntKind.i64 ∧ p.1 = s) = _
      rw [Bool.eq_iff_iff]
      simp
    rw [List.map_cons, List.find?_cons, List.find?_cons, e]
    cases h : p.1 == s with
    | true => rfl
    | false => exact find_entry s l
theorem all23 : phrases.take 23 = phrases := rfl
theorem look {w0 w : World} (h : Ph w0 w 23) (s : Int) (h1 : -9223372036854775808 ≤ s) (h2 : s ≤ 9223372036854775807) (hz : (zeroValue 120).run Tryz.prog w = .ok (.agg #[.string .empty]) w) :
    ∃ (b : Bool) (x : ByteArray), (Instr.lookup MT (.map (some w0.heap.size)) (.int .i64 s) true).run Tryz.prog w = .ok (.tuple #[.agg #[.string x], .bool b]) w ∧ (b = true → x = ofL (reasonL s)) ∧ (b = false → reasonL s = [83, 116, 97, 116, 117, 115]) := by
  obtain ⟨v, ps, hrun, hv⟩ := h.own.look_ok law Tryz.underlying122 hz (phR_mk .empty) (keyI h1 h2)
  obtain ⟨x, rfl, hd⟩ := phR_inv hv
  have hf := find_entry s phrases
  refine ⟨_, x, hrun, fun hb => ?_, fun hb => ?_⟩
  · unfold PD at hd hb
    rw [all23] at hd hb
    simp only [DataW.atKey] at hd
    rw [hf] at hd
    unfold reasonL
    cases hq : phrases.find? (fun p => p.1 == s) with
    | none =>
      exfalso
      rw [hq] at hf
      have : (phrases.map entry).any (fun p => p.1.sameKey (.int .i64 s)) = true := hb
      rw [List.any_eq_true] at this
      obtain ⟨y, hy, hy2⟩ := this
      exact absurd hy2 (by simpa using List.find?_eq_none.1 hf y hy)
    | some p =>
      rw [hq] at hd
      simp only [Option.map_some, entry, DataW.lit.injEq, Lit.string.injEq] at hd
      simp only [Option.map_some, Option.getD_some]
      rw [hd]
      apply toL_inj
      rw [toL_ofL]
  · unfold PD at hb
    rw [all23] at hb
    unfold reasonL
    cases hq : phrases.find? (fun p => p.1 == s) with
    | none => rfl
    | some p =>
      exfalso
      rw [hq] at hf
      have h3 : (phrases.map entry).any (fun p => p.1.sameKey (.int .i64 s)) = false := hb
      have h4 := List.find?_some hf
      have h5 := List.mem_of_find?_eq_some hf
      have := List.any_eq_false.1 h3 _ h5
      exact this h4
set_option maxHeartbeats 1600000 in
theorem reason_any (s : Int) (h1 : -9223372036854775808 ≤ s) (h2 : s ≤ 9223372036854775807) (w : World) :
    Calls Tryz.prog 45 #[.int .i64 s] w fun e w' => e = .returned (.string (ofL (reasonL s))) ∧ Below w.heap.size w w' := by
  have hzv : ∀ w : World, (zeroValue 120).run Tryz.prog w = .ok (.agg #[.string .empty]) w := fun w => by kernel_rfl
  have HP := Lib.hid (phrases_any w)
  go_enter Tryz.func45, Tryz.ntmps45
  go_wp2_with fail
  refine HP.out.mono ?_
  rintro e w1 ⟨rfl, hP⟩
  obtain ⟨b, x, hrun, ht, hf⟩ := look hP s h1 h2 (hzv w1)
  have HB := Lib.hid (hP.below.alloc hP.below.size (.cells #[.string x] 120))
  have d0 := (Has.new w1 120 #[.string x]).cell 0
  clear hP HP hzv
  cases b with
  | true =>
    obtain rfl := ht rfl
    clear ht hf
    go_wp2_with fail
    go_ret
    exact ⟨rfl, HB.out⟩
  | false =>
    have HE := Lib.hid (hf rfl)
    clear ht hf
    go_wp2_with fail
    go_ret
    exact ⟨by rw [HE.out]; rfl, HB.out⟩
end Go.Proofs.YtblpooddamkfdaaGreatDoor.PEmReason

/- Layer 13 of the program: Head. -/
namespace Go.Proofs.YtblpooddamkfdaaGreatDoor.PEmHead
open Go.ChangeShapes Go.WideShapes Go.ChangeAt Go.RowKit Bytes LexPure FieldsPure EmitPure Texts Flds Mem Step InEmb PEmTx PEmPass PEmJoin PEmObj PLib Ret
set_option maxRecDepth 100000
set_option linter.unusedVariables false
set_option linter.unusedSimpArgs false
abbrev RT : TypeId := 57
def rcells (r : ReplyP) (vl : Value) : Array Value := #[.int .i64 r.status, .string (ofL r.reason), vl, .int .i64 r.framing, .int .i64 r.length, .bool r.keep, .string (ofL r.up)]
def V11 : List UInt8 := [72, 84, 84, 80, 47, 49, 46, 49]
/-- the phrase that is written -/
def rsn (r : ReplyP) : List UInt8 := if r.reason = [] then reasonL r.status else r.reason
theorem told_reply (G : List HField) : PEmPass.told [CLN, VIAN] (strip G) = (onE false G).flatMap lineE := by
  unfold PEmPass.told onE
  congr 1
  apply List.filter_congr
  intro f _
  simp [lft, skipE, Bool.and_assoc]
theorem reason_len (s : Int) : (reasonL s).length ≤ 40 := by
  have h : ∀ l : List (Int × List UInt8), l.all (fun p => decide (p.2.length ≤ 40)) = true → (((l.find? (fun p => p.1 == s)).map (·.2)).getD [83, 116, 97, 116, 117, 115]).length ≤ 40 := fun l hl => by
    cases hq : l.find? (fun p => p.1 == s) with
    | none => decide
    | some p => exact of_decide_eq_true (List.all_eq_true.1 hl p (List.mem_of_find?_eq_some hq))
  exact h phrases (by decide)
/-- what Head asks of its argument -/
structure FitR (r : ReplyP) : Prop where
  fields : Few r.fields
  len : r.fields.length ≤ 1048576
  reason : r.reason.length ≤ 1048576
  up : r.up.length ≤ 1048576
  s0 : -9223372036854775808 ≤ r.status
  s1 : r.status ≤ 9223372036854775807
  l0 : -9223372036854775808 ≤ r.length
  l1 : r.length ≤ 9223372036854775807
section
variable {w wr : World} {r : ReplyP} {vl : Value} {n : Nat} {l : List UInt8}
theorem reply_cells (h : Em w RT (rcells r vl) n l wr) : wr.cell? ⟨w.heap.size, 0, none⟩ = some (.int .i64 r.status) ∧ wr.cell? ⟨w.heap.size, 1, none⟩ = some (.string (ofL r.reason)) ∧ wr.cell? ⟨w.heap.size, 2, none⟩ = some vl ∧
    wr.cell? ⟨w.heap.size, 3, none⟩ = some (.int .i64 r.framing) ∧ wr.cell? ⟨w.heap.size, 4, none⟩ = some (.int .i64 r.length) ∧ wr.cell? ⟨w.heap.size, 5, none⟩ = some (.bool r.keep) ∧ wr.cell? ⟨w.heap.size, 6, none⟩ = some (.string (ofL r.up)) :=
  ⟨h.box.cell 0, h.box.cell 1, h.box.cell 2, h.box.cell 3, h.box.cell 4, h.box.cell 5, h.box.cell 6⟩
end
set_option maxHeartbeats 12800000 in
theorem head_blank (r : ReplyP) (hr : r.reason = []) (vl : Value) (hA : FitR r) (w : World) (hm : MaxInt w) (hp : Pow w) (hF : FL w vl r.fields) :
    Calls Tryz.prog 19 #[.agg (rcells r vl)] w fun e w' => e = .returned (.string (ofL (headE r))) ∧ Below w.heap.size w w' := by
  have hF0 := hF
  obtain ⟨pl, cl, rfl, _, _⟩ := hF0
  have hE : ∃ W2, W2 = (w.alloc (.cells #[.int .i64 r.status, .string (ofL r.reason), .slice pl r.fields.length cl, .int .i64 r.framing, .int .i64 r.length, .bool r.keep, .string (ofL r.up)] RT)).alloc (.cells #[.pointer none, .slice none 0 0] TT) ∧ Em w RT (rcells r (.slice pl r.fields.length cl)) 0 [] W2 := ⟨_, rfl, Em.start w RT _⟩
  obtain ⟨W2, hW2, hE⟩ := hE
  have HW2 := Lib.hid hW2
  have HE := Lib.hid hE
  have HA := Lib.hid hA
  have HM := Lib.hid hm
  have HP := Lib.hid hp
  have HF := Lib.hid hF
  have eu : (ofL r.up).toList = r.up := by rw [ByteArray.toList_eq]; exact toL_ofL _
  have er : (ofL r.reason).toList = r.reason := by rw [ByteArray.toList_eq]; exact toL_ofL _
  have q1 : (ofL r.reason).toList.isEmpty = true := by rw [er, hr]; rfl
  have q2 : (ofL r.reason).toList = [] := by rw [er, hr]
  have HR : Hid (rsn r = reasonL r.status) := Lib.hid (by unfold rsn; rw [if_pos hr])
  have hcs : ((ofL r.up).toList.isEmpty = false ∧ ¬ (ofL r.up).toList = [] ∧ Hid (¬ r.up = [])) ∨ ((ofL r.up).toList.isEmpty = true ∧ (ofL r.up).toList = [] ∧ Hid (r.up = [])) := by
    rw [eu]
    by_cases h0 : r.up = []
    · exact .inr ⟨by rw [h0]; rfl, h0, Lib.hid h0⟩
    · refine .inl ⟨?_, h0, Lib.hid h0⟩
      cases hx : r.up with
      | nil => exact absurd hx h0
      | cons => rfl
  have HC := Lib.hid hcs
  clear hA hm hp hF hE hW2 eu er hr hcs
  unfold rcells
  go_enter Tryz.func19, Tryz.ntmps19
  iterate 20 go_step
  rw [← HW2.out]
  clear HW2
  obtain ⟨c0, c1, _⟩ := reply_cells HE.out
  have HX : Hid (Calls Tryz.prog 45 #[.int .i64 r.status] W2 fun e w' => e = .returned (.string (ofL (rsn r))) ∧ Hid (Em w RT (rcells r (.slice pl r.fields.length cl)) 0 [] w')) := Lib.hid ((PEmReason.reason_any r.status HA.out.s0 HA.out.s1 W2).mono (fun e w' ⟨x1, x2⟩ => ⟨by rw [HR.out]; exact x1, Lib.hid (HE.out.call x2)⟩))
  clear HE
  go_wp2_with fail
  refine HX.out.mono ?_
  rintro e w1 ⟨rfl, HE⟩
  clear HX c0 c1 q1 q2
  obtain ⟨c0, _⟩ := reply_cells HE.out
  have HX := Lib.hid (HE.out.itoa HP.out r.status HA.out.s0 HA.out.s1)
  clear HE
  go_wp2_with fail
  refine HX.out.mono ?_
  rintro e w2 ⟨rfl, HE⟩
  clear HX c0
  have HX := Lib.hid ((HE.out.alloc (.cells #[.string ⟨#[72, 84, 84, 80, 47, 49, 46, 49]⟩, .string ⟨#[32]⟩, .string (ofL (decZ r.status)), .string ⟨#[32]⟩, .string (ofL (rsn r))] 9)).line (k := 2097170) (by decide) (by decide) (Parts.new _ [V11, [32], decZ r.status, [32], rsn r] _ 5 5 rfl rfl) (by simp) (by
    have h1 := decZ_len HA.out.s0 HA.out.s1
    have h2 := HA.out.reason
    have h3 := reason_len r.status
    have h4 : (rsn r).length ≤ 1048576 := by rw [HR.out]; omega
    simp [V11]
    omega) (by decide))
  clear HE
  go_wp2_with fail
  refine HX.out.mono ?_
  rintro e w3 ⟨rfl, HE⟩
  clear HX
  obtain ⟨_, _, c2, _⟩ := reply_cells HE.out
  have HX := Lib.hid ((HE.out.alloc (.cells #[.string ⟨#[67, 111, 110, 116, 101, 110, 116, 45, 76, 101, 110, 103, 116, 104]⟩, .string ⟨#[86, 105, 97]⟩] 9)).pass (L := [CLN, VIAN]) (cap := 2) (by decide) (by decide) HM.out HA.out.fields HA.out.len HF.out (Has.new w3 9 _) (by decide) (by decide) (m := 2) rfl)
  rw [told_reply] at HX
  clear HE
  go_wp2_with fail
  refine HX.out.mono ?_
  rintro e w4 ⟨rfl, HE⟩
  clear HX c2
  obtain ⟨_, _, c2, _⟩ := reply_cells HE.out
  have HX := Lib.hid (HE.out.join HA.out.fields HA.out.len HF.out VIAN BARB (by decide))
  clear HE
  go_wp2_with fail
  refine HX.out.mono ?_
  rintro e w7 ⟨rfl, HE⟩
  clear HX c2
  have HX := Lib.hid (HE.out.field (k := 1099515822080) (by decide) (by decide) VIAN (joinV r.fields VIAN BARB) (by
    have h1 := joinV_len HA.out.fields HA.out.len VIAN BARB
    rw [show BARB.length = 12 from rfl] at h1
    rw [show VIAN.length = 3 from rfl]
    omega) (by decide))
  clear HE
  go_wp2_with fail
  refine HX.out.mono ?_
  rintro e w8 ⟨rfl, HE⟩
  clear HX
  have HT1 : Hid (∀ (W : World) (n : Nat) (l : List UInt8), Em w RT (rcells r (.slice pl r.fields.length cl)) n l W → n ≤ 35184372088832 → Hid (Calls Tryz.prog 31 #[.pointer (some ⟨w.heap.size + 1, 0, none⟩), .slice none 0 0] W fun e w' => e = .returned (.tuple #[]) ∧ Hid (Em w RT (rcells r (.slice pl r.fields.length cl)) (n + 2) (l ++ ([].flatten ++ [13, 10])) w'))) := Lib.hid (fun W n l h hn => Lib.hid (h.line (by decide) (by decide) (Parts.nil W) (by decide) (Nat.le_refl _) (by omega)))
  obtain ⟨_, _, _, c3, c4, crest⟩ := reply_cells HE.out
  clear crest
  rcases (show Hid (r.framing = 2) ∨ Hid (r.framing = 3) ∨ Hid (¬ r.framing = 2 ∧ ¬ r.framing = 3) by
    by_cases h2 : r.framing = 2
    · exact .inl (Lib.hid h2)
    · by_cases h3 : r.framing = 3
      · exact .inr (.inl (Lib.hid h3))
      · exact .inr (.inr (Lib.hid ⟨h2, h3⟩))) with HFr | HFr | HFr
  · rw [HFr.out] at c3
    have HX := Lib.hid (HE.out.itoa HP.out r.length HA.out.l0 HA.out.l1)
    clear HE
    go_wp2_with fail
    refine HX.out.mono ?_
    rintro e w9 ⟨rfl, HE⟩
    clear HX c3 c4
    have HX := Lib.hid (HE.out.field (k := 40) (by decide) (by decide) CLN (decZ r.length) (by
      have h1 := decZ_len HA.out.l0 HA.out.l1
      rw [show CLN.length = 14 from rfl]
      omega) (by decide))
    clear HE
    go_wp2_with fail
    refine HX.out.mono ?_
    rintro e w9 ⟨rfl, HE⟩
    clear HX
    obtain ⟨_, _, _, _, _, c5, c6⟩ := reply_cells HE.out
    rcases HC.out with ⟨t1, t2, HU⟩ | ⟨t1, t2, HU⟩
    · have HX := Lib.hid (HE.out.offer (k := 1048616) (by decide) (by decide) r.up (by have := HA.out.up; omega) (by decide))
      clear HE
      go_wp2_with fail
      refine HX.out.mono ?_
      rintro e w10 ⟨rfl, HE⟩
      clear HX c5 c6 t1 t2
      have HX := HT1.out _ _ _ HE.out (by decide)
      clear HE
      go_wp2_with fail
      refine HX.out.mono ?_
      rintro e w11 ⟨rfl, HE⟩
      clear HX
      have HX := Lib.hid HE.out.tell
      clear HE
      go_wp2_with fail
      refine HX.out.mono ?_
      rintro e w13 ⟨rfl, hb⟩
      clear HX
      go_wp2_with fail
      go_ret
      refine ⟨ret_string (congrArg ofL ?_), hb⟩
      have hu := HU.out
      have hf := HFr.out
      have hr := HR.out
      unfold rsn at hr
      simp [headE, replyF, statusL, rsn, hr, hu, hf, V11, lineE]
    · cases hk : r.keep with
      | true =>
        rw [hk] at c5
        have HK := Lib.hid hk
        clear hk
        have HX := HT1.out _ _ _ HE.out (by decide)
        clear HE
        go_wp2_with fail
        refine HX.out.mono ?_
        rintro e w11 ⟨rfl, HE⟩
        clear HX
        have HX := Lib.hid HE.out.tell
        clear HE
        go_wp2_with fail
        refine HX.out.mono ?_
        rintro e w13 ⟨rfl, hb⟩
        clear HX
        go_wp2_with fail
        go_ret
        refine ⟨ret_string (congrArg ofL ?_), hb⟩
        have hu := HU.out
        have hf := HFr.out
        have hr := HR.out
        unfold rsn at hr
        have hk := HK.out
        simp [headE, replyF, statusL, rsn, hr, hu, hf, hk, V11, lineE]
      | false =>
        rw [hk] at c5
        have HK := Lib.hid hk
        clear hk
        have HX := Lib.hid (HE.out.field (k := 40) (by decide) (by decide) CONN CLOSEV (by decide) (by decide))
        clear HE
        go_wp2_with fail
        refine HX.out.mono ?_
        rintro e w10 ⟨rfl, HE⟩
        clear HX c5 c6 t1 t2
        have HX := HT1.out _ _ _ HE.out (by decide)
        clear HE
        go_wp2_with fail
        refine HX.out.mono ?_
        rintro e w11 ⟨rfl, HE⟩
        clear HX
        have HX := Lib.hid HE.out.tell
        clear HE
        go_wp2_with fail
        refine HX.out.mono ?_
        rintro e w13 ⟨rfl, hb⟩
        clear HX
        go_wp2_with fail
        go_ret
        refine ⟨ret_string (congrArg ofL ?_), hb⟩
        have hu := HU.out
        have hf := HFr.out
        have hr := HR.out
        unfold rsn at hr
        have hk := HK.out
        simp [headE, replyF, statusL, rsn, hr, hu, hf, hk, V11, lineE]
  · rw [HFr.out] at c3
    have HX := Lib.hid (HE.out.field (k := 40) (by decide) (by decide) TEN CHV (by decide) (by decide))
    clear HE
    go_wp2_with fail
    refine HX.out.mono ?_
    rintro e w9 ⟨rfl, HE⟩
    clear HX c3 c4
    obtain ⟨_, _, _, _, _, c5, c6⟩ := reply_cells HE.out
    rcases HC.out with ⟨t1, t2, HU⟩ | ⟨t1, t2, HU⟩
    · have HX := Lib.hid (HE.out.offer (k := 1048616) (by decide) (by decide) r.up (by have := HA.out.up; omega) (by decide))
      clear HE
      go_wp2_with fail
      refine HX.out.mono ?_
      rintro e w10 ⟨rfl, HE⟩
      clear HX c5 c6 t1 t2
      have HX := HT1.out _ _ _ HE.out (by decide)
      clear HE
      go_wp2_with fail
      refine HX.out.mono ?_
      rintro e w11 ⟨rfl, HE⟩
      clear HX
      have HX := Lib.hid HE.out.tell
      clear HE
      go_wp2_with fail
      refine HX.out.mono ?_
      rintro e w13 ⟨rfl, hb⟩
      clear HX
      go_wp2_with fail
      go_ret
      refine ⟨ret_string (congrArg ofL ?_), hb⟩
      have hu := HU.out
      have hf := HFr.out
      have hr := HR.out
      unfold rsn at hr
      simp [headE, replyF, statusL, rsn, hr, hu, hf, V11, lineE]
    · cases hk : r.keep with
      | true =>
        rw [hk] at c5
        have HK := Lib.hid hk
        clear hk
        have HX := HT1.out _ _ _ HE.out (by decide)
        clear HE
        go_wp2_with fail
        refine HX.out.mono ?_
        rintro e w11 ⟨rfl, HE⟩
        clear HX
        have HX := Lib.hid HE.out.tell
        clear HE
        go_wp2_with fail
        refine HX.out.mono ?_
        rintro e w13 ⟨rfl, hb⟩
        clear HX
        go_wp2_with fail
        go_ret
        refine ⟨ret_string (congrArg ofL ?_), hb⟩
        have hu := HU.out
        have hf := HFr.out
        have hr := HR.out
        unfold rsn at hr
        have hk := HK.out
        simp [headE, replyF, statusL, rsn, hr, hu, hf, hk, V11, lineE]
      | false =>
        rw [hk] at c5
        have HK := Lib.hid hk
        clear hk
        have HX := Lib.hid (HE.out.field (k := 40) (by decide) (by decide) CONN CLOSEV (by decide) (by decide))
        clear HE
        go_wp2_with fail
        refine HX.out.mono ?_
        rintro e w10 ⟨rfl, HE⟩
        clear HX c5 c6 t1 t2
        have HX := HT1.out _ _ _ HE.out (by decide)
        clear HE
        go_wp2_with fail
        refine HX.out.mono ?_
        rintro e w11 ⟨rfl, HE⟩
        clear HX
        have HX := Lib.hid HE.out.tell
        clear HE
        go_wp2_with fail
        refine HX.out.mono ?_
        rintro e w13 ⟨rfl, hb⟩
        clear HX
        go_wp2_with fail
        go_ret
        refine ⟨ret_string (congrArg ofL ?_), hb⟩
        have hu := HU.out
        have hf := HFr.out
        have hr := HR.out
        unfold rsn at hr
        have hk := HK.out
        simp [headE, replyF, statusL, rsn, hr, hu, hf, hk, V11, lineE]
  · have f1 : (r.framing == 2) = false := beq_eq_false_iff_ne.2 HFr.out.1
    have f2 : (r.framing == 3) = false := beq_eq_false_iff_ne.2 HFr.out.2
    have f3 : ¬ r.framing = 2 := HFr.out.1
    have f4 : ¬ r.framing = 3 := HFr.out.2
    obtain ⟨_, _, _, _, _, c5, c6⟩ := reply_cells HE.out
    rcases HC.out with ⟨t1, t2, HU⟩ | ⟨t1, t2, HU⟩
    · have HX := Lib.hid (HE.out.offer (k := 1048616) (by decide) (by decide) r.up (by have := HA.out.up; omega) (by decide))
      clear HE
      go_wp2_with fail
      refine HX.out.mono ?_
      rintro e w10 ⟨rfl, HE⟩
      clear HX c5 c6 t1 t2 f1 f2 f3 f4 c3 c4
      have HX := HT1.out _ _ _ HE.out (by decide)
      clear HE
      go_wp2_with fail
      refine HX.out.mono ?_
      rintro e w11 ⟨rfl, HE⟩
      clear HX
      have HX := Lib.hid HE.out.tell
      clear HE
      go_wp2_with fail
      refine HX.out.mono ?_
      rintro e w13 ⟨rfl, hb⟩
      clear HX
      go_wp2_with fail
      go_ret
      refine ⟨ret_string (congrArg ofL ?_), hb⟩
      have hu := HU.out
      have hf := HFr.out
      have hr := HR.out
      unfold rsn at hr
      simp [headE, replyF, statusL, rsn, hr, hu, hf, V11, lineE]
    · cases hk : r.keep with
      | true =>
        rw [hk] at c5
        have HK := Lib.hid hk
        clear hk
        have HX := HT1.out _ _ _ HE.out (by decide)
        clear HE
        go_wp2_with fail
        refine HX.out.mono ?_
        rintro e w11 ⟨rfl, HE⟩
        clear HX
        have HX := Lib.hid HE.out.tell
        clear HE
        go_wp2_with fail
        refine HX.out.mono ?_
        rintro e w13 ⟨rfl, hb⟩
        clear HX
        go_wp2_with fail
        go_ret
        refine ⟨ret_string (congrArg ofL ?_), hb⟩
        have hu := HU.out
        have hf := HFr.out
        have hr := HR.out
        unfold rsn at hr
        have hk := HK.out
        simp [headE, replyF, statusL, rsn, hr, hu, hf, hk, V11, lineE]
      | false =>
        rw [hk] at c5
        have HK := Lib.hid hk
        clear hk
        have HX := Lib.hid (HE.out.field (k := 40) (by decide) (by decide) CONN CLOSEV (by decide) (by decide))
        clear HE
        go_wp2_with fail
        refine HX.out.mono ?_
        rintro e w10 ⟨rfl, HE⟩
        clear HX c5 c6 t1 t2 f1 f2 f3 f4 c3 c4
        have HX := HT1.out _ _ _ HE.out (by decide)
        clear HE
        go_wp2_with fail
        refine HX.out.mono ?_
        rintro e w11 ⟨rfl, HE⟩
        clear HX
        have HX := Lib.hid HE.out.tell
        clear HE
        go_wp2_with fail
        refine HX.out.mono ?_
        rintro e w13 ⟨rfl, hb⟩
        clear HX
        go_wp2_with fail
        go_ret
        refine ⟨ret_string (congrArg ofL ?_), hb⟩
        have hu := HU.out
        have hf := HFr.out
        have hr := HR.out
        unfold rsn at hr
        have hk := HK.out
        simp [headE, replyF, statusL, rsn, hr, hu, hf, hk, V11, lineE]
set_option maxHeartbeats 12800000 in
theorem head_said (r : ReplyP) (hr : ¬ r.reason = []) (vl : Value) (hA : FitR r) (w : World) (hm : MaxInt w) (hp : Pow w) (hF : FL w vl r.fields) :
    Calls Tryz.prog 19 #[.agg (rcells r vl)] w fun e w' => e = .returned (.string (ofL (headE r))) ∧ Below w.heap.size w w' := by
  have hF0 := hF
  obtain ⟨pl, cl, rfl, _, _⟩ := hF0
  have hE : ∃ W2, W2 = (w.alloc (.cells #[.int .i64 r.status, .string (ofL r.reason), .slice pl r.fields.length cl, .int .i64 r.framing, .int .i64 r.length, .bool r.keep, .string (ofL r.up)] RT)).alloc (.cells #[.pointer none, .slice none 0 0] TT) ∧ Em w RT (rcells r (.slice pl r.fields.length cl)) 0 [] W2 := ⟨_, rfl, Em.start w RT _⟩
  obtain ⟨W2, hW2, hE⟩ := hE
  have HW2 := Lib.hid hW2
  have HE := Lib.hid hE
  have HA := Lib.hid hA
  have HM := Lib.hid hm
  have HP := Lib.hid hp
  have HF := Lib.hid hF
  have eu : (ofL r.up).toList = r.up := by rw [ByteArray.toList_eq]; exact toL_ofL _
  have er : (ofL r.reason).toList = r.reason := by rw [ByteArray.toList_eq]; exact toL_ofL _
  have q1 : (ofL r.reason).toList.isEmpty = false := by
    rw [er]
    cases hx : r.reason with
    | nil => exact absurd hx hr
    | cons => rfl
  have q2 : ¬ (ofL r.reason).toList = [] := by rw [er]; exact hr
  have HR : Hid (rsn r = r.reason) := Lib.hid (by unfold rsn; rw [if_neg hr])
  have hcs : ((ofL r.up).toList.isEmpty = false ∧ ¬ (ofL r.up).toList = [] ∧ Hid (¬ r.up = [])) ∨ ((ofL r.up).toList.isEmpty = true ∧ (ofL r.up).toList = [] ∧ Hid (r.up = [])) := by
    rw [eu]
    by_cases h0 : r.up = []
    · exact .inr ⟨by rw [h0]; rfl, h0, Lib.hid h0⟩
    · refine .inl ⟨?_, h0, Lib.hid h0⟩
      cases hx : r.up with
      | nil => exact absurd hx h0
      | cons => rfl
  have HC := Lib.hid hcs
  clear hA hm hp hF hE hW2 eu er hr hcs
  unfold rcells
  go_enter Tryz.func19, Tryz.ntmps19
  iterate 20 go_step
  rw [← HW2.out]
  clear HW2
  obtain ⟨c0, c1, _⟩ := reply_cells HE.out
  have HX := Lib.hid (HE.out.itoa HP.out r.status HA.out.s0 HA.out.s1)
  clear HE
  go_wp2_with fail
  refine HX.out.mono ?_
  rintro e w2 ⟨rfl, HE⟩
  clear HX c0 c1 q1 q2
  have HX := Lib.hid ((HE.out.alloc (.cells #[.string ⟨#[72, 84, 84, 80, 47, 49, 46, 49]⟩, .string ⟨#[32]⟩, .string (ofL (decZ r.status)), .string ⟨#[32]⟩, .string (ofL r.reason)] 9)).line (k := 2097170) (by decide) (by decide) (Parts.new _ [V11, [32], decZ r.status, [32], r.reason] _ 5 5 rfl rfl) (by simp) (by
    have h1 := decZ_len HA.out.s0 HA.out.s1
    have h2 := HA.out.reason
    have h3 := reason_len r.status
    have h4 : (r.reason).length ≤ 1048576 := by exact h2
    simp [V11]
    omega) (by decide))
  clear HE
  go_wp2_with fail
  refine HX.out.mono ?_
  rintro e w3 ⟨rfl, HE⟩
  clear HX
  obtain ⟨_, _, c2, _⟩ := reply_cells HE.out
  have HX := Lib.hid ((HE.out.alloc (.cells #[.string ⟨#[67, 111, 110, 116, 101, 110, 116, 45, 76, 101, 110, 103, 116, 104]⟩, .string ⟨#[86, 105, 97]⟩] 9)).pass (L := [CLN, VIAN]) (cap := 2) (by decide) (by decide) HM.out HA.out.fields HA.out.len HF.out (Has.new w3 9 _) (by decide) (by decide) (m := 2) rfl)
  rw [told_reply] at HX
  clear HE
  go_wp2_with fail
  refine HX.out.mono ?_
  rintro e w4 ⟨rfl, HE⟩
  clear HX c2
  obtain ⟨_, _, c2, _⟩ := reply_cells HE.out
  have HX := Lib.hid (HE.out.join HA.out.fields HA.out.len HF.out VIAN BARB (by decide))
  clear HE
  go_wp2_with fail
  refine HX.out.mono ?_
  rintro e w7 ⟨rfl, HE⟩
  clear HX c2
  have HX := Lib.hid (HE.out.field (k := 1099515822080) (by decide) (by decide) VIAN (joinV r.fields VIAN BARB) (by
    have h1 := joinV_len HA.out.fields HA.out.len VIAN BARB
    rw [show BARB.length = 12 from rfl] at h1
    rw [show VIAN.length = 3 from rfl]
    omega) (by decide))
  clear HE
  go_wp2_with fail
  refine HX.out.mono ?_
  rintro e w8 ⟨rfl, HE⟩
  clear HX
  have HT1 : Hid (∀ (W : World) (n : Nat) (l : List UInt8), Em w RT (rcells r (.slice pl r.fields.length cl)) n l W → n ≤ 35184372088832 → Hid (Calls Tryz.prog 31 #[.pointer (some ⟨w.heap.size + 1, 0, none⟩), .slice none 0 0] W fun e w' => e = .returned (.tuple #[]) ∧ Hid (Em w RT (rcells r (.slice pl r.fields.length cl)) (n + 2) (l ++ ([].flatten ++ [13, 10])) w'))) := Lib.hid (fun W n l h hn => Lib.hid (h.line (by decide) (by decide) (Parts.nil W) (by decide) (Nat.le_refl _) (by omega)))
  obtain ⟨_, _, _, c3, c4, crest⟩ := reply_cells HE.out
  clear crest
  rcases (show Hid (r.framing = 2) ∨ Hid (r.framing = 3) ∨ Hid (¬ r.framing = 2 ∧ ¬ r.framing = 3) by
    by_cases h2 : r.framing = 2
    · exact .inl (Lib.hid h2)
    · by_cases h3 : r.framing = 3
      · exact .inr (.inl (Lib.hid h3))
      · exact .inr (.inr (Lib.hid ⟨h2, h3⟩))) with HFr | HFr | HFr
  · rw [HFr.out] at c3
    have HX := Lib.hid (HE.out.itoa HP.out r.length HA.out.l0 HA.out.l1)
    clear HE
    go_wp2_with fail
    refine HX.out.mono ?_
    rintro e w9 ⟨rfl, HE⟩
    clear HX c3 c4
    have HX := Lib.hid (HE.out.field (k := 40) (by decide) (by decide) CLN (decZ r.length) (by
      have h1 := decZ_len HA.out.l0 HA.out.l1
      rw [show CLN.length = 14 from rfl]
      omega) (by decide))
    clear HE
    go_wp2_with fail
    refine HX.out.mono ?_
    rintro e w9 ⟨rfl, HE⟩
    clear HX
    obtain ⟨_, _, _, _, _, c5, c6⟩ := reply_cells HE.out
    rcases HC.out with ⟨t1, t2, HU⟩ | ⟨t1, t2, HU⟩
    · have HX := Lib.hid (HE.out.offer (k := 1048616) (by decide) (by decide) r.up (by have := HA.out.up; omega) (by decide))
      clear HE
      go_wp2_with fail
      refine HX.out.mono ?_
      rintro e w10 ⟨rfl, HE⟩
      clear HX c5 c6 t1 t2
      have HX := HT1.out _ _ _ HE.out (by decide)
      clear HE
      go_wp2_with fail
      refine HX.out.mono ?_
      rintro e w11 ⟨rfl, HE⟩
      clear HX
      have HX := Lib.hid HE.out.tell
      clear HE
      go_wp2_with fail
      refine HX.out.mono ?_
      rintro e w13 ⟨rfl, hb⟩
      clear HX
      go_wp2_with fail
      go_ret
      refine ⟨ret_string (congrArg ofL ?_), hb⟩
      have hu := HU.out
      have hf := HFr.out
      have hr := HR.out
      unfold rsn at hr
      simp [headE, replyF, statusL, rsn, hr, hu, hf, V11, lineE]
    · cases hk : r.keep with
      | true =>
        rw [hk] at c5
        have HK := Lib.hid hk
        clear hk
        have HX := HT1.out _ _ _ HE.out (by decide)
        clear HE
        go_wp2_with fail
        refine HX.out.mono ?_
        rintro e w11 ⟨rfl, HE⟩
        clear HX
        have HX := Lib.hid HE.out.tell
        clear HE
        go_wp2_with fail
        refine HX.out.mono ?_
        rintro e w13 ⟨rfl, hb⟩
        clear HX
        go_wp2_with fail
        go_ret
        refine ⟨ret_string (congrArg ofL ?_), hb⟩
        have hu := HU.out
        have hf := HFr.out
        have hr := HR.out
        unfold rsn at hr
        have hk := HK.out
        simp [headE, replyF, statusL, rsn, hr, hu, hf, hk, V11, lineE]
      | false =>
        rw [hk] at c5
        have HK := Lib.hid hk
        clear hk
        have HX := Lib.hid (HE.out.field (k := 40) (by decide) (by decide) CONN CLOSEV (by decide) (by decide))
        clear HE
        go_wp2_with fail
        refine HX.out.mono ?_
        rintro e w10 ⟨rfl, HE⟩
        clear HX c5 c6 t1 t2
        have HX := HT1.out _ _ _ HE.out (by decide)
        clear HE
        go_wp2_with fail
        refine HX.out.mono ?_
        rintro e w11 ⟨rfl, HE⟩
        clear HX
        have HX := Lib.hid HE.out.tell
        clear HE
        go_wp2_with fail
        refine HX.out.mono ?_
        rintro e w13 ⟨rfl, hb⟩
        clear HX
        go_wp2_with fail
        go_ret
        refine ⟨ret_string (congrArg ofL ?_), hb⟩
        have hu := HU.out
        have hf := HFr.out
        have hr := HR.out
        unfold rsn at hr
        have hk := HK.out
        simp [headE, replyF, statusL, rsn, hr, hu, hf, hk, V11, lineE]
  · rw [HFr.out] at c3
    have HX := Lib.hid (HE.out.field (k := 40) (by decide) (by decide) TEN CHV (by decide) (by decide))
    clear HE
    go_wp2_with fail
    refine HX.out.mono ?_
    rintro e w9 ⟨rfl, HE⟩
    clear HX c3 c4
    obtain ⟨_, _, _, _, _, c5, c6⟩ := reply_cells HE.out
    rcases HC.out with ⟨t1, t2, HU⟩ | ⟨t1, t2, HU⟩
    · have HX := Lib.hid (HE.out.offer (k := 1048616) (by decide) (by decide) r.up (by have := HA.out.up; omega) (by decide))
      clear HE
      go_wp2_with fail
      refine HX.out.mono ?_
      rintro e w10 ⟨rfl, HE⟩
      clear HX c5 c6 t1 t2
      have HX := HT1.out _ _ _ HE.out (by decide)
      clear HE
      go_wp2_with fail
      refine HX.out.mono ?_
      rintro e w11 ⟨rfl, HE⟩
      clear HX
      have HX := Lib.hid HE.out.tell
      clear HE
      go_wp2_with fail
      refine HX.out.mono ?_
      rintro e w13 ⟨rfl, hb⟩
      clear HX
      go_wp2_with fail
      go_ret
      refine ⟨ret_string (congrArg ofL ?_), hb⟩
      have hu := HU.out
      have hf := HFr.out
      have hr := HR.out
      unfold rsn at hr
      simp [headE, replyF, statusL, rsn, hr, hu, hf, V11, lineE]
    · cases hk : r.keep with
      | true =>
        rw [hk] at c5
        have HK := Lib.hid hk
        clear hk
        have HX := HT1.out _ _ _ HE.out (by decide)
        clear HE
        go_wp2_with fail
        refine HX.out.mono ?_
        rintro e w11 ⟨rfl, HE⟩
        clear HX
        have HX := Lib.hid HE.out.tell
        clear HE
        go_wp2_with fail
        refine HX.out.mono ?_
        rintro e w13 ⟨rfl, hb⟩
        clear HX
        go_wp2_with fail
        go_ret
        refine ⟨ret_string (congrArg ofL ?_), hb⟩
        have hu := HU.out
        have hf := HFr.out
        have hr := HR.out
        unfold rsn at hr
        have hk := HK.out
        simp [headE, replyF, statusL, rsn, hr, hu, hf, hk, V11, lineE]
      | false =>
        rw [hk] at c5
        have HK := Lib.hid hk
        clear hk
        have HX := Lib.hid (HE.out.field (k := 40) (by decide) (by decide) CONN CLOSEV (by decide) (by decide))
        clear HE
        go_wp2_with fail
        refine HX.out.mono ?_
        rintro e w10 ⟨rfl, HE⟩
        clear HX c5 c6 t1 t2
        have HX := HT1.out _ _ _ HE.out (by decide)
        clear HE
        go_wp2_with fail
        refine HX.out.mono ?_
        rintro e w11 ⟨rfl, HE⟩
        clear HX
        have HX := Lib.hid HE.out.tell
        clear HE
        go_wp2_with fail
        refine HX.out.mono ?_
        rintro e w13 ⟨rfl, hb⟩
        clear HX
        go_wp2_with fail
        go_ret
        refine ⟨ret_string (congrArg ofL ?_), hb⟩
        have hu := HU.out
        have hf := HFr.out
        have hr := HR.out
        unfold rsn at hr
        have hk := HK.out
        simp [headE, replyF, statusL, rsn, hr, hu, hf, hk, V11, lineE]
  · have f1 : (r.framing == 2) = false := beq_eq_false_iff_ne.2 HFr.out.1
    have f2 : (r.framing == 3) = false := beq_eq_false_iff_ne.2 HFr.out.2
    have f3 : ¬ r.framing = 2 := HFr.out.1
    have f4 : ¬ r.framing = 3 := HFr.out.2
    obtain ⟨_, _, _, _, _, c5, c6⟩ := reply_cells HE.out
    rcases HC.out with ⟨t1, t2, HU⟩ | ⟨t1, t2, HU⟩
    · have HX := Lib.hid (HE.out.offer (k := 1048616) (by decide) (by decide) r.up (by have := HA.out.up; omega) (by decide))
      clear HE
      go_wp2_with fail
      refine HX.out.mono ?_
      rintro e w10 ⟨rfl, HE⟩
      clear HX c5 c6 t1 t2 f1 f2 f3 f4 c3 c4
      have HX := HT1.out _ _ _ HE.out (by decide)
      clear HE
      go_wp2_with fail
      refine HX.out.mono ?_
      rintro e w11 ⟨rfl, HE⟩
      clear HX
      have HX := Lib.hid HE.out.tell
      clear HE
      go_wp2_with fail
      refine HX.out.mono ?_
      rintro e w13 ⟨rfl, hb⟩
      clear HX
      go_wp2_with fail
      go_ret
      refine ⟨ret_string (congrArg ofL ?_), hb⟩
      have hu := HU.out
      have hf := HFr.out
      have hr := HR.out
      unfold rsn at hr
      simp [headE, replyF, statusL, rsn, hr, hu, hf, V11, lineE]
    · cases hk : r.keep with
      | true =>
        rw [hk] at c5
        have HK := Lib.hid hk
        clear hk
        have HX := HT1.out _ _ _ HE.out (by decide)
        clear HE
        go_wp2_with fail
        refine HX.out.mono ?_
        rintro e w11 ⟨rfl, HE⟩
        clear HX
        have HX := Lib.hid HE.out.tell
        clear HE
        go_wp2_with fail
        refine HX.out.mono ?_
        rintro e w13 ⟨rfl, hb⟩
        clear HX
        go_wp2_with fail
        go_ret
        refine ⟨ret_string (congrArg ofL ?_), hb⟩
        have hu := HU.out
        have hf := HFr.out
        have hr := HR.out
        unfold rsn at hr
        have hk := HK.out
        simp [headE, replyF, statusL, rsn, hr, hu, hf, hk, V11, lineE]
      | false =>
        rw [hk] at c5
        have HK := Lib.hid hk
        clear hk
        have HX := Lib.hid (HE.out.field (k := 40) (by decide) (by decide) CONN CLOSEV (by decide) (by decide))
        clear HE
        go_wp2_with fail
        refine HX.out.mono ?_
        rintro e w10 ⟨rfl, HE⟩
        clear HX c5 c6 t1 t2 f1 f2 f3 f4 c3 c4
        have HX := HT1.out _ _ _ HE.out (by decide)
        clear HE
        go_wp2_with fail
        refine HX.out.mono ?_
        rintro e w11 ⟨rfl, HE⟩
        clear HX
        have HX := Lib.hid HE.out.tell
        clear HE
        go_wp2_with fail
        refine HX.out.mono ?_
        rintro e w13 ⟨rfl, hb⟩
        clear HX
        go_wp2_with fail
        go_ret
        refine ⟨ret_string (congrArg ofL ?_), hb⟩
        have hu := HU.out
        have hf := HFr.out
        have hr := HR.out
        unfold rsn at hr
        have hk := HK.out
        simp [headE, replyF, statusL, rsn, hr, hu, hf, hk, V11, lineE]
theorem head_any (r : ReplyP) (vl : Value) (hA : FitR r) (w : World) (hm : MaxInt w) (hp : Pow w) (hF : FL w vl r.fields) :
    Calls Tryz.prog 19 #[.agg (rcells r vl)] w fun e w' => e = .returned (.string (ofL (headE r))) ∧ Below w.heap.size w w' := by
  by_cases hr : r.reason = []
  · exact head_blank r hr vl hA w hm hp hF
  · exact head_said r hr vl hA w hm hp hF
end Go.Proofs.YtblpooddamkfdaaGreatDoor.PEmHead

/- Layer 13 of the program: Local. -/
namespace Go.Proofs.YtblpooddamkfdaaGreatDoor.PEmLocal
open Go.ChangeShapes Go.WideShapes Go.ChangeAt Go.RowKit Bytes LexPure FieldsPure EmitPure Texts Flds Mem Step InEmb PEmTx PEmPass PEmJoin PEmObj PLib Ret PEmHead
set_option maxRecDepth 100000
set_option linter.unusedVariables false
set_option linter.unusedSimpArgs false
theorem onE_len {G : List HField} (hG : Few G) (hle : G.length ≤ 1048576) (req : Bool) : ((onE req G).flatMap lineE).length ≤ 2199027449856 := by
  refine Nat.le_trans (flat_sub lineE (b := G) ?_) (flat_few hG hle)
  unfold onE strip
  exact List.filter_sublist.trans List.filter_sublist
theorem head_len {r : ReplyP} (h : FitR r) : (headE r).length ≤ 35184372088832 := by
  have h1 := onE_len h.fields h.len false
  have h2 := joinV_len h.fields h.len VIAN BARB
  have h3 := decZ_len h.s0 h.s1
  have h4 := decZ_len h.l0 h.l1
  have h5 := reason_len r.status
  have h6 := h.reason
  have h7 := h.up
  have a1 : ((if r.framing = 2 then [(CLN, decZ r.length)] else []).flatMap lineE).length ≤ 60 := by
    split <;> simp [lineE, CLN]
    omega
  have a2 : ((if r.framing = 3 then [(TEN, CHV)] else []).flatMap lineE).length ≤ 60 := by
    split <;> simp [lineE, TEN, CHV]
  have a3 : ((if r.up = [] then (if r.keep then [] else [(CONN, CLOSEV)]) else [(CONN, UPV), (UPN, r.up)]).flatMap lineE).length ≤ 1048640 := by
    split
    · split <;> simp [lineE, CONN, CLOSEV]
    · simp [lineE, CONN, UPV, UPN]
      omega
  have a4 : (if r.reason = [] then reasonL r.status else r.reason).length ≤ 1048576 := by
    split <;> omega
  have a5 : (lineE (VIAN, joinV r.fields VIAN BARB)).length = 7 + (joinV r.fields VIAN BARB).length := by
    simp [lineE, VIAN]
    omega
  have e : (headE r).length = 9 + (decZ r.status).length + 1 + (if r.reason = [] then reasonL r.status else r.reason).length + 2 + (((onE false r.fields).flatMap lineE).length + ((lineE (VIAN, joinV r.fields VIAN BARB)).length + (((if r.framing = 2 then [(CLN, decZ r.length)] else []).flatMap lineE).length + (((if r.framing = 3 then [(TEN, CHV)] else []).flatMap lineE).length + ((if r.up = [] then (if r.keep then [] else [(CONN, CLOSEV)]) else [(CONN, UPV), (UPN, r.up)]).flatMap lineE).length)))) + 2 := by
    unfold headE replyF statusL
    simp only [List.length_append, List.length_cons, List.flatMap_append, List.flatMap_cons, List.length_nil]
    omega
  have hb : BARB.length = 12 := rfl
  omega
set_option maxHeartbeats 1600000 in
theorem local_any (status : Int) (vl : Value) (G : List HField) (body : List UInt8) (keep bodiless : Bool) (s0 : -9223372036854775808 ≤ status) (s1 : status ≤ 9223372036854775807) (hG : Few G) (hle : G.length ≤ 1048576) (hb : body.length ≤ 1048576)
    (w : World) (hm : MaxInt w) (hp : Pow w) (hF : FL w vl G) :
    Calls Tryz.prog 15 #[.int .i64 status, vl, .string (ofL body), .bool keep, .bool bodiless] w fun e w' => e = .returned (.string (ofL (localE status G body keep bodiless))) ∧ Below w.heap.size w w' := by
  have hfit : FitR ⟨status, [], G, 2, ((ofL body).size : Int), keep, []⟩ := ⟨hG, hle, Nat.zero_le _, Nat.zero_le _, s0, s1, by dsimp only; omega, by dsimp only; rw [ofL_size]; omega⟩
  have HH := head_any _ vl hfit w hm hp hF
  have hl := head_len hfit
  have e0 : headE ⟨status, [], G, 2, ((ofL body).size : Int), keep, []⟩ = headE ⟨status, [], G, 2, (body.length : Int), keep, []⟩ := by rw [ofL_size]
  have hsz : (ofL (headE ⟨status, [], G, 2, ((ofL body).size : Int), keep, []⟩)).size + (ofL body).size ≤ 9223372036854775807 := by
    have h1 := ofL_size (headE ⟨status, [], G, 2, ((ofL body).size : Int), keep, []⟩)
    have h2 := ofL_size body
    omega
  have HE : Hid (localE status G body keep bodiless = headE ⟨status, [], G, 2, ((ofL body).size : Int), keep, []⟩ ++ (if bodiless then [] else body)) := Lib.hid (by rw [e0]; rfl)
  obtain ⟨pl, cl, rfl, _, _⟩ := hF
  unfold rcells at HH
  clear e0 hl hfit hG hle hb hm hp
  generalize headE ⟨status, [], G, 2, ((ofL body).size : Int), keep, []⟩ = H at *
  have HH := Lib.hid HH
  cases bodiless with
  | true =>
    go_enter Tryz.func15, Tryz.ntmps15
    go_wp2_with fail
    refine HH.out.mono ?_
    rintro e w1 ⟨rfl, hb⟩
    clear HH
    go_wp2_with fail
    go_ret
    exact ⟨ret_string (congrArg ofL (by rw [HE.out]; simp)), hb⟩
  | false =>
    go_enter Tryz.func15, Tryz.ntmps15
    go_wp2_with fail
    refine HH.out.mono ?_
    rintro e w1 ⟨rfl, hb⟩
    clear HH
    go_wp2_with fail
    go_ret
    exact ⟨ret_string (by rw [HE.out, PEmTx.str_app]; rfl), hb⟩
end Go.Proofs.YtblpooddamkfdaaGreatDoor.PEmLocal

/- Layer 13 of the program: how long a request is that is written. -/
namespace Go.Proofs.YtblpooddamkfdaaGreatDoor.PEmLen
open Go.ChangeShapes Go.WideShapes Go.ChangeAt Go.RowKit Bytes LexPure FieldsPure EmitPure Flds PEmPass PEmJoin PEmObj PEmReq
set_option maxRecDepth 100000
theorem req_len {a : AskP} (h : PEmReq.Fit a) : (requestE a).length ≤ 35184372088832 := by
  have h1 := PEmLocal.onE_len h.fields h.len true
  have h2 := joinV_len h.fields h.len VIAN BARB
  have h3 := joinV_len h.fields h.len XFFN a.from_
  have h4 := decZ_len h.p0 h.p1
  have h5 : (decZ (a.body.length : Int)).length ≤ 20 := decZ_len (by omega) (by have := h.body; omega)
  have g1 := h.method
  have g2 := h.target
  have g3 := h.host
  have g4 := h.body
  have g5 := h.from_
  have g6 := h.up
  have a1 : ((if a.sized then [(CLN, decZ a.body.length)] else []).flatMap lineE).length ≤ 60 := by
    split <;> simp [lineE, CLN]
    omega
  have a2 : ((if a.up = [] then [] else [(CONN, UPV), (UPN, a.up)]).flatMap lineE).length ≤ 1048640 := by
    split <;> simp [lineE, CONN, UPV, UPN]
    omega
  have a3 : (lineE (VIAN, joinV a.fields VIAN BARB)).length = 7 + (joinV a.fields VIAN BARB).length := by
    simp [lineE, VIAN]
    omega
  have a4 : (lineE (XFFN, joinV a.fields XFFN a.from_)).length = 19 + (joinV a.fields XFFN a.from_).length := by
    simp [lineE, XFFN]
    omega
  have a5 : (lineE (HOSTN, hostE a)).length ≤ 8 + a.host.length + 21 := by
    have e : (hostE a).length ≤ a.host.length + 21 := by
      unfold hostE
      rw [List.length_append]
      split
      · rw [List.length_cons]; omega
      · simp
    simp [lineE, HOSTN]
    omega
  have hb : BARB.length = 12 := rfl
  have es : (HeadLines.startL a.method a.target).length = a.method.length + a.target.length + 10 := by simp [HeadLines.startL, HeadWrit.HTTP11]; omega
  have e : (requestE a).length = (HeadLines.startL a.method a.target).length + 2 + ((lineE (HOSTN, hostE a)).length + (((onE true a.fields).flatMap lineE).length + ((lineE (XFFN, joinV a.fields XFFN a.from_)).length + ((lineE (VIAN, joinV a.fields VIAN BARB)).length + (((if a.sized then [(CLN, decZ a.body.length)] else []).flatMap lineE).length + ((if a.up = [] then [] else [(CONN, UPV), (UPN, a.up)]).flatMap lineE).length))))) + 2 + a.body.length := by
    unfold requestE askF
    simp only [List.length_append, List.length_cons, List.flatMap_append, List.flatMap_cons]
    omega
  omega
end Go.Proofs.YtblpooddamkfdaaGreatDoor.PEmLen
