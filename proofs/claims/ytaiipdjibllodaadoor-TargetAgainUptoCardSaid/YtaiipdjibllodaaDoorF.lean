/- Texts of this seat, one behind another: TargetAgainW. -/
import Derived.Deep.QuietTactic
import Derived.BigQuiet
import Derived.Test.YtaiipdjibllodaaDoorB2
import Derived.Test.YtaiipdjibllodaaDoorC
/- What goes to a server, read there, is an origin with the same path and query: TargetAgain returns true, for what comes in of bulk at most 1048576. -/
namespace Go.Proofs.YtaiipdjibllodaaDoor.TargetAgainW
open Go.ChangeShapes Go.WideShapes Go.ChangeAt Go.RowKit LexPure Bytes HostPure TargetPure TargetLen PUnder TBox TParse TOrigin TEq TAnchor Mem
set_option maxRecDepth 20000
set_option linter.unusedVariables false
theorem parse_form (m s : List UInt8) (h : (parse6 m s).2 = 0) : (parse6 m s).1.form = 1 ∨ (parse6 m s).1.form = 2 ∨ (((parse6 m s).1.form == 1) = false ∧ ((parse6 m s).1.form == 2) = false ∧ (parse6 m s).1.path = [] ∧ (parse6 m s).1.has = false) := by
  rcases parse_ok m s h with ⟨hf, hp, hh⟩ | ⟨hf | hf, _⟩
  · exact .inr (.inr ⟨beq_eq_false_iff_ne.2 (by omega), beq_eq_false_iff_ne.2 (by omega), hp, hh⟩)
  · exact .inl hf
  · exact .inr (.inl hf)
theorem origin_len (t : Tgt) (n : Nat) (h : t.path.length + t.query.length ≤ n) : (origin6 t).length ≤ n + 1 := by
  unfold origin6
  split
  · split
    · simp; omega
    · omega
  · split <;> simp
theorem parse_few (m s : List UInt8) : (parse6 m s).1.path.length + (parse6 m s).1.query.length ≤ 2 * s.length + 2 := by
  by_cases h : (parse6 m s).2 = 0
  · rcases parse_ok m s h with ⟨hf, hp, _⟩ | ⟨_, r, e1, _, e3, _, e5⟩
    · rw [hp, parse_bare m s hf]
      simp
    · rw [e3]
      have h1 := normal_le e1
      have h2 : (CutAt.aheadOf 63 r).length ≤ r.length := by unfold CutAt.aheadOf; exact (List.takeWhile_prefix _).length_le
      have h3 : (CutAt.behind 63 r).length ≤ r.length := by
        unfold CutAt.behind
        rw [List.length_tail]
        have := (List.dropWhile_suffix (l := r) (fun c => c != 63)).length_le
        omega
      omega
  · rw [parse_err m s h]
    exact Nat.zero_le _
set_option maxHeartbeats 3200000 in
theorem walk (m : ByteArray) (w0 : m.size ≤ maxLen) (z0 : m.size ≤ 1048576) (s : ByteArray) (w1 : s.size ≤ maxLen) (z1 : s.size ≤ 1048576) (w : World) (hsh : w.ShapedOpen Tryd.prog) :
    Calls Tryd.prog 5 #[.string m, .string s] w fun e w' => e = .returned (.bool true) ∧ Below w.heap.size w w' := by
  have HM := Lib.hid (MaxInt.of_shape hsh)
  clear hsh
  obtain ⟨x, hx⟩ : ∃ x, x = parse6 (toL m) (toL s) := ⟨_, rfl⟩
  have U0 : Hid (∀ w, MaxInt w → Calls Tryd.prog 9 #[.string m, .string s] w fun e w' => e = .returned (.tuple #[.agg #[.int .i64 x.1.form, .string (ofL x.1.host), .int .i64 x.1.port, .string (ofL x.1.path), .string (ofL x.1.query), .bool x.1.has], .int .i64 x.2]) ∧ Below w.heap.size w w') := Lib.hid (fun w hm => by rw [hx]; exact tparse_any m s (by omega) w hm)
  by_cases he : x.2 = 0
  rotate_left
  · have hz : x.1 = zero := by rw [hx]; exact parse_err _ _ (by rw [← hx]; exact he)
    obtain ⟨t, er⟩ := x
    simp only at hz he U0
    subst hz
    have heq := fun w => eqT 0 0 ⟨#[]⟩ ⟨#[]⟩ ⟨#[]⟩ false w
    have q1 : (er != 0) = true := bne_iff_ne.2 he
    have q2 : (er == 0) = false := beq_eq_false_iff_ne.2 he
    have U1 : Hid (∀ w, MaxInt w → Calls Tryd.prog 9 #[.string m, .string s] w fun e w' => e = .returned (.tuple #[.agg #[.int .i64 0, .string ⟨#[]⟩, .int .i64 0, .string ⟨#[]⟩, .string ⟨#[]⟩, .bool false], .int .i64 er]) ∧ Below w.heap.size w w') := U0
    clear hx he w0 z0 w1 z1 U0
    go_enter Tryd.func5, Tryd.ntmps5
    go_wp2_with fail
    refine (anchor_any _ HM.out).mono ?_
    rintro e w1 ⟨rfl, hb1⟩
    go_wp2_with fail
    refine (U1.out _ (HM.out.below hb1)).mono ?_
    rintro e w2 ⟨rfl, hb2⟩
    have HB := Lib.hid ((below_chain hb1 hb2).alloc (below_chain hb1 hb2).size (.cells #[.int .i64 0, .string ⟨#[]⟩, .int .i64 0, .string ⟨#[]⟩, .string ⟨#[]⟩, .bool false] 24))
    clear hb1 hb2
    go_wp2_with fail
    go_ret
    exact ⟨rfl, HB.out⟩
  · have hag := fun hf => again (m := toL m) (s := toL s) (by rw [← hx]; exact he) hf
    have hsz : x.1.path.length + x.1.query.length ≤ 140737488351232 := by rw [hx]; exact parse_len (toL m) (toL s) (by rw [toL_length]; omega)
    have hfo := parse_form (toL m) (toL s) (by rw [← hx]; exact he)
    have hpl := parse_few (toL m) (toL s)
    rw [toL_length] at hpl
    rw [← hx] at hag hfo hpl
    clear hx
    obtain ⟨t, er⟩ := x
    simp only at he U0 hag hfo hsz hpl
    subst he
    have U2 := Lib.hid (fun w => torigin_any t hsz w)
    rcases hfo with hf | hf | ⟨f1, f2, f3, f4⟩
    · have U3 : Hid (∀ w, MaxInt w → Calls Tryd.prog 9 #[.string ⟨#[71, 69, 84]⟩, .string (ofL (origin6 t))] w fun e w' => e = .returned (.tuple #[.agg #[.int .i64 1, .string ⟨#[]⟩, .int .i64 0, .string (ofL t.path), .string (ofL t.query), .bool t.has], .int .i64 0]) ∧ Below w.heap.size w w') := Lib.hid (fun w hm => by
        have h := tparse_any ⟨#[71, 69, 84]⟩ (ofL (origin6 t)) (by rw [ofL_size]; have := origin_len t _ hpl; omega) w hm
        rw [toL_ofL] at h
        rw [show toL ⟨#[71, 69, 84]⟩ = GET from rfl, hag (.inl hf)] at h
        exact h)
      have heq := fun w => eqT 1 0 ⟨#[]⟩ (ofL t.path) (ofL t.query) t.has w
      generalize ofL (origin6 t) = O at *
      clear hag hsz hpl
      obtain ⟨fo, ho, po, pa, qu, ha⟩ := t
      simp only at hf U0 U2 U3 heq
      subst hf
      go_enter Tryd.func5, Tryd.ntmps5
      go_wp2_with fail
      refine (anchor_any _ HM.out).mono ?_
      rintro e w1 ⟨rfl, hb1⟩
      go_wp2_with fail
      refine (U0.out _ (HM.out.below hb1)).mono ?_
      rintro e w2 ⟨rfl, hb2⟩
      replace hb1 := below_chain hb1 hb2
      clear hb2
      have HX := Lib.hid (Bx.new hb1 1 ho po pa qu ha)
      clear hb1
      go_wp2_with fail
      generalize w2.alloc (.cells #[.int .i64 1, .string (ofL ho), .int .i64 po, .string (ofL pa), .string (ofL qu), .bool ha] 24) = W at HX ⊢
      generalize w2.heap.size = g at HX ⊢
      refine (U2.out _).mono ?_
      rintro e w3 ⟨rfl, hb3⟩
      replace HX := Lib.hid (HX.out.call hb3)
      clear hb3
      go_wp2_with fail
      refine (U3.out _ (HM.out.below HX.out.below)).mono ?_
      rintro e w4 ⟨rfl, hb4⟩
      replace HX := Lib.hid (HX.out.call hb4)
      clear hb4
      have HX2 := HX.out.alloc (.cells #[.int .i64 1, .string ⟨#[]⟩, .int .i64 0, .string (ofL pa), .string (ofL qu), .bool ha] 24)
      obtain ⟨r0, r1, r2, r3, r4, r5⟩ := HX2.box.cells
      have HE := Lib.hid HX2.below
      clear HX HX2
      go_wp2_with fail
      go_ret
      exact ⟨rfl, HE.out⟩
    · have U3 : Hid (∀ w, MaxInt w → Calls Tryd.prog 9 #[.string ⟨#[71, 69, 84]⟩, .string (ofL (origin6 t))] w fun e w' => e = .returned (.tuple #[.agg #[.int .i64 1, .string ⟨#[]⟩, .int .i64 0, .string (ofL t.path), .string (ofL t.query), .bool t.has], .int .i64 0]) ∧ Below w.heap.size w w') := Lib.hid (fun w hm => by
        have h := tparse_any ⟨#[71, 69, 84]⟩ (ofL (origin6 t)) (by rw [ofL_size]; have := origin_len t _ hpl; omega) w hm
        rw [toL_ofL] at h
        rw [show toL ⟨#[71, 69, 84]⟩ = GET from rfl, hag (.inr hf)] at h
        exact h)
      have heq := fun w => eqT 1 0 ⟨#[]⟩ (ofL t.path) (ofL t.query) t.has w
      generalize ofL (origin6 t) = O at *
      clear hag hsz hpl
      obtain ⟨fo, ho, po, pa, qu, ha⟩ := t
      simp only at hf U0 U2 U3 heq
      subst hf
      go_enter Tryd.func5, Tryd.ntmps5
      go_wp2_with fail
      refine (anchor_any _ HM.out).mono ?_
      rintro e w1 ⟨rfl, hb1⟩
      go_wp2_with fail
      refine (U0.out _ (HM.out.below hb1)).mono ?_
      rintro e w2 ⟨rfl, hb2⟩
      replace hb1 := below_chain hb1 hb2
      clear hb2
      have HX := Lib.hid (Bx.new hb1 2 ho po pa qu ha)
      clear hb1
      go_wp2_with fail
      generalize w2.alloc (.cells #[.int .i64 2, .string (ofL ho), .int .i64 po, .string (ofL pa), .string (ofL qu), .bool ha] 24) = W at HX ⊢
      generalize w2.heap.size = g at HX ⊢
      refine (U2.out _).mono ?_
      rintro e w3 ⟨rfl, hb3⟩
      replace HX := Lib.hid (HX.out.call hb3)
      clear hb3
      go_wp2_with fail
      refine (U3.out _ (HM.out.below HX.out.below)).mono ?_
      rintro e w4 ⟨rfl, hb4⟩
      replace HX := Lib.hid (HX.out.call hb4)
      clear hb4
      have HX2 := HX.out.alloc (.cells #[.int .i64 1, .string ⟨#[]⟩, .int .i64 0, .string (ofL pa), .string (ofL qu), .bool ha] 24)
      obtain ⟨r0, r1, r2, r3, r4, r5⟩ := HX2.box.cells
      have HE := Lib.hid HX2.below
      clear HX HX2
      go_wp2_with fail
      go_ret
      exact ⟨rfl, HE.out⟩
    · clear hag hsz hpl U2
      obtain ⟨fo, ho, po, pa, qu, ha⟩ := t
      simp only at f1 f2 f3 f4 U0
      subst f3; subst f4
      have U1 : Hid (∀ w, MaxInt w → Calls Tryd.prog 9 #[.string m, .string s] w fun e w' => e = .returned (.tuple #[.agg #[.int .i64 fo, .string (ofL ho), .int .i64 po, .string ⟨#[]⟩, .string (ofL qu), .bool false], .int .i64 0]) ∧ Below w.heap.size w w') := U0
      have g1 : (fo != 1) = true := by unfold bne; rw [f1]; rfl
      have g2 : (fo != 2) = true := by unfold bne; rw [f2]; rfl
      clear U0 w0 z0 w1 z1
      go_enter Tryd.func5, Tryd.ntmps5
      go_wp2_with fail
      refine (anchor_any _ HM.out).mono ?_
      rintro e w1 ⟨rfl, hb1⟩
      go_wp2_with fail
      refine (U1.out _ (HM.out.below hb1)).mono ?_
      rintro e w2 ⟨rfl, hb2⟩
      have HB := Lib.hid ((below_chain hb1 hb2).alloc (below_chain hb1 hb2).size (.cells #[.int .i64 fo, .string (ofL ho), .int .i64 po, .string ⟨#[]⟩, .string (ofL qu), .bool false] 24))
      clear hb1 hb2
      go_wp2_with fail
      go_ret
      exact ⟨rfl, HB.out⟩
end Go.Proofs.YtaiipdjibllodaaDoor.TargetAgainW
