/- Texts of this seat, one behind another: R9Resp, OutPure, OutFew, R12Box, HeadFew, R11D, HeadCut, EmitBack, TargetLen, EmitForwP, EmitStripP, EmitForwQ, EmitForwR, EmitForwS. -/
import Derived.Laws.Tables
import Derived.Laws.ResultCell
import Derived.Test.YtblpooddamkfdaaGreatDoorE
import Derived.Test.YtblpooddamkfdaaGreatDoorA1
import Derived.Test.YtblpooddamkfdaaGreatDoorB7
import Derived.Test.YtblpooddamkfdaaGreatDoorF
import Derived.Test.YtblpooddamkfdaaGreatDoorC1
import Derived.Test.YtblpooddamkfdaaGreatDoorA2
/- Layer 9, the document's own Response. -/
namespace Go.Proofs.YtblpooddamkfdaaGreatDoor.R9Resp
open Go.ChangeShapes Go.WideShapes Go.ChangeAt Go.RowKit LexPure Bytes Ret Rows1 FieldsPure HeadPure FramePure Flds HBox Held R9Has R9Code R9Len R9Req Mem
set_option maxRecDepth 20000
theorem text_at (m : ByteArray) (l : List UInt8) : (m.toList == l) = decide (toL m = l) := by
  rw [ByteArray.toList_eq, show m.data.toList = toL m from rfl]
  by_cases h : toL m = l
  · rw [decide_eq_true h, h]; exact beq_self_eq_true _
  · rw [decide_eq_false h]; exact beq_eq_false_iff_ne.2 h
set_option maxHeartbeats 3200000 in
theorem r9response_any (m : ByteArray) (h : H8) (v : Value) (hG : Few h.fields) (hle : h.fields.length ≤ 1048576) (w : World) (hF : FL w v h.fields) :
    Calls Tryz.prog 44 #[.string m, hv h v] w fun e w' => e = .returned (trip (response9 (toL m) h.status h.minor h.fields)) ∧ Below w.heap.size w w' := by
  have L0 := LB.new (Below.refl w.heap.size w) hF
  have H1 := Lib.hid (fun w hF => r9has_any h v ⟨#[99, 111, 110, 116, 101, 110, 116, 45, 108, 101, 110, 103, 116, 104]⟩ (by decide) hG w hF)
  have H2 := Lib.hid (fun w hF => r9has_any h v ⟨#[116, 114, 97, 110, 115, 102, 101, 114, 45, 101, 110, 99, 111, 100, 105, 110, 103]⟩ (by decide) hG w hF)
  have H3 := Lib.hid (fun w hF => r9code_any h v hG hle w hF)
  have H4 := Lib.hid (fun w hF => r9len_any h v hG hle w hF)
  rw [show toL ⟨#[99, 111, 110, 116, 101, 110, 116, 45, 108, 101, 110, 103, 116, 104]⟩ = CLEN from rfl] at H1
  rw [show toL ⟨#[116, 114, 97, 110, 115, 102, 101, 114, 45, 101, 110, 99, 111, 100, 105, 110, 103]⟩ = TENC from rfl] at H2
  obtain ⟨X, hX⟩ : ∃ X, X = response9 (toL m) h.status h.minor h.fields := ⟨_, rfl⟩
  rw [← hX]
  unfold response9 at hX
  have t1 := text_at m [67, 79, 78, 78, 69, 67, 84]
  have t2 := text_at m [72, 69, 65, 68]
  generalize codeN (elems h.fields TENC) = c at *
  generalize lenN h.fields = n at *
  generalize getN h.fields CLEN = k1 at *
  generalize getN h.fields TENC = k2 at *
  obtain ⟨p, cap, rfl, _, _⟩ := id hF
  unfold hc at L0
  unfold hv at H1 H2 H3 H4 ⊢
  replace L0 := Lib.hid L0
  clear hF
  have hst : (h.status = 101 ∧ (h.status == 101) = true ∧ X = (5, 0, 0)) ∨ ((h.status == 101) = false ∧ (100 : Int) ≤ h.status ∧ h.status < 200 ∧ X = (1, 0, 0)) ∨ ((h.status == 101) = false ∧ (100 : Int) ≤ h.status ∧ ¬ h.status < 200 ∧ (h.status == 204) = true ∧ X = (1, 0, 0)) ∨ ((h.status == 101) = false ∧ (100 : Int) ≤ h.status ∧ ¬ h.status < 200 ∧ (h.status == 204) = false ∧ (h.status == 304) = true ∧ X = (1, 0, 0)) ∨
      (¬ h.status = 101 ∧ ¬ ((100 ≤ h.status ∧ h.status < 200) ∨ h.status = 204 ∨ h.status = 304)) := by
    rw [hX]
    by_cases s1 : h.status = 101
    · exact .inl ⟨s1, by rw [s1]; rfl, if_pos s1⟩
    · have s2 : (h.status == 101) = false := beq_eq_false_iff_ne.2 s1
      rw [if_neg s1]
      by_cases s3 : 100 ≤ h.status ∧ h.status < 200
      · exact .inr (.inl ⟨s2, s3.1, s3.2, if_pos (.inl s3)⟩)
      · by_cases s4 : h.status = 204
        · exact .inr (.inr (.inl ⟨s2, by omega, by omega, by rw [s4]; rfl, if_pos (.inr (.inl s4))⟩))
        · by_cases s5 : h.status = 304
          · exact .inr (.inr (.inr (.inl ⟨s2, by omega, by omega, by rw [s5]; rfl, by rw [s5]; rfl, if_pos (.inr (.inr s5))⟩)))
          · exact .inr (.inr (.inr (.inr ⟨s1, by rintro (h | h | h); exact s3 h; exact s4 h; exact s5 h⟩)))
  rcases hst with ⟨s0, s1, hV⟩ | ⟨s1, s2, s3, hV⟩ | ⟨s1, s2, s3, s4, hV⟩ | ⟨s1, s2, s3, s4, s5, hV⟩ | ⟨s1, s2⟩
  · replace hV := Lib.hid hV
    clear hX H1 H2 H3 H4 t1 t2 s0
    go_enter Tryz.func44, Tryz.ntmps44
    go_wp2_with fail
    go_ret3
    exact ⟨ret_trip hV.out, L0.out.below⟩
  · replace hV := Lib.hid hV
    clear hX H1 H2 H3 H4 t1 t2
    go_enter Tryz.func44, Tryz.ntmps44
    go_wp2_with fail
    go_ret3
    exact ⟨ret_trip hV.out, L0.out.below⟩
  · replace hV := Lib.hid hV
    clear hX H1 H2 H3 H4 t1 t2
    go_enter Tryz.func44, Tryz.ntmps44
    go_wp2_with fail
    go_ret3
    exact ⟨ret_trip hV.out, L0.out.below⟩
  · replace hV := Lib.hid hV
    clear hX H1 H2 H3 H4 t1 t2
    go_enter Tryz.func44, Tryz.ntmps44
    go_wp2_with fail
    go_ret3
    exact ⟨ret_trip hV.out, L0.out.below⟩
  rw [if_neg s1, if_neg s2] at hX
  have hcm : (toL m = [67, 79, 78, 78, 69, 67, 84] ∧ 200 ≤ h.status ∧ h.status < 300 ∧ X = (5, 0, 0)) ∨ (¬ (toL m = [67, 79, 78, 78, 69, 67, 84] ∧ 200 ≤ h.status ∧ h.status < 300) ∧ toL m = [72, 69, 65, 68] ∧ X = (1, 0, 0)) ∨ (¬ (toL m = [67, 79, 78, 78, 69, 67, 84] ∧ 200 ≤ h.status ∧ h.status < 300) ∧ ¬ toL m = [72, 69, 65, 68] ∧ X = if 0 < k2 then (if h.minor = 0 ∨ 0 < k1 then (0, 0, 90) else if c = 1 then (3, 0, 0) else (0, 0, 91)) else if k1 = 0 then (4, 0, 0) else if n < 0 then (0, 0, 90) else (2, n, 0)) := by
    rw [hX]
    by_cases q : toL m = [67, 79, 78, 78, 69, 67, 84] ∧ 200 ≤ h.status ∧ h.status < 300
    · exact .inl ⟨q.1, q.2.1, q.2.2, if_pos q⟩
    · rw [if_neg q]
      by_cases q2 : toL m = [72, 69, 65, 68]
      · exact .inr (.inl ⟨q, q2, if_pos q2⟩)
      · exact .inr (.inr ⟨q, q2, if_neg q2⟩)
  -- how the tests on the way come out
  have hway : (h.status == 101) = false ∧ ((¬ (100 : Int) ≤ h.status ∧ (h.status == 204) = false ∧ (h.status == 304) = false) ∨ ((100 : Int) ≤ h.status ∧ ¬ h.status < 200 ∧ (h.status == 204) = false ∧ (h.status == 304) = false)) := by
    refine ⟨beq_eq_false_iff_ne.2 s1, ?_⟩
    have a1 : (h.status == 204) = false := beq_eq_false_iff_ne.2 (fun h => s2 (.inr (.inl h)))
    have a2 : (h.status == 304) = false := beq_eq_false_iff_ne.2 (fun h => s2 (.inr (.inr h)))
    by_cases a3 : 100 ≤ h.status
    · exact .inr ⟨a3, fun a4 => s2 (.inl ⟨a3, a4⟩), a1, a2⟩
    · exact .inl ⟨a3, a1, a2⟩
  obtain ⟨w1, hway⟩ := hway
  clear hX s1 s2
  rcases hcm with ⟨q1, q2, q3, hV⟩ | ⟨q1, q2, hV⟩ | ⟨q1, q2, hV⟩
  · have t1' : (m.toList == [67, 79, 78, 78, 69, 67, 84]) = true := by rw [t1]; exact decide_eq_true q1
    replace hV := Lib.hid hV
    clear t1 t2 q1 H1 H2 H3 H4
    rcases hway with ⟨a0, a1, a2⟩ | ⟨a0, a00, a1, a2⟩
    · omega
    · go_enter Tryz.func44, Tryz.ntmps44
      go_wp2_with fail
      go_ret3
      exact ⟨ret_trip hV.out, L0.out.below⟩
  · have t1' : (m.toList == [67, 79, 78, 78, 69, 67, 84]) = false := by rw [t1]; exact decide_eq_false (by rw [q2]; decide)
    have t2' : (m.toList == [72, 69, 65, 68]) = true := by rw [t2]; exact decide_eq_true q2
    replace hV := Lib.hid hV
    clear t1 t2 q1 q2 H1 H2 H3 H4
    rcases hway with ⟨a0, a1, a2⟩ | ⟨a0, a00, a1, a2⟩
    all_goals
      go_enter Tryz.func44, Tryz.ntmps44
      go_wp2_with fail
      go_ret3
      exact ⟨ret_trip hV.out, L0.out.below⟩
  · have t2' : (m.toList == [72, 69, 65, 68]) = false := by rw [t2]; exact decide_eq_false q2
    have hcon : ((m.toList == [67, 79, 78, 78, 69, 67, 84]) = false) ∨ ((m.toList == [67, 79, 78, 78, 69, 67, 84]) = true ∧ ¬ 200 ≤ h.status) ∨ ((m.toList == [67, 79, 78, 78, 69, 67, 84]) = true ∧ 200 ≤ h.status ∧ ¬ h.status < 300) := by
      by_cases r : toL m = [67, 79, 78, 78, 69, 67, 84]
      · have r1 : (m.toList == [67, 79, 78, 78, 69, 67, 84]) = true := by rw [t1]; exact decide_eq_true r
        by_cases r2 : 200 ≤ h.status
        · exact .inr (.inr ⟨r1, r2, fun r3 => q1 ⟨r, r2, r3⟩⟩)
        · exact .inr (.inl ⟨r1, r2⟩)
      · exact .inl (by rw [t1]; exact decide_eq_false r)
    clear t1 t2 q1 q2
    have hall : ((¬ (100 : Int) ≤ h.status ∧ (h.status == 204) = false ∧ (h.status == 304) = false) ∧ (m.toList == [67, 79, 78, 78, 69, 67, 84]) = false) ∨ ((¬ (100 : Int) ≤ h.status ∧ (h.status == 204) = false ∧ (h.status == 304) = false) ∧ (m.toList == [67, 79, 78, 78, 69, 67, 84]) = true ∧ ¬ 200 ≤ h.status) ∨ (((100 : Int) ≤ h.status ∧ ¬ h.status < 200 ∧ (h.status == 204) = false ∧ (h.status == 304) = false) ∧ (m.toList == [67, 79, 78, 78, 69, 67, 84]) = false) ∨ (((100 : Int) ≤ h.status ∧ ¬ h.status < 200 ∧ (h.status == 204) = false ∧ (h.status == 304) = false) ∧ (m.toList == [67, 79, 78, 78, 69, 67, 84]) = true ∧ 200 ≤ h.status ∧ ¬ h.status < 300) := by
      rcases hway with a | a <;> rcases hcon with b | ⟨b, b2⟩ | ⟨b, b2, b3⟩
      · exact .inl ⟨a, b⟩
      · exact .inr (.inl ⟨a, b, b2⟩)
      · have := a.1; omega
      · exact .inr (.inr (.inl ⟨a, b⟩))
      · have := a.2.1; omega
      · exact .inr (.inr (.inr ⟨a, b, b2, b3⟩))
    have hV2 : (0 < k2 ∧ ((h.minor = 0 ∧ (h.minor == 0) = true ∧ X = (0, 0, 90)) ∨ ((h.minor == 0) = false ∧ 0 < k1 ∧ X = (0, 0, 90)) ∨ ((h.minor == 0) = false ∧ ¬ 0 < k1 ∧ ((c : Int) != 1) = false ∧ X = (3, 0, 0)) ∨ ((h.minor == 0) = false ∧ ¬ 0 < k1 ∧ ((c : Int) != 1) = true ∧ X = (0, 0, 91)))) ∨
        (¬ 0 < k2 ∧ ((¬ 0 < k1 ∧ X = (4, 0, 0)) ∨ (0 < k1 ∧ n < 0 ∧ X = (0, 0, 90)) ∨ (0 < k1 ∧ ¬ n < 0 ∧ X = (2, n, 0)))) := by
      rw [hV]
      by_cases h2 : 0 < k2
      · refine .inl ⟨h2, ?_⟩
        rw [if_pos h2]
        by_cases m0 : h.minor = 0
        · exact .inl ⟨m0, by rw [m0]; rfl, if_pos (.inl m0)⟩
        · have m1 : (h.minor == 0) = false := beq_eq_false_iff_ne.2 m0
          by_cases q1 : 0 < k1
          · exact .inr (.inl ⟨m1, q1, if_pos (.inr q1)⟩)
          · rw [if_neg (by rintro (h | h); exact m0 h; exact q1 h)]
            by_cases c1 : c = 1
            · exact .inr (.inr (.inl ⟨m1, q1, by rw [c1]; rfl, if_pos c1⟩))
            · exact .inr (.inr (.inr ⟨m1, q1, bne_iff_ne.2 (by omega), if_neg c1⟩))
      · refine .inr ⟨h2, ?_⟩
        rw [if_neg h2]
        by_cases q1 : 0 < k1
        · rw [if_neg (by omega)]
          by_cases n0 : n < 0
          · exact .inr (.inl ⟨q1, n0, if_pos n0⟩)
          · exact .inr (.inr ⟨q1, n0, if_neg n0⟩)
        · exact .inl ⟨q1, if_pos (by omega)⟩
    clear hV hway hcon
    obtain ⟨E1, hE1⟩ : ∃ b, b = decide (0 < k1) := ⟨_, rfl⟩
    obtain ⟨E2, hE2⟩ : ∃ b, b = decide (0 < k2) := ⟨_, rfl⟩
    rw [← hE1] at H1
    rw [← hE2] at H2
    replace hE1 := Lib.hid hE1
    replace hE2 := Lib.hid hE2
    rcases hall with ⟨⟨a0, a1, a2⟩, b1⟩ | ⟨⟨a0, a1, a2⟩, b1, b2⟩ | ⟨⟨a0, a00, a1, a2⟩, b1⟩ | ⟨⟨a0, a00, a1, a2⟩, b1, b2, b3⟩
    all_goals
      go_enter Tryz.func44, Tryz.ntmps44
      go_wp2_with fail
      generalize w.alloc (.cells #[.string (ofL h.method), .string (ofL h.target), .int .i64 h.status, .string (ofL h.reason), .int .i64 h.minor, .slice p h.fields.length cap] 25) = W at L0 ⊢
      obtain ⟨g, hg⟩ : ∃ g, g = w.heap.size := ⟨_, rfl⟩
      rw [← hg] at L0 ⊢
      replace hg := Lib.hid hg
      obtain ⟨d0, d1, d2, d3, d4, d5⟩ := L0.out.box.cells
      refine (H1.out _ L0.out.list).mono ?_
      rintro e u1 ⟨rfl, hb⟩
      replace L0 := Lib.hid (L0.out.call hb)
      clear hb d0 d1 d2 d3 d4 d5
      obtain ⟨d0, d1, d2, d3, d4, d5⟩ := L0.out.box.cells
      go_wp2_with fail
      refine (H2.out _ L0.out.list).mono ?_
      rintro e u2 ⟨rfl, hb⟩
      replace L0 := Lib.hid (L0.out.call hb)
      clear hb d0 d1 d2 d3 d4 d5
      obtain ⟨d0, d1, d2, d3, d4, d5⟩ := L0.out.box.cells
      clear H1 H2 a0 a1 a2 b1 t2' w1
      rcases hV2 with ⟨h2, hcs⟩ | ⟨h2, hcs⟩
      · obtain rfl : E2 = true := by rw [hE2.out]; exact decide_eq_true h2
        clear h2
        rcases hcs with ⟨m0, m1, hV⟩ | ⟨m1, q1, hV⟩ | ⟨m1, q1, c1, hV⟩ | ⟨m1, q1, c1, hV⟩
        · replace hV := Lib.hid hV
          clear m0 H3 H4
          go_wp2_with fail
          go_ret3
          exact ⟨ret_trip hV.out, L0.out.below⟩
        · obtain rfl : E1 = true := by rw [hE1.out]; exact decide_eq_true q1
          replace hV := Lib.hid hV
          clear q1 H3 H4
          go_wp2_with fail
          go_ret3
          exact ⟨ret_trip hV.out, L0.out.below⟩
        all_goals
          obtain rfl : E1 = false := by rw [hE1.out]; exact decide_eq_false q1
          replace hV := Lib.hid hV
          clear q1 H4
          go_wp2_with fail
          refine (H3.out _ L0.out.list).mono ?_
          rintro e u3 ⟨rfl, hb⟩
          replace L0 := Lib.hid (L0.out.call hb)
          clear hb d0 d1 d2 d3 d4 d5
          obtain ⟨d0, d1, d2, d3, d4, d5⟩ := L0.out.box.cells
          clear H3
          go_wp2_with fail
          go_ret3
          exact ⟨ret_trip hV.out, L0.out.below⟩
      · obtain rfl : E2 = false := by rw [hE2.out]; exact decide_eq_false h2
        clear h2 H3
        rcases hcs with ⟨q1, hV⟩ | ⟨q1, n0, hV⟩ | ⟨q1, n0, hV⟩
        · obtain rfl : E1 = false := by rw [hE1.out]; exact decide_eq_false q1
          replace hV := Lib.hid hV
          clear q1 H4
          go_wp2_with fail
          go_ret3
          exact ⟨ret_trip hV.out, L0.out.below⟩
        all_goals
          obtain rfl : E1 = true := by rw [hE1.out]; exact decide_eq_true q1
          replace hV := Lib.hid hV
          clear q1
          go_wp2_with fail
          refine (H4.out _ L0.out.list).mono ?_
          rintro e u3 ⟨rfl, hb⟩
          replace L0 := Lib.hid (L0.out.call hb)
          clear hb d0 d1 d2 d3 d4 d5
          obtain ⟨d0, d1, d2, d3, d4, d5⟩ := L0.out.box.cells
          clear H4
          go_wp2_with fail
          go_ret3
          exact ⟨ret_trip hV.out, L0.out.below⟩
end Go.Proofs.YtblpooddamkfdaaGreatDoor.R9Resp

/- Layer 12: a response read piece by piece, over lists of bytes. No program is named. -/
namespace Go.Proofs.YtblpooddamkfdaaGreatDoor.OutPure
open Bytes LexPure LexNum FieldsPure HeadPure FramePure ChunkPure
set_option maxRecDepth 20000
/-! ### the heads -/
def interim (st : Int) : Bool := decide (100 ≤ st) && decide (st < 200) && decide (st ≠ 101)
def heads : Nat → List UInt8 → Res × List UInt8
  | 0, D => (read8 true D, D)
  | k + 1, D => match read8 true D with
    | .done h n => if interim h.status = true then heads k (D.drop n) else (.done h n, D)
    | .wait => (.wait, D)
    | .bad e => (.bad e, D)
def headsOf (D : List UInt8) : Res × List UInt8 := heads D.length D
theorem read_nil : read8 true [] = .wait := rfl
theorem heads_enough : ∀ (n k : Nat) (D : List UInt8), D.length ≤ n → D.length ≤ k → heads k D = heads D.length D := by
  intro n
  induction n with
  | zero =>
    intro k D hn _
    have : D = [] := List.length_eq_zero_iff.1 (by omega)
    subst this
    cases k with
    | zero => rfl
    | succ k =>
      show (match read8 true [] with | .done h n => if interim h.status = true then heads k (([] : List UInt8).drop n) else (.done h n, []) | .wait => (.wait, []) | .bad e => (.bad e, [])) = (read8 true [], [])
      rw [read_nil]
  | succ n ih =>
    intro k D hn hk
    cases D with
    | nil => exact ih k [] (Nat.zero_le _) (Nat.zero_le _)
    | cons c D =>
      cases k with
      | zero => rw [List.length_cons] at hk; omega
      | succ k =>
        rw [List.length_cons]
        unfold heads
        cases hr : read8 true (c :: D) with
        | wait => rfl
        | bad e => rfl
        | done h m =>
          dsimp only
          obtain ⟨h1, h2, _⟩ := read_front true (c :: D) h m hr
          rw [List.length_cons] at hn hk h1
          split
          · have hl : ((c :: D).drop m).length ≤ D.length := by rw [List.length_drop, List.length_cons]; omega
            rw [ih k _ (by omega) (by omega), ih D.length _ (by omega) hl]
          · rfl
theorem heads_step {D : List UInt8} {h : H8} {n : Nat} (hr : read8 true D = .done h n) (hi : interim h.status = true) : headsOf D = headsOf (D.drop n) := by
  obtain ⟨h1, h2, _⟩ := read_front true D h n hr
  unfold headsOf
  cases hD : D.length with
  | zero => omega
  | succ k =>
    conv => lhs; unfold heads
    rw [hr]
    dsimp only
    rw [if_pos hi]
    exact heads_enough D.length k _ (by rw [List.length_drop]; omega) (by rw [List.length_drop]; omega)
theorem heads_wait {D : List UInt8} (hr : read8 true D = .wait) : headsOf D = (.wait, D) := by
  unfold headsOf
  cases D.length with
  | zero => show (read8 true D, D) = _; rw [hr]
  | succ k => unfold heads; rw [hr]
theorem heads_bad {D : List UInt8} {e : Int} (hr : read8 true D = .bad e) : headsOf D = (.bad e, D) := by
  unfold headsOf
  cases D.length with
  | zero => show (read8 true D, D) = _; rw [hr]
  | succ k => unfold heads; rw [hr]
theorem heads_done {D : List UInt8} {h : H8} {n : Nat} (hr : read8 true D = .done h n) (hi : interim h.status = false) : headsOf D = (.done h n, D) := by
  unfold headsOf
  cases D.length with
  | zero => show (read8 true D, D) = _; rw [hr]
  | succ k => unfold heads; rw [hr]; dsimp only; rw [if_neg (by rw [hi]; decide)]
/-- what the heads come to: the last one's reading, and the bytes behind the interim ones -/
theorem heads_is : ∀ (n : Nat) (D : List UInt8), D.length ≤ n → read8 true (headsOf D).2 = (headsOf D).1 ∧ (headsOf D).2.length ≤ D.length ∧ headsOf (headsOf D).2 = headsOf D ∧ ∀ h k, (headsOf D).1 = .done h k → interim h.status = false := by
  intro n
  induction n with
  | zero =>
    intro D hn
    have : D = [] := List.length_eq_zero_iff.1 (by omega)
    subst this
    rw [heads_wait read_nil]
    exact ⟨read_nil, Nat.le_refl _, heads_wait read_nil, fun h k x => by cases x⟩
  | succ n ih =>
    intro D hn
    cases hr : read8 true D with
    | wait => rw [heads_wait hr]; exact ⟨hr, Nat.le_refl _, heads_wait hr, fun h k x => by cases x⟩
    | bad e => rw [heads_bad hr]; exact ⟨hr, Nat.le_refl _, heads_bad hr, fun h k x => by cases x⟩
    | done h m =>
      cases hi : interim h.status with
      | false =>
        rw [heads_done hr hi]
        exact ⟨hr, Nat.le_refl _, heads_done hr hi, fun h' k x => by injection x with x1 _; rw [← x1]; exact hi⟩
      | true =>
        obtain ⟨h1, h2, _⟩ := read_front true D h m hr
        rw [heads_step hr hi]
        have := ih (D.drop m) (by rw [List.length_drop]; omega)
        exact ⟨this.1, Nat.le_trans this.2.1 (by rw [List.length_drop]; omega), this.2.2⟩
theorem heads_append (x : List UInt8) : ∀ (n : Nat) (D : List UInt8), D.length ≤ n → ((headsOf D).1 ≠ .wait → headsOf (D ++ x) = ((headsOf D).1, (headsOf D).2 ++ x)) ∧ ((headsOf D).1 = .wait → headsOf (D ++ x) = headsOf ((headsOf D).2 ++ x)) := by
  intro n
  induction n with
  | zero =>
    intro D hn
    have : D = [] := List.length_eq_zero_iff.1 (by omega)
    subst this
    rw [heads_wait read_nil]
    exact ⟨fun h => absurd rfl h, fun _ => rfl⟩
  | succ n ih =>
    intro D hn
    cases hr : read8 true D with
    | wait => rw [heads_wait hr]; exact ⟨fun h => absurd rfl h, fun _ => rfl⟩
    | bad e =>
      have := read_append true D x (by rw [hr]; exact fun h => by cases h)
      rw [hr] at this
      rw [heads_bad hr, heads_bad this]
      exact ⟨fun _ => rfl, fun h => by cases h⟩
    | done h m =>
      have hx := read_append true D x (by rw [hr]; exact fun h => by cases h)
      rw [hr] at hx
      obtain ⟨h1, h2, _⟩ := read_front true D h m hr
      cases hi : interim h.status with
      | false =>
        rw [heads_done hr hi, heads_done hx hi]
        exact ⟨fun _ => rfl, fun h => by cases h⟩
      | true =>
        rw [heads_step hr hi, heads_step hx hi, List.drop_append_of_le_length h1]
        exact ih (D.drop m) (by rw [List.length_drop]; omega)
/-- an error has a number -/
theorem fields_err (h : H8) : ∀ (m : Nat) (acc : List HField) (a : Nat) (s : List UInt8) (e : Int), fields8 h m acc a s = .bad e → e ≠ 0 := by
  intro m
  induction m with
  | zero =>
    intro acc a s e hb
    unfold fields8 at hb
    cases hs : scan 512 83 0 s with
    | wait => rw [hs] at hb; cases hb
    | bad e' =>
      rw [hs] at hb
      injection hb with hb
      rw [← hb]
      exact scan_bad 512 83 (by decide) s 0 e' hs
    | whole k =>
      rw [hs] at hb
      dsimp only at hb
      split at hb
      · cases hb
      · injection hb with hb
        omega
  | succ m ih =>
    intro acc a s e hb
    unfold fields8 at hb
    cases hs : scan 512 83 0 s with
    | wait => rw [hs] at hb; cases hb
    | bad e' =>
      rw [hs] at hb
      injection hb with hb
      rw [← hb]
      exact scan_bad 512 83 (by decide) s 0 e' hs
    | whole k =>
      rw [hs] at hb
      dsimp only at hb
      split at hb
      · cases hb
      · split at hb
        · exact ih _ _ _ _ hb
        · injection hb with hb
          omega
theorem read_err (r : Bool) (s : List UInt8) (e : Int) (hb : read8 r s = .bad e) : e ≠ 0 := by
  unfold read8 from8 at hb
  split at hb
  · cases hb
  · rename_i e' hs
    injection hb with hb
    rw [← hb]
    exact scan_bad 1100 82 (by decide) _ 0 e' hs
  · rename_i k hs
    dsimp only at hb
    generalize (if r = true then status8 _ else start8 _) = x at hb
    split at hb
    · exact fields_err _ _ _ _ _ _ hb
    · rename_i hx
      injection hb with hb
      rw [← hb]
      exact hx
/-! ### a reader -/
inductive Md where
  | head
  | len (left : Nat)
  | chunks (m : M)
  | all
  | fin
  | nothing
  | bad (e : Int)
structure St where
  md : Md
  data : List UInt8
  gone : Bool
  kind : Int
  kept : Bool
inductive Pc where
  | none
  | head (h : H8)
  | data (d : List UInt8)
  | fin
def st0 : St := ⟨.head, [], false, 0, false⟩
def tell (d : List UInt8) : Pc := if d = [] then .none else .data d
def isN : Pc → Bool
  | .none => true
  | _ => false
def doneM : Md → Bool
  | .nothing => true
  | _ => false
def MT : Int := 1099511627776
def openM (f : Int × Int × Int) : Md := if f.1 = 2 then .len f.2.1.toNat else if f.1 = 3 then .chunks (begin_ MT) else if f.1 = 4 then .all else .fin
def stepO (meth : List UInt8) (s : St) : Pc × Nat × Int × St :=
  match s.md with
  | .head => match headsOf s.data with
    | (.wait, r) => (.none, 0, 0, { s with data := r })
    | (.bad e, r) => (.none, 0, e, { s with data := r })
    | (.done h n, r) => if (response9 meth h.status h.minor h.fields).2.2 = 0 then
        (.head h, n, 0, ⟨openM (response9 meth h.status h.minor h.fields), r, s.gone, (response9 meth h.status h.minor h.fields).1, keep9 h.minor h.fields⟩)
      else (.none, 0, (response9 meth h.status h.minor h.fields).2.2, { s with data := r })
  | .len left => if left = 0 then (.fin, 0, 0, { s with md := .nothing }) else (tell (s.data.take left), (s.data.take left).length, 0, { s with md := .len (left - (s.data.take left).length) })
  | .chunks m => if (ans m s.data).2.2.2 ≠ 0 then (.none, 0, (ans m s.data).2.2.2, { s with md := .chunks (next m s.data) })
      else if (ans m s.data).1 = [] ∧ (ans m s.data).2.2.1 = true then (.fin, (ans m s.data).2.1, 0, { s with md := .nothing })
      else (tell (ans m s.data).1, (ans m s.data).2.1, 0, { s with md := .chunks (next m s.data) })
  | .all => if s.data = [] ∧ s.gone = true then (.fin, 0, 0, { s with md := .nothing }) else (tell s.data, s.data.length, 0, s)
  | .fin => (.fin, 0, 0, { s with md := .nothing })
  | .nothing => (.none, 0, 0, s)
  | .bad e => (.none, 0, e, s)
/-- the error behind a step -/
def errO (r : Pc × Nat × Int × St) : Int := if r.2.2.1 = 0 ∧ isN r.1 = true ∧ r.2.2.2.gone = true ∧ doneM r.2.2.2.md = false then 121 else r.2.2.1
def nextO (meth : List UInt8) (s : St) : Pc × Int × St :=
  if errO (stepO meth s) ≠ 0 then (.none, errO (stepO meth s), { (stepO meth s).2.2.2 with md := .bad (errO (stepO meth s)) })
  else ((stepO meth s).1, 0, { (stepO meth s).2.2.2 with data := (stepO meth s).2.2.2.data.drop (stepO meth s).2.1 })
def feedO (s : St) (x : List UInt8) : St := if s.gone = true then s else { s with data := s.data ++ x }
def endO (s : St) : St := { s with gone := true }
/-- how many pieces it can tell at most before it has none -/
def rank (s : St) : Nat :=
  match s.md with
  | .head => 3
  | .len left => if s.data ≠ [] ∧ left ≠ 0 then 2 else 1
  | .chunks m => if s.data ≠ [] ∧ stop m = false then 2 else 1
  | .all => if s.data ≠ [] then 2 else 1
  | .fin => 1
  | .nothing => 0
  | .bad _ => 0
theorem tell_none {d : List UInt8} : isN (tell d) = true ↔ d = [] := by
  unfold tell
  split <;> simp_all [isN]
/-- where it tells anything there is no error -/
theorem next_some {meth : List UInt8} {s : St} (h : isN (nextO meth s).1 = false) : errO (stepO meth s) = 0 ∧ (stepO meth s).2.2.1 = 0 ∧ isN (stepO meth s).1 = false ∧ nextO meth s = ((stepO meth s).1, 0, { (stepO meth s).2.2.2 with data := (stepO meth s).2.2.2.data.drop (stepO meth s).2.1 }) := by
  unfold nextO at h ⊢
  by_cases he : errO (stepO meth s) ≠ 0
  · rw [if_pos he] at h
    cases h
  · rw [if_neg he] at h ⊢
    have he' : errO (stepO meth s) = 0 := by omega
    refine ⟨he', ?_, h, rfl⟩
    unfold errO at he'
    split at he'
    · omega
    · exact he'
theorem rank_two (s : St) (h : s.md ≠ .head) : rank s < 3 := by
  unfold rank
  split
  · rename_i hm; exact absurd hm h
  all_goals (repeat' split) <;> omega
theorem open_head (f : Int × Int × Int) : openM f ≠ .head := by
  unfold openM
  (repeat' split) <;> exact fun h => by cases h
theorem rank_open (f : Int × Int × Int) (s : St) (h : s.md = openM f) : rank s < 3 := rank_two s (by rw [h]; exact open_head f)
theorem rank_le (s : St) : rank s ≤ 3 := by
  unfold rank
  split
  · omega
  · split <;> omega
  · split <;> omega
  · split <;> omega
  · omega
  · omega
  · omega
theorem rank_next {meth : List UInt8} {s : St} (h : isN (nextO meth s).1 = false) : rank (nextO meth s).2.2 < rank s := by
  obtain ⟨_, he, hp, hn⟩ := next_some h
  rw [hn]
  clear hn h
  dsimp only
  obtain ⟨md, data, gone, kind, kept⟩ := s
  cases md with
  | head =>
    unfold stepO at he hp ⊢
    dsimp only at he hp ⊢
    split at hp
    · cases hp
    · cases hp
    · rename_i h n r hh
      split at hp
      · rename_i hf
        simp only [if_pos hf]
        exact rank_open (response9 meth h.status h.minor h.fields) _ rfl
      · cases hp
  | len left =>
    unfold stepO at he hp ⊢
    dsimp only at he hp ⊢
    by_cases h0 : left = 0
    · rw [if_pos h0]
      dsimp only [rank]
      rw [if_neg (fun x => x.2 h0)]
      omega
    · rw [if_neg h0] at hp ⊢
      dsimp only at hp ⊢
      have hd : data ≠ [] := fun e => by
        rw [e, List.take_nil] at hp
        cases hp
      have hq : data ≠ [] ∧ left ≠ 0 := ⟨hd, h0⟩
      dsimp only [rank]
      rw [if_pos hq, if_neg]
      · omega
      · rw [List.length_take]
        rintro ⟨h1, h2⟩
        rcases Nat.le_total left data.length with hl | hl
        · rw [Nat.min_eq_left hl] at h2
          omega
        · rw [Nat.min_eq_right hl] at h1
          exact h1 (List.drop_length)
  | chunks m =>
    unfold stepO at he hp ⊢
    dsimp only at he hp ⊢
    by_cases h0 : (ans m data).2.2.2 ≠ 0
    · rw [if_pos h0] at hp
      cases hp
    · rw [if_neg h0] at hp ⊢
      by_cases h1 : (ans m data).1 = [] ∧ (ans m data).2.2.1 = true
      · rw [if_pos h1]
        dsimp only [rank]
        split <;> omega
      · rw [if_neg h1] at hp ⊢
        dsimp only at hp ⊢
        have ha : (ans m data).1 ≠ [] := fun e => by
          rw [tell_none.2 e] at hp
          cases hp
        have hd : data ≠ [] ∧ stop m = false := by
          refine ⟨fun e => ?_, ?_⟩
          · have := (ans_used m data)
            rw [e] at this
            have h3 : (ans m []).1.length = 0 := by simp only [List.length_nil] at this; omega
            rw [e] at ha
            exact ha (List.length_eq_zero_iff.1 h3)
          · cases hs : stop m with
            | false => rfl
            | true =>
              exfalso
              apply ha
              unfold ans
              rw [run_stop hs]
              split <;> rfl
        dsimp only [rank]
        rw [if_pos hd, if_neg]
        · omega
        · rintro ⟨h2, h3⟩
          apply h2
          have hu := (run_used m data).2.2 h3
          have : (ans m data).2.1 = (run m data).2.2 := by
            unfold ans
            unfold next at h3
            cases hp2 : (run m data).1.ph <;> simp_all [stop]
          rw [this, hu]
          exact List.drop_length
  | all =>
    unfold stepO at he hp ⊢
    dsimp only at he hp ⊢
    by_cases h0 : data = [] ∧ gone = true
    · rw [if_pos h0]
      dsimp only [rank]
      split <;> omega
    · rw [if_neg h0] at hp ⊢
      dsimp only at hp ⊢
      have hd : data ≠ [] := fun e => by
        rw [tell_none.2 e] at hp
        cases hp
      dsimp only [rank]
      rw [if_pos hd, if_neg]
      · omega
      · rw [List.drop_length]
        exact fun x => x rfl
  | fin =>
    unfold stepO
    dsimp only [rank]
    omega
  | nothing => unfold stepO at hp; cases hp
  | bad e => unfold stepO at hp; cases hp
/-! ### till it has no more -/
/-- the state, the status, the body and the error behind it -/
abbrev Sum := St × Int × List UInt8 × Int
def drainO (meth : List UInt8) : Nat → St → Int → List UInt8 → Sum
  | 0, s, c, b => (s, c, b, 0)
  | k + 1, s, c, b => match nextO meth s with
    | (.none, e, s') => (s', c, b, e)
    | (.head h, _, s') => drainO meth k s' h.status b
    | (.data d, _, s') => drainO meth k s' c (b ++ d)
    | (.fin, _, s') => drainO meth k s' c b
def drain (meth : List UInt8) (s : St) (c : Int) (b : List UInt8) : Sum := drainO meth 4 s c b
def turn (meth : List UInt8) (q : Sum) (x : List UInt8) : Sum := drain meth (feedO q.1 x) q.2.1 q.2.2.1
def sum0 : Sum := (st0, 0, [], 0)
def fed (meth : List UInt8) (P : List (List UInt8)) : Sum := P.foldl (turn meth) sum0
def told (meth : List UInt8) (P : List (List UInt8)) (fin : Bool) : Sum := drain meth (if fin = true then endO (fed meth P).1 else (fed meth P).1) (fed meth P).2.1 (fed meth P).2.2.1
/-- bytes that are not used, and the bytes of a piece -/
def bulkP : Pc → Nat
  | .data d => d.length
  | _ => 0
theorem heads_len (D : List UInt8) : (headsOf D).2.length ≤ D.length := (heads_is D.length D (Nat.le_refl _)).2.1
theorem step_bulk (meth : List UInt8) (s : St) : (stepO meth s).2.2.2.data.length ≤ s.data.length ∧ bulkP (stepO meth s).1 ≤ (stepO meth s).2.1 ∧ (stepO meth s).2.1 ≤ (stepO meth s).2.2.2.data.length := by
  obtain ⟨md, data, gone, kind, kept⟩ := s
  have hh := heads_len data
  cases md with
  | head =>
    unfold stepO
    dsimp only
    split
    · rename_i r hr; rw [hr] at hh; exact ⟨hh, Nat.le_refl _, Nat.zero_le _⟩
    · rename_i r hr; rw [hr] at hh; exact ⟨hh, Nat.le_refl _, Nat.zero_le _⟩
    · rename_i h n r hr
      have h1 := (heads_is data.length data (Nat.le_refl _)).1
      rw [hr] at hh h1
      have h2 := (read_front true _ _ _ h1).1
      split
      · exact ⟨hh, Nat.zero_le _, h2⟩
      · exact ⟨hh, Nat.zero_le _, Nat.zero_le _⟩
  | len left =>
    unfold stepO
    dsimp only
    split
    · exact ⟨Nat.le_refl _, Nat.zero_le _, Nat.zero_le _⟩
    · refine ⟨Nat.le_refl _, ?_, by rw [List.length_take]; exact Nat.min_le_right _ _⟩
      unfold tell
      split
      · exact Nat.zero_le _
      · exact Nat.le_refl _
  | chunks m =>
    unfold stepO
    dsimp only
    have hu := ans_used m data
    split
    · exact ⟨Nat.le_refl _, Nat.zero_le _, Nat.zero_le _⟩
    · split
      · exact ⟨Nat.le_refl _, Nat.zero_le _, hu.1⟩
      · refine ⟨Nat.le_refl _, ?_, hu.1⟩
        unfold tell
        split
        · exact Nat.zero_le _
        · exact hu.2.1
  | all =>
    unfold stepO
    dsimp only
    split
    · exact ⟨Nat.le_refl _, Nat.zero_le _, Nat.zero_le _⟩
    · refine ⟨Nat.le_refl _, ?_, Nat.le_refl _⟩
      unfold tell
      split
      · exact Nat.zero_le _
      · exact Nat.le_refl _
  | fin => exact ⟨Nat.le_refl _, Nat.zero_le _, Nat.zero_le _⟩
  | nothing => exact ⟨Nat.le_refl _, Nat.zero_le _, Nat.zero_le _⟩
  | bad e => exact ⟨Nat.le_refl _, Nat.zero_le _, Nat.zero_le _⟩
theorem next_bulk (meth : List UInt8) (s : St) : bulkP (nextO meth s).1 + (nextO meth s).2.2.data.length ≤ s.data.length := by
  obtain ⟨h1, h2, h3⟩ := step_bulk meth s
  unfold nextO
  split
  · show 0 + (stepO meth s).2.2.2.data.length ≤ _
    omega
  · show bulkP (stepO meth s).1 + ((stepO meth s).2.2.2.data.drop (stepO meth s).2.1).length ≤ _
    rw [List.length_drop]
    omega
theorem drain_bulk (meth : List UInt8) : ∀ (k : Nat) (s : St) (c : Int) (b : List UInt8), (drainO meth k s c b).2.2.1.length + (drainO meth k s c b).1.data.length ≤ b.length + s.data.length := by
  intro k
  induction k with
  | zero => intro s c b; exact Nat.le_refl _
  | succ k ih =>
    intro s c b
    have h := next_bulk meth s
    unfold drainO
    split
    · rename_i e s' hn
      rw [hn] at h
      dsimp only [bulkP] at h ⊢
      omega
    · rename_i hd e s' hn
      rw [hn] at h
      have := ih s' hd.status b
      dsimp only [bulkP] at h
      omega
    · rename_i d e s' hn
      rw [hn] at h
      have := ih s' c (b ++ d)
      rw [List.length_append] at this
      dsimp only [bulkP] at h
      omega
    · rename_i e s' hn
      rw [hn] at h
      have := ih s' c b
      dsimp only [bulkP] at h
      omega
theorem tell_some {d x : List UInt8} (h : tell d = .data x) : x ≠ [] := by
  unfold tell at h
  split at h
  · cases h
  · rename_i hd; injection h with h; rw [← h]; exact hd
theorem step_data {meth : List UInt8} {s : St} {d : List UInt8} (h : (stepO meth s).1 = .data d) : d ≠ [] := by
  unfold stepO at h
  split at h
  · split at h
    · cases h
    · cases h
    · split at h <;> cases h
  · split at h
    · cases h
    · exact tell_some h
  · split at h
    · cases h
    · split at h
      · cases h
      · exact tell_some h
  · split at h
    · cases h
    · exact tell_some h
  · cases h
  · cases h
  · cases h
theorem data_some {meth : List UInt8} {s : St} (_h : isN (nextO meth s).1 = false) : ∀ d, (nextO meth s).1 = .data d → d ≠ [] := fun d hd => by
  unfold nextO at hd
  split at hd
  · cases hd
  · exact step_data hd
end Go.Proofs.YtblpooddamkfdaaGreatDoor.OutPure

/- Layer 12: a response's head that is read is short, its fields are few, its status has three digits. No program is named. -/
namespace Go.Proofs.YtblpooddamkfdaaGreatDoor.OutFew
open LexPure LexNum Bytes FieldsPure HeadPure FramePure Flds OutPure
set_option maxRecDepth 20000
def short (f : HField) : Prop := f.1.length ≤ 512 ∧ f.2.length ≤ 512
theorem trim_len (l : List UInt8) : (trim l).length ≤ l.length := trim_length l
theorem field_short (l : List UInt8) (h : l.length ≤ 512) : short (field8 l).1 := by
  unfold field8
  split
  · refine ⟨?_, ?_⟩
    · have : (nameB l).length ≤ l.length := (List.takeWhile_prefix _).length_le
      show (nameB l).length ≤ 512
      omega
    · have h1 := trim_len (l.drop ((nameB l).length + 1))
      rw [List.length_drop] at h1
      show (trim _).length ≤ 512
      omega
  · exact ⟨Nat.zero_le _, Nat.zero_le _⟩
theorem fields_few (h : H8) : ∀ (m : Nat) (acc : List HField) (a : Nat) (s : List UInt8) (h' : H8) (n : Nat), fields8 h m acc a s = .done h' n → (∀ f ∈ acc, short f) →
    h'.status = h.status ∧ ∀ f ∈ h'.fields, short f := by
  intro m
  induction m with
  | zero =>
    intro acc a s h' n hd ha
    unfold fields8 at hd
    cases hs : scan 512 83 0 s with
    | wait => rw [hs] at hd; cases hd
    | bad e => rw [hs] at hd; cases hd
    | whole k =>
      rw [hs] at hd
      dsimp only at hd
      by_cases hk : k = 0
      · rw [if_pos hk] at hd
        injection hd with e1 e2
        subst e1
        exact ⟨rfl, ha⟩
      · rw [if_neg hk] at hd
        cases hd
  | succ m ih =>
    intro acc a s h' n hd ha
    unfold fields8 at hd
    cases hs : scan 512 83 0 s with
    | wait => rw [hs] at hd; cases hd
    | bad e => rw [hs] at hd; cases hd
    | whole k =>
      rw [hs] at hd
      dsimp only at hd
      by_cases hk : k = 0
      · rw [if_pos hk] at hd
        injection hd with e1 e2
        subst e1
        exact ⟨rfl, ha⟩
      · rw [if_neg hk] at hd
        by_cases hf : (field8 (s.take k)).2 = 0
        · rw [if_pos hf] at hd
          obtain ⟨l, q, e, hk2, _, hb⟩ := scan_whole 512 83 s 0 k hs
          have hkl : k ≤ 512 := by omega
          exact ih _ _ _ _ _ hd (fun f hf => by
            rcases List.mem_append.1 hf with hf | hf
            · exact ha f hf
            · rw [List.mem_singleton] at hf
              rw [hf]
              exact field_short _ (by rw [List.length_take]; omega))
        · rw [if_neg hf] at hd
          cases hd
theorem status_range (l : List UInt8) (h : (status8 l).2 = 0) : 100 ≤ (status8 l).1.status ∧ (status8 l).1.status < 600 := by
  unfold status8 at h ⊢
  split
  · rename_i hc
    rw [if_pos hc] at h
    dsimp only at h ⊢
    split
    · exact ⟨hc.2.2.2.1, hc.2.2.2.2.1⟩
    · rename_i hv
      rw [if_neg hv] at h
      exact absurd h hv
  · rename_i hc
    rw [if_neg hc] at h
    cases h
theorem resp_few {s : List UInt8} {h : H8} {n : Nat} (hd : read8 true s = .done h n) : 100 ≤ h.status ∧ h.status < 600 ∧ Few h.fields := by
  unfold read8 from8 at hd
  split at hd
  · cases hd
  · cases hd
  · rename_i k hs
    dsimp only at hd
    rw [if_pos rfl] at hd
    split at hd
    · rename_i h0
      obtain ⟨h1, h2⟩ := fields_few _ _ _ _ _ _ _ hd (fun f hf => by cases hf)
      have hr := status_range _ h0
      refine ⟨by rw [h1]; exact hr.1, by rw [h1]; exact hr.2, fun j hj => ?_⟩
      have := h2 _ (List.getElem_mem hj)
      exact ⟨by have := this.1; omega, by have := this.2; omega⟩
    · cases hd
/-- lengths are small -/
theorem numR_most (p : List UInt8) : numR 10 15 p ≤ 999999999999999 := by
  unfold numR
  split
  · rename_i h
    unfold numOk at h
    rw [Bool.and_eq_true, Bool.and_eq_true] at h
    have h1 := numV_lt 10 p h.2
    have h2 := of_decide_eq_true h.1.2
    have h3 : 10 ^ p.length ≤ 10 ^ 15 := Nat.pow_le_pow_right (by decide) (by omega)
    have h4 : (10 : Nat) ^ 15 = 1000000000000000 := by decide
    omega
  · omega
theorem len_most : ∀ (l : List (List UInt8)) (n : Int), n ≤ 999999999999999 → lenFrom n l ≤ 999999999999999 := by
  intro l
  induction l with
  | nil => intro n h; exact h
  | cons p l ih =>
    intro n h
    unfold lenFrom lenStep
    by_cases hc : numOk 10 15 p = true ∧ (n < 0 ∨ numR 10 15 p = n)
    · rw [if_pos hc]
      exact ih _ (numR_most p)
    · rw [if_neg hc]
      show (-1 : Int) ≤ _
      decide
theorem resp_len (meth : List UInt8) (st minor : Int) (G : List HField) : (response9 meth st minor G).2.1 ≤ 999999999999999 ∧ ((response9 meth st minor G).2.2 = 0 → 0 ≤ (response9 meth st minor G).2.1) := by
  have h := len_most (lens G) (-1) (by decide)
  have h2 : lenFrom (-1) (lens G) = lenN G := rfl
  rw [h2] at h
  unfold response9
  (repeat' split) <;> dsimp only <;> first | (constructor <;> omega) | exact ⟨by omega, fun e => by omega⟩
end Go.Proofs.YtblpooddamkfdaaGreatDoor.OutFew

/- The document's layer 12, where the whole of a good response has come: its reader in memory. -/
namespace Go.Proofs.YtblpooddamkfdaaGreatDoor.R12Box
open Go.ChangeShapes Go.WideShapes Go.ChangeAt Go.RowKit Bytes LexPure FieldsPure HeadPure FramePure Flds HBox Mem KeptRow
set_option maxRecDepth 100000
set_option linter.unusedVariables false
set_option linter.unusedSimpArgs false
abbrev RT : TypeId := 48
abbrev PT : TypeId := 50
abbrev HT : TypeId := 25
/-- the reader's cells: what it was told is whole, it isn't closed, it knows of no error -/
def rcs (m A : ByteArray) (hd : Bool) (told : Int) (dn : Bool) (us : Int) : Array Value := #[.string m, .string A, .bool false, .bool hd, .int .i64 told, .bool dn, .int .i64 0, .int .i64 us]
/-- a piece's cells -/
def pcs (k : Int) (h : H8) (l : Value) (d : ByteArray) : Array Value := #[.int .i64 k, .string (ofL h.method), .string (ofL h.target), .int .i64 h.status, .string (ofL h.reason), .int .i64 h.minor, l, .string d]
/-- all bytes are one good response: its head and then b -/
structure Whole12 (m A : ByteArray) (h : H8) (n0 : Nat) (K L : Int) (b : List UInt8) : Prop where
  read : read8 true (toL A) = .done h n0
  pos : 0 < n0
  resp : response9 (toL m) h.status h.minor h.fields = (K, L, 0)
  kind : (K = 2 ∧ L = b.length) ∨ (K = 1 ∧ b = [])
  status : 200 ≤ h.status
  few : Few h.fields
  len : h.fields.length ≤ 32
  all : ∃ hd : List UInt8, toL A = hd ++ b ∧ hd.length = n0
  size : A.size ≤ 70368744177664
theorem Whole12.bytes {m A : ByteArray} {h : H8} {n0 : Nat} {K L : Int} {b : List UInt8} (g : Whole12 m A h n0 K L b) : A.size = n0 + b.length := by
  obtain ⟨hd, e, hl⟩ := g.all
  have := congrArg List.length e
  rw [toL_length, List.length_append, hl] at this
  exact this
theorem Whole12.cut {m A : ByteArray} {h : H8} {n0 : Nat} {K L : Int} {b : List UInt8} (g : Whole12 m A h n0 K L b) : A.extract n0 A.size = ofL b := by
  obtain ⟨hd, e, hl⟩ := g.all
  apply toL_inj
  rw [toL_ofL, toL_extract, e]
  have hs := g.bytes
  rw [show A.size = (hd ++ b).length by rw [List.length_append, hl]; omega, List.take_length, ← hl, List.drop_left]
theorem rd_cells {w : World} {g : Nat} {m A : ByteArray} {hd dn : Bool} {told us : Int} (h : Has w g RT (rcs m A hd told dn us)) : w.cell? ⟨g, 0, none⟩ = some (.string m) ∧ w.cell? ⟨g, 1, none⟩ = some (.string A) ∧ w.cell? ⟨g, 2, none⟩ = some (.bool false) ∧ w.cell? ⟨g, 3, none⟩ = some (.bool hd) ∧
    w.cell? ⟨g, 4, none⟩ = some (.int .i64 told) ∧ w.cell? ⟨g, 5, none⟩ = some (.bool dn) ∧ w.cell? ⟨g, 6, none⟩ = some (.int .i64 0) ∧ w.cell? ⟨g, 7, none⟩ = some (.int .i64 us) :=
  ⟨h.cell 0, h.cell 1, h.cell 2, h.cell 3, h.cell 4, h.cell 5, h.cell 6, h.cell 7⟩
theorem rd_frees {w : World} {g : Nat} {cs : Array Value} (h : Has w g RT cs) : w.frozen? ⟨g, 3, none⟩ = false ∧ w.frozen? ⟨g, 4, none⟩ = false ∧ w.frozen? ⟨g, 5, none⟩ = false ∧ w.frozen? ⟨g, 6, none⟩ = false ∧ w.frozen? ⟨g, 7, none⟩ = false :=
  ⟨h.free 3, h.free 4, h.free 5, h.free 6, h.free 7⟩
theorem has_setRow {w : World} {g : Nat} {T : TypeId} {old : Array Value} (h : Has w g T old) (cs : Array Value) : Has (w.setRow g cs) g T cs := ⟨setRow_heap w g old cs T (0, 0) h.at_⟩
theorem row_setRow {w : World} {base n size g : Nat} {e : TypeId} {v : Value} {xs : List Value} (h : w.ownsRow base e size v n xs) (hg : g < base) (cs : Array Value) : (w.setRow g cs).ownsRow base e size v n xs := by
  refine ⟨h.1, ?_⟩
  rcases h.2 with hx | ⟨k, cap, cur, rfl, hb, hk, rest⟩
  · exact .inl hx
  · exact .inr ⟨k, cap, cur, rfl, hb, (setRow_other w g k cs (by omega)).trans hk, rest⟩
theorem below_setRow {w w' : World} {B g : Nat} (h : Below B w w') (hg : B ≤ g) (cs : Array Value) : Below B w (w'.setRow g cs) :=
  ⟨h.os, h.tape, h.output, by rw [setRow_size]; exact h.size, fun i hi => (setRow_other w' g i cs (by omega)).trans (h.block i hi)⟩
theorem far_setRow {w : World} {g k : Nat} {T : TypeId} {cs : Array Value} (h : Has w k T cs) (hk : k ≠ g) (x : Array Value) : Has (w.setRow g x) k T cs := ⟨(setRow_other w g k x hk).trans h.at_⟩
theorem results_cell_tmp3 {fn : Func} {p t u v : Tmp} {ty : TypeId} (h : fn.results = #[.cell p ty, .tmp t, .tmp u, .tmp v]) (tmps : Array Value) (P : Program) (w : World) :
    (results fn tmps).run P w =
      ((asAddr (tmps.getD p undef)).run P w).andThen fun a w₁ => ((loadVar ty a).run P w₁).andThen fun x w₂ => .ok (.tuple #[x, tmps.getD t undef, tmps.getD u undef, tmps.getD v undef]) w₂ := by
  simp only [results, h]
  simp [Sem.run_bind, Result.andThen]
end Go.Proofs.YtblpooddamkfdaaGreatDoor.R12Box

/- Layer 8: a head that is read is short, and its fields are few. No program is named. -/
namespace Go.Proofs.YtblpooddamkfdaaGreatDoor.HeadFew
open LexPure Bytes FieldsPure HeadPure HostPure TargetPure FramePure ChunkPure InflowPure
set_option maxRecDepth 20000
def short (f : HField) : Prop := f.1.length ≤ 512 ∧ f.2.length ≤ 512
theorem field_short (l : List UInt8) (h : l.length ≤ 512) : short (field8 l).1 := by
  unfold field8
  split
  · refine ⟨?_, ?_⟩
    · have : (nameB l).length ≤ l.length := (List.takeWhile_prefix _).length_le
      show (nameB l).length ≤ 512
      omega
    · have h1 := trim_length (l.drop ((nameB l).length + 1))
      rw [List.length_drop] at h1
      show (trim _).length ≤ 512
      omega
  · exact ⟨Nat.zero_le _, Nat.zero_le _⟩
theorem fields_few (h : H8) : ∀ (m : Nat) (acc : List HField) (a : Nat) (s : List UInt8) (h' : H8) (n : Nat), fields8 h m acc a s = .done h' n → (∀ f ∈ acc, short f) →
    a + 2 ≤ n ∧ h'.fields.length ≤ acc.length + m ∧ ∀ f ∈ h'.fields, short f := by
  intro m
  induction m with
  | zero =>
    intro acc a s h' n hd ha
    unfold fields8 at hd
    cases hs : scan 512 83 0 s with
    | wait => rw [hs] at hd; cases hd
    | bad e => rw [hs] at hd; cases hd
    | whole k =>
      rw [hs] at hd
      dsimp only at hd
      by_cases hk : k = 0
      · rw [if_pos hk] at hd
        injection hd with e1 e2
        subst e1
        exact ⟨by omega, Nat.le_refl _, ha⟩
      · rw [if_neg hk] at hd
        cases hd
  | succ m ih =>
    intro acc a s h' n hd ha
    unfold fields8 at hd
    cases hs : scan 512 83 0 s with
    | wait => rw [hs] at hd; cases hd
    | bad e => rw [hs] at hd; cases hd
    | whole k =>
      rw [hs] at hd
      dsimp only at hd
      by_cases hk : k = 0
      · rw [if_pos hk] at hd
        injection hd with e1 e2
        subst e1
        exact ⟨by omega, by show acc.length ≤ _; omega, ha⟩
      · rw [if_neg hk] at hd
        by_cases hf : (field8 (s.take k)).2 = 0
        · rw [if_pos hf] at hd
          obtain ⟨l, q, e, hk2, _, hb⟩ := scan_whole 512 83 s 0 k hs
          have hkl : k ≤ 512 := by omega
          obtain ⟨h1, h2, h3⟩ := ih _ _ _ _ _ hd (fun f hf => by
            rcases List.mem_append.1 hf with hf | hf
            · exact ha f hf
            · rw [List.mem_singleton] at hf
              subst hf
              exact field_short _ (by rw [List.length_take]; omega))
          refine ⟨by omega, ?_, h3⟩
          rw [List.length_append, List.length_singleton] at h2
          omega
        · rw [if_neg hf] at hd
          cases hd
/-- what a head that is read says -/
theorem read_few {s : List UInt8} {h : H8} {n : Nat} (hd : read8 false s = .done h n) : 5 ≤ n ∧ h.fields.length ≤ 32 ∧ ∀ f ∈ h.fields, short f := by
  unfold read8 skipOf at hd
  simp only [Bool.false_eq_true, if_false] at hd
  unfold from8 at hd
  cases hs : scan 1100 82 0 (s.drop (skip8 s)) with
  | wait => rw [hs] at hd; cases hd
  | bad e => rw [hs] at hd; cases hd
  | whole k =>
    rw [hs] at hd
    simp only [Bool.false_eq_true, if_false] at hd
    by_cases hx : (start8 ((s.drop (skip8 s)).take k)).2 = 0
    · rw [if_pos hx] at hd
      have hk : k ≠ 0 := by
        intro e
        rw [e, List.take_zero] at hx
        exact absurd hx start_nil
      obtain ⟨h1, h2, h3⟩ := fields_few _ _ _ _ _ _ _ hd (fun f hf => by cases hf)
      exact ⟨by omega, by simpa using h2, h3⟩
    · rw [if_neg hx] at hd
      cases hd
theorem rest_head {h : H8} {n : Nat} {most : Int} {D : List UInt8} {q : Rq} {m : Nat} (e : rest11 h n most D = .whole q m) : q.head = h ∧ n ≤ m := by
  have hm := (rest_say (h := h) (n := n) (most := most) (D := D)).2 q m e
  refine ⟨?_, hm.1⟩
  unfold rest11 at e
  split at e
  · cases e
  split at e
  · cases e
  split at e
  · cases e
  split at e
  · cases e
  split at e
  · cases e
  unfold body11 at e
  split at e
  · injection e with e1 _; rw [← e1]
  split at e
  · split at e
    · cases e
    · injection e with e1 _; rw [← e1]
  split at e
  · cases e
  split at e
  · injection e with e1 _; rw [← e1]
  · cases e
theorem whole_few {most : Int} {D : List UInt8} {q : Rq} {n : Nat} (h : read11 most D = .whole q n) : 5 ≤ n ∧ q.head.fields.length ≤ 32 ∧ ∀ f ∈ q.head.fields, short f := by
  unfold read11 at h
  cases hr : read8 false D with
  | wait => rw [hr] at h; cases h
  | bad e => rw [hr] at h; cases h
  | done hd k =>
    rw [hr] at h
    obtain ⟨e1, e2⟩ := rest_head h
    obtain ⟨h1, h2, h3⟩ := read_few hr
    rw [e1]
    exact ⟨by omega, h2, h3⟩
theorem all_count (most : Int) : ∀ (N : Nat) (D : List UInt8), D.length ≤ N → 5 * (allOf most D).1.length ≤ D.length
  | N, D, hN => by
    rw [allOf_step]
    cases hr : read11 most D with
    | wait => exact Nat.zero_le _
    | fail s => exact Nat.zero_le _
    | whole q n =>
      have hn := read11_say.2 q n hr
      have h5 := (whole_few hr).1
      match N, hN with
      | 0, hN => omega
      | N + 1, hN =>
        have ih := all_count most N (D.drop n) (by rw [List.length_drop]; omega)
        dsimp only
        rw [List.length_drop] at ih
        rw [List.length_cons]
        omega
theorem all_mem (most : Int) : ∀ (N : Nat) (D : List UInt8), D.length ≤ N → ∀ q ∈ (allOf most D).1, ∃ E n, read11 most E = .whole q n
  | N, D, hN => by
    rw [allOf_step]
    cases hr : read11 most D with
    | wait => intro q hq; cases hq
    | fail s => intro q hq; cases hq
    | whole q0 n =>
      have hn := read11_say.2 q0 n hr
      match N, hN with
      | 0, hN => omega
      | N + 1, hN =>
        have ih := all_mem most N (D.drop n) (by rw [List.length_drop]; omega)
        intro q hq
        dsimp only at hq
        rcases List.mem_cons.1 hq with rfl | hq
        · exact ⟨D, n, hr⟩
        · exact ih q hq
end Go.Proofs.YtblpooddamkfdaaGreatDoor.HeadFew

/- Layer 11, the document's own Read: what it answers (its chunks are judged line by line). No program is named. -/
namespace Go.Proofs.YtblpooddamkfdaaGreatDoor.R11D
open Bytes LexPure FieldsPure HeadPure FramePure TargetPure InflowPure
set_option maxRecDepth 20000
inductive RIn where
  | wait
  | fail (s : Int)
  | whole (q : Rq) (n : Int)
def chunkD (most : Int) (D : List UInt8) : List UInt8 × Int × Int := ChunkRead.readP (DChunkPure.ans (DChunkPure.begin_ most) D)
def bodyD (q : Rq) (n : Nat) (kind len most : Int) (D : List UInt8) : RIn :=
  if kind = 1 then .whole q n
  else if kind = 2 then (if (D.length : Int) < len then .wait else .whole { q with body := D.take len.toNat } (n + len))
  else if (chunkD most D).2.2 ≠ 0 then .fail (status11 (chunkD most D).2.2)
  else if (chunkD most D).2.1 < 0 then .wait
  else .whole { q with body := (chunkD most D).1 } (n + (chunkD most D).2.1)
def restD (h : H8) (n : Nat) (most : Int) (D : List UInt8) : RIn :=
  if (parse6 h.method h.target).2 ≠ 0 then .fail 400
  else match host11 h (parse6 h.method h.target).1 with
    | none => .fail 400
    | some (hn, hp) =>
      if 0 < getN h.fields EXPECT then .fail 417
      else if (request9 h.minor h.fields most).2.2 ≠ 0 then .fail (status11 (request9 h.minor h.fields most).2.2)
      else if h.method = TargetPure.CONNECT ∧ (request9 h.minor h.fields most).1 ≠ 1 then .fail 400
      else bodyD ⟨h, (parse6 h.method h.target).1, hn, hp, [], decide ((request9 h.minor h.fields most).1 ≠ 1), keep9 h.minor h.fields, up11 h (request9 h.minor h.fields most).1⟩ n (request9 h.minor h.fields most).1 (request9 h.minor h.fields most).2.1 most D
def readD (most : Int) (D : List UInt8) : RIn :=
  match read8 false D with
  | .wait => .wait
  | .bad e => .fail (status11 e)
  | .done h n => restD h n most (D.drop n)
theorem chunk_end (most : Int) (D : List UInt8) : (chunkD most D).2.1 ≤ D.length ∧ (chunkD most D).1.length ≤ D.length := by
  have h := DChunkPure.ans_used (DChunkPure.begin_ most) D
  unfold chunkD ChunkRead.readP
  dsimp only
  refine ⟨?_, by omega⟩
  split <;> omega
theorem kinds {minor : Int} {G : List HField} {most K L : Int} (h : request9 minor G most = (K, L, 0)) : (K = 1 ∧ L = 0) ∨ (K = 2 ∧ 0 ≤ L ∧ L ≤ most) ∨ (K = 3 ∧ L = 0) := by
  unfold request9 at h
  by_cases h1 : 0 < getN G TENC
  · rw [if_pos h1] at h
    by_cases h2 : minor = 0 ∨ 0 < getN G CLEN ∨ codeN (elems G TENC) = 3
    · rw [if_pos h2] at h
      simp at h
    · rw [if_neg h2] at h
      by_cases h3 : codeN (elems G TENC) = 2
      · rw [if_pos h3] at h
        simp at h
      · rw [if_neg h3] at h
        simp at h
        omega
  · rw [if_neg h1] at h
    by_cases h2 : getN G CLEN = 0
    · rw [if_pos h2] at h
      simp at h
      omega
    · rw [if_neg h2] at h
      by_cases h3 : lenN G < 0
      · rw [if_pos h3] at h
        simp at h
      · rw [if_neg h3] at h
        by_cases h4 : most < lenN G
        · rw [if_pos h4] at h
          simp at h
        · rw [if_neg h4] at h
          simp at h
          omega
end Go.Proofs.YtblpooddamkfdaaGreatDoor.R11D

/- Layer 8, lines cut at blanks, at a dot, at a colon: another way to the same answers. No program is named. -/
namespace Go.Proofs.YtblpooddamkfdaaGreatDoor.HeadCut
open Bytes LexPure LexNum FieldsPure HeadPure CutAt
set_option maxRecDepth 20000
theorem cut_drop (x : UInt8) : ∀ s : List UInt8, behind x s = s.drop ((aheadOf x s).length + 1)
  | [] => rfl
  | c :: s => by
    unfold behind aheadOf
    rw [List.dropWhile_cons, List.takeWhile_cons]
    split
    · rw [List.length_cons, List.drop_succ_cons]
      exact cut_drop x s
    · rfl
theorem ahead_take (x : UInt8) : ∀ s : List UInt8, aheadOf x s = s.take (aheadOf x s).length
  | [] => rfl
  | c :: s => by
    unfold aheadOf
    rw [List.takeWhile_cons]
    split
    · rw [List.length_cons, List.take_succ_cons]
      exact congrArg _ (ahead_take x s)
    · rfl
theorem cut_at {x : UInt8} {b : List UInt8} : ∀ {a : List UInt8}, (∀ c ∈ a, c ≠ x) → aheadOf x (a ++ x :: b) = a ∧ behind x (a ++ x :: b) = b ∧ hasB x (a ++ x :: b) = true
  | [], _ => by simp [aheadOf, behind, hasB]
  | c :: a, h => by
    have hc : (c != x) = true := bne_iff_ne.2 (h c (List.mem_cons_self))
    obtain ⟨h1, h2, h3⟩ := cut_at (b := b) (a := a) (fun d hd => h d (List.mem_cons_of_mem _ hd))
    unfold aheadOf behind hasB at *
    rw [List.cons_append, List.takeWhile_cons, if_pos hc, List.dropWhile_cons, if_pos hc, List.any_cons, h1, h2, h3, Bool.or_true]
    exact ⟨rfl, rfl, rfl⟩
theorem cut_none {x : UInt8} : ∀ {a : List UInt8}, (∀ c ∈ a, c ≠ x) → aheadOf x a = a ∧ behind x a = [] ∧ hasB x a = false
  | [], _ => ⟨rfl, rfl, rfl⟩
  | c :: a, h => by
    have hc : (c != x) = true := bne_iff_ne.2 (h c (List.mem_cons_self))
    have hq : (c == x) = false := beq_eq_false_iff_ne.2 (h c (List.mem_cons_self))
    obtain ⟨h1, h2, h3⟩ := cut_none (a := a) (fun d hd => h d (List.mem_cons_of_mem _ hd))
    unfold aheadOf behind hasB at *
    rw [List.takeWhile_cons, if_pos hc, List.dropWhile_cons, if_pos hc, List.any_cons, h1, h2, h3, hq]
    exact ⟨rfl, rfl, rfl⟩
theorem cut_or (x : UInt8) : ∀ s : List UInt8, (∃ a b, s = a ++ x :: b ∧ ∀ c ∈ a, c ≠ x) ∨ (∀ c ∈ s, c ≠ x)
  | [] => .inr (fun c h => by cases h)
  | c :: s => by
    by_cases hc : c = x
    · exact .inl ⟨[], s, by rw [hc]; rfl, fun d h => by cases h⟩
    · rcases cut_or x s with ⟨a, b, h, h2⟩ | h
      · exact .inl ⟨c :: a, b, by rw [h]; rfl, fun d hd => by rcases List.mem_cons.1 hd with rfl | hd; exact hc; exact h2 d hd⟩
      · exact .inr (fun d hd => by rcases List.mem_cons.1 hd with rfl | hd; exact hc; exact h d hd)
theorem dig_digit (c : UInt8) : decide (dig c < 10) = digitB c ∧ (digitB c = true → (dig c : Int) = (c.toNat : Int) - 48 ∧ c ≠ 32) := by
  have := all_bytes (p := fun c => decide (decide (dig c < 10) = digitB c ∧ (digitB c = true → (dig c : Int) = (c.toNat : Int) - 48 ∧ c ≠ 32))) (by decide +kernel) c
  exact of_decide_eq_true this
/-! ### the version -/
theorem one_digit (f : List UInt8) : numOk 10 1 f = true ↔ ∃ a, f = [a] ∧ digitB a = true := by
  unfold numOk
  cases f with
  | nil => simp
  | cons a f =>
    cases f with
    | nil => simp [(dig_digit a).1.symm]
    | cons b f => simp; omega
theorem one_worth {a : UInt8} (h : digitB a = true) : numR 10 1 [a] = (a.toNat : Int) - 48 := by
  unfold numR
  rw [(one_digit [a]).2 ⟨a, rfl, h⟩, ← ((dig_digit a).2 h).1]
  simp [numV]
def HTTPS : List UInt8 := [72, 84, 84, 80, 47]
def verR (s : List UInt8) : List UInt8 := if HTTPS.isPrefixOf s = true then s.drop 5 else s
def verP (s : List UInt8) : Int × Int :=
  if HTTPS.isPrefixOf s = true ∧ numOk 10 1 (aheadOf 46 (verR s)) = true ∧ numOk 10 1 (behind 46 (verR s)) = true then (if numR 10 1 (aheadOf 46 (verR s)) = 1 then (numR 10 1 (behind 46 (verR s)), 0) else (0, 81)) else (0, 80)
theorem version_prog (s : List UInt8) : version8 s = verP s := by
  by_cases h : HTTPS.isPrefixOf s = true ∧ numOk 10 1 (aheadOf 46 (verR s)) = true ∧ numOk 10 1 (behind 46 (verR s)) = true
  · have hv : verR s = s.drop 5 := by unfold verR; rw [if_pos h.1]
    unfold verP
    rw [if_pos h]
    rw [hv] at h ⊢
    obtain ⟨h1, h2, h3⟩ := h
    obtain ⟨a, e2, d2⟩ := (one_digit _).1 h2
    obtain ⟨b, e3, d3⟩ := (one_digit _).1 h3
    obtain ⟨t, ht⟩ := List.isPrefixOf_iff_prefix.1 h1
    have hs : s = HTTPS ++ [a, 46, b] := by
      rw [← ht] at e2 e3 ⊢
      have hd : (HTTPS ++ t).drop 5 = t := rfl
      rw [hd] at e2 e3
      rcases cut_or 46 t with ⟨x, y, hxy, hx⟩ | hx
      · have := cut_at (b := y) hx
        rw [← hxy] at this
        rw [hxy, ← this.1, ← this.2.1, e2, e3]
        rfl
      · rw [(cut_none hx).2.1] at e3
        cases e3
    rw [e2, e3, one_worth d2, one_worth d3, hs]
    show (if _ then _ else _) = _
    rw [if_pos ⟨rfl, rfl, rfl, rfl, rfl, rfl, d2, d3⟩]
    by_cases h1 : a = 49
    · subst h1
      rw [if_pos rfl, if_pos (by decide)]
    · rw [if_neg h1, if_neg]
      intro h
      exact h1 (UInt8.toNat_inj.1 (by show a.toNat = 49; omega))
  · unfold verP
    rw [if_neg h]
    unfold version8
    split
    · rename_i c1 c2 c3 c4 c5 a c6 b
      rw [if_neg]
      rintro ⟨rfl, rfl, rfl, rfl, rfl, rfl, d2, d3⟩
      refine h ⟨rfl, ?_⟩
      have hv : verR [72, 84, 84, 80, 47, a, 46, b] = [a] ++ 46 :: [b] := by
        unfold verR
        rw [if_pos (show HTTPS.isPrefixOf [72, 84, 84, 80, 47, a, 46, b] = true from rfl)]
        rfl
      have ha : ∀ c ∈ [a], c ≠ 46 := by
        intro c hc
        rw [List.mem_singleton] at hc
        subst hc
        intro e
        subst e
        exact absurd d2 (by decide)
      obtain ⟨e1, e2, _⟩ := cut_at (b := [b]) ha
      rw [hv, e1, e2]
      exact ⟨(one_digit _).2 ⟨a, rfl, d2⟩, (one_digit _).2 ⟨b, rfl, d3⟩⟩
    · rfl
/-- a version of its form has eight bytes and no blank -/
theorem version_form {s : List UInt8} (h : (version8 s).2 ≠ 80) : s.length = 8 ∧ ∀ c ∈ s, c ≠ 32 := by
  unfold version8 at h
  split at h
  · rename_i c1 c2 c3 c4 c5 a c6 b
    by_cases hc : c1 = 72 ∧ c2 = 84 ∧ c3 = 84 ∧ c4 = 80 ∧ c5 = 47 ∧ c6 = 46 ∧ digitB a = true ∧ digitB b = true
    · obtain ⟨rfl, rfl, rfl, rfl, rfl, rfl, d2, d3⟩ := hc
      refine ⟨rfl, ?_⟩
      have ha := ((dig_digit a).2 d2).2
      have hb := ((dig_digit b).2 d3).2
      intro c hc
      simp only [List.mem_cons, List.not_mem_nil, or_false] at hc
      rcases hc with rfl | rfl | rfl | rfl | rfl | rfl | rfl | rfl <;> first | exact ha | exact hb | decide
    · rw [if_neg hc] at h
      exact absurd rfl h
  · exact absurd rfl h
theorem version_nil : version8 [] = (0, 80) := rfl
/-! ### the start line -/
def startP (l : List UInt8) : H8 × Int :=
  if (aheadOf 32 l).length ≤ 16 ∧ token (aheadOf 32 l) = true ∧ (aheadOf 32 (behind 32 l)).all seenB = true ∧ aheadOf 32 (behind 32 l) ≠ [] then
    (if (version8 (behind 32 (behind 32 l))).2 = 0 then (⟨aheadOf 32 l, aheadOf 32 (behind 32 l), 0, [], (version8 (behind 32 (behind 32 l))).1, []⟩, 0) else (zero8, (version8 (behind 32 (behind 32 l))).2))
  else (zero8, 80)
theorem start_prog (l : List UInt8) : start8 l = startP l := by
  unfold start8 startP
  rw [show upB l = aheadOf 32 l from rfl, ← cut_drop]
  generalize hr : behind 32 l = r
  simp only
  rw [show upB r = aheadOf 32 r from rfl, ← cut_drop]
  have hlr : (aheadOf 32 l).length < l.length ∨ r = [] := by
    rw [← hr, cut_drop]
    rcases Nat.lt_or_ge (aheadOf 32 l).length l.length with h | h
    · exact .inl h
    · exact .inr (List.drop_eq_nil_of_le (by omega))
  have hlv : (aheadOf 32 r).length < r.length ∨ version8 (behind 32 r) = (0, 80) := by
    rcases Nat.lt_or_ge (aheadOf 32 r).length r.length with h | h
    · exact .inl h
    · exact .inr (by rw [cut_drop, List.drop_eq_nil_of_le (by omega)]; rfl)
  have hpos : 0 < (aheadOf 32 r).length ↔ aheadOf 32 r ≠ [] := List.length_pos_iff
  by_cases h1 : (aheadOf 32 l).length ≤ 16 ∧ token (aheadOf 32 l) = true ∧ (aheadOf 32 r).all seenB = true ∧ aheadOf 32 r ≠ []
  · rw [if_pos h1]
    obtain ⟨a1, a2, a3, a4⟩ := h1
    have hl : (aheadOf 32 l).length < l.length := by
      rcases hlr with h | h
      · exact h
      · rw [h] at a4; exact absurd rfl a4
    rw [if_pos (show (aheadOf 32 l).length < l.length ∧ (aheadOf 32 l).length ≤ 16 ∧ token (aheadOf 32 l) = true from ⟨hl, a1, a2⟩)]
    rcases hlv with h | h
    · rw [if_pos (show (aheadOf 32 r).length < r.length ∧ 0 < (aheadOf 32 r).length ∧ (aheadOf 32 r).all seenB = true from ⟨h, hpos.2 a4, a3⟩)]
    · rw [h]
      simp
  · rw [if_neg h1]
    by_cases h2 : (aheadOf 32 l).length < l.length ∧ (aheadOf 32 l).length ≤ 16 ∧ token (aheadOf 32 l) = true
    · rw [if_pos h2, if_neg]
      rintro ⟨_, b2, b3⟩
      exact h1 ⟨h2.2.1, h2.2.2, b3, hpos.1 b2⟩
    · rw [if_neg h2]
/-! ### the status line -/
theorem plain_blank (c : UInt8) (h : blankB c = true) : plainB c = true := by
  have := all_bytes (p := fun c => !blankB c || plainB c) (by decide +kernel) c
  rw [h] at this
  simpa using this
theorem drop_plain (s : List UInt8) : (s.dropWhile blankB).all plainB = s.all plainB := by
  induction s with
  | nil => rfl
  | cons c s ih =>
    rw [List.dropWhile_cons]
    split
    · rename_i h
      rw [ih, List.all_cons, plain_blank c h, Bool.true_and]
    · rfl
theorem trim_plain (s : List UInt8) : (trim s).all plainB = s.all plainB := by
  unfold trim
  rw [List.all_reverse, drop_plain, List.all_reverse, drop_plain]
theorem value_trim' (s : List UInt8) : value (trim s) = s.all plainB := by
  unfold value
  rw [trim_plain]
  cases h : s.all plainB with
  | false => rfl
  | true =>
    rw [Bool.true_and]
    cases ht : trim s with
    | nil => rfl
    | cons c r =>
      have h1 : blankB c = false := trim_head c r ht
      have h2 : blankB ((c :: r).getLastD 0) = false := by
        rw [List.getLastD_eq_getLast?, ← List.head?_reverse]
        cases hr : (c :: r).reverse with
        | nil => simp at hr
        | cons d t =>
          exact trim_last d t (by rw [ht]; exact hr)
      rw [List.headD_cons, h1, h2]
      rfl
def statusP (l : List UInt8) : H8 × Int :=
  if numOk 10 3 (aheadOf 32 (behind 32 l)) = true ∧ 100 ≤ numR 10 3 (aheadOf 32 (behind 32 l)) ∧ numR 10 3 (aheadOf 32 (behind 32 l)) ≤ 599 ∧ (behind 32 (behind 32 l)).all plainB = true then
    (if (version8 (aheadOf 32 l)).2 = 0 then (⟨[], [], numR 10 3 (aheadOf 32 (behind 32 l)), behind 32 (behind 32 l), (version8 (aheadOf 32 l)).1, []⟩, 0) else (zero8, (version8 (aheadOf 32 l)).2))
  else (zero8, 80)
theorem three_digits {d : List UInt8} (h : numOk 10 3 d = true) (h1 : 100 ≤ numR 10 3 d) : d.length = 3 := by
  unfold numR at h1
  rw [if_pos h] at h1
  unfold numOk at h
  simp only [Bool.and_eq_true, decide_eq_true_eq] at h
  obtain ⟨⟨h2, h3⟩, h4⟩ := h
  have hlt := numV_lt 10 d h4
  rcases (show d.length = 0 ∨ d.length = 1 ∨ d.length = 2 ∨ d.length = 3 by omega) with e | e | e | e
  · rw [e] at hlt; omega
  · rw [e] at hlt; omega
  · rw [e] at hlt; omega
  · exact e
theorem ok_bare {d : List UInt8} (h : numOk 10 3 d = true) : ∀ c ∈ d, c ≠ 32 := by
  unfold numOk at h
  simp only [Bool.and_eq_true] at h
  intro c hc
  have := List.all_eq_true.1 h.2 c hc
  rw [(dig_digit c).1] at this
  exact ((dig_digit c).2 this).2
theorem status_prog (l : List UInt8) : status8 l = statusP l := by
  by_cases hC : 12 ≤ l.length ∧ l[8]? = some 32 ∧ numOk 10 3 ((l.drop 9).take 3) = true ∧ 100 ≤ numR 10 3 ((l.drop 9).take 3) ∧ numR 10 3 ((l.drop 9).take 3) < 600 ∧ (l.length = 12 ∨ l[12]? = some 32) ∧ (l.drop 13).all plainB = true
  · have e8 : status8 l = if (version8 (l.take 8)).2 = 0 then (⟨[], [], numR 10 3 ((l.drop 9).take 3), l.drop 13, (version8 (l.take 8)).1, []⟩, 0) else (zero8, (version8 (l.take 8)).2) := by
      unfold status8
      rw [if_pos hC]
    rw [e8]
    obtain ⟨c1, c2, c3, c4, c5, c6, c7⟩ := hC
    have hl8 : l = l.take 8 ++ 32 :: l.drop 9 := by
      have h8 : 8 < l.length := by omega
      rw [List.getElem?_eq_getElem h8] at c2
      injection c2 with c2
      rw [← c2, ← List.drop_eq_getElem_cons h8, List.take_append_drop]
    by_cases hv : (version8 (l.take 8)).2 = 80
    · -- the version isn't of its form
      rw [hv, if_neg (by decide)]
      unfold statusP
      by_cases hp : numOk 10 3 (aheadOf 32 (behind 32 l)) = true ∧ 100 ≤ numR 10 3 (aheadOf 32 (behind 32 l)) ∧ numR 10 3 (aheadOf 32 (behind 32 l)) ≤ 599 ∧ (behind 32 (behind 32 l)).all plainB = true
      · rw [if_pos hp]
        have hv2 : (version8 (aheadOf 32 l)).2 = 80 := by
          rcases Decidable.em ((version8 (aheadOf 32 l)).2 = 80) with h | h
          · exact h
          · exfalso
            obtain ⟨f1, f2⟩ := version_form h
            have : aheadOf 32 l = l.take 8 := by rw [ahead_take, f1]
            rw [this] at h
            exact h hv
        rw [hv2, if_neg (by decide)]
      · rw [if_neg hp]
    · obtain ⟨_, f2⟩ := version_form hv
      obtain ⟨g1, g2, _⟩ := cut_at (b := l.drop 9) f2
      rw [← hl8] at g1 g2
      have h9 : l.drop 9 = (l.drop 9).take 3 ++ l.drop 12 := by
        conv => lhs; rw [← List.take_append_drop 3 (l.drop 9), List.drop_drop]
      have hb := ok_bare c3
      have hd : aheadOf 32 (l.drop 9) = (l.drop 9).take 3 ∧ behind 32 (l.drop 9) = l.drop 13 := by
        rcases c6 with h | h
        · have e12 : l.drop 12 = [] := List.drop_eq_nil_of_le (by omega)
          have e13 : l.drop 13 = [] := List.drop_eq_nil_of_le (by omega)
          have := cut_none hb
          rw [e12, List.append_nil] at h9
          rw [← h9] at this
          rw [e13, ← h9]
          exact ⟨this.1, this.2.1⟩
        · have h12 : 12 < l.length := by
            rcases Nat.lt_or_ge 12 l.length with h2 | h2
            · exact h2
            · rw [List.getElem?_eq_none h2] at h; cases h
          have e12 : l.drop 12 = 32 :: l.drop 13 := by
            rw [List.getElem?_eq_getElem h12] at h
            injection h with h
            rw [← h, ← List.drop_eq_getElem_cons h12]
          have := cut_at (b := l.drop 13) hb
          rw [← e12, ← h9] at this
          exact ⟨this.1, this.2.1⟩
      unfold statusP
      rw [g2, hd.1, hd.2, g1, if_pos (show numOk 10 3 ((l.drop 9).take 3) = true ∧ 100 ≤ numR 10 3 ((l.drop 9).take 3) ∧ numR 10 3 ((l.drop 9).take 3) ≤ 599 ∧ (l.drop 13).all plainB = true from ⟨c3, c4, by omega, c7⟩)]
  · have e8 : status8 l = (zero8, 80) := by
      unfold status8
      rw [if_neg hC]
    rw [e8]
    unfold statusP
    by_cases hp : numOk 10 3 (aheadOf 32 (behind 32 l)) = true ∧ 100 ≤ numR 10 3 (aheadOf 32 (behind 32 l)) ∧ numR 10 3 (aheadOf 32 (behind 32 l)) ≤ 599 ∧ (behind 32 (behind 32 l)).all plainB = true
    · rw [if_pos hp]
      rcases Decidable.em ((version8 (aheadOf 32 l)).2 = 80) with h | h
      · rw [h, if_neg (by decide)]
      · exfalso
        obtain ⟨f1, f2⟩ := version_form h
        obtain ⟨p1, p2, p3, p4⟩ := hp
        have h3 := three_digits p1 p2
        rcases cut_or 32 l with ⟨a, b, hab, ha⟩ | ha
        · obtain ⟨g1, g2, _⟩ := cut_at (b := b) ha
          rw [← hab] at g1 g2
          rw [g1] at f1
          have hb : b = l.drop 9 := by rw [hab, List.drop_append, f1, List.drop_eq_nil_of_le (by omega)]; rfl
          have hl8 : l[8]? = some 32 := by rw [hab, List.getElem?_append_right (by omega), f1]; rfl
          rw [g2] at p1 p2 p3 p4 h3
          have hbl : l.length = 9 + b.length := by rw [hab, List.length_append, List.length_cons]; omega
          rcases cut_or 32 b with ⟨x, y, hxy, hx⟩ | hx
          · obtain ⟨k1, k2, _⟩ := cut_at (b := y) hx
            rw [← hxy] at k1 k2
            rw [k1] at p1 p2 p3 h3
            rw [k2] at p4
            have e1 : (l.drop 9).take 3 = x := by rw [← hb, hxy, ← h3, List.take_left']; rfl
            have e2 : l.drop 13 = y := by
              rw [show l.drop 13 = (l.drop 9).drop 4 by rw [List.drop_drop], ← hb, hxy, List.drop_append, h3, List.drop_eq_nil_of_le (by omega)]
              rfl
            have e3 : l[12]? = some 32 := by
              rw [show l[12]? = (l.drop 9)[3]? by rw [List.getElem?_drop], ← hb, hxy, List.getElem?_append_right (by omega), h3]
              rfl
            refine hC ⟨?_, hl8, by rw [e1]; exact p1, by rw [e1]; exact p2, by rw [e1]; omega, .inr e3, by rw [e2]; exact p4⟩
            rw [hbl, hxy, List.length_append]
            omega
          · obtain ⟨k1, k2, _⟩ := cut_none hx
            rw [k1] at p1 p2 p3 h3
            have e1 : (l.drop 9).take 3 = b := by rw [← hb, List.take_of_length_le (by omega)]
            have e2 : l.drop 13 = [] := List.drop_eq_nil_of_le (by omega)
            exact hC ⟨by omega, hl8, by rw [e1]; exact p1, by rw [e1]; exact p2, by rw [e1]; omega, .inl (by omega), by rw [e2]; rfl⟩
        · rw [(cut_none ha).2.1] at h3
          cases h3
    · rw [if_neg hp]
/-! ### a field's line -/
def fieldP (l : List UInt8) : HField × Int :=
  if hasB 58 l = true ∧ token (aheadOf 58 l) = true ∧ value (trim (behind 58 l)) = true then ((aheadOf 58 l, trim (behind 58 l)), 0) else (([], []), 70)
theorem field_prog (l : List UInt8) : field8 l = fieldP l := by
  unfold field8 fieldP
  rw [show nameB l = aheadOf 58 l from rfl, ← cut_drop]
  have : (aheadOf 58 l).length < l.length ↔ hasB 58 l = true := by
    rcases cut_or 58 l with ⟨a, b, hab, ha⟩ | ha
    · obtain ⟨g1, _, g3⟩ := cut_at (b := b) ha
      rw [← hab] at g1 g3
      rw [g1, g3, hab, List.length_append, List.length_cons]
      constructor
      · intro; rfl
      · intro; omega
    · obtain ⟨g1, _, g3⟩ := cut_none ha
      rw [g1, g3]
      constructor
      · intro h; omega
      · intro h; cases h
  simp only [this]
end Go.Proofs.YtblpooddamkfdaaGreatDoor.HeadCut

/- Layer 13: how what is written is framed: which fields are there, how often, and what they say. No program is named. -/
namespace Go.Proofs.YtblpooddamkfdaaGreatDoor.EmitBack
open Bytes LexPure LexNum FieldsPure HeadPure HeadWrit HeadCut HeadLines DecN FramePure EmitPure
set_option maxRecDepth 20000
/-! ### how often a field is there -/
theorem getN_cons (f : HField) (G : List HField) (n : List UInt8) : getN (f :: G) n = (if hit n f then 1 else 0) + getN G n := by
  unfold getN
  rw [List.countP_cons]
  omega
theorem getN_nil (n : List UInt8) : getN [] n = 0 := rfl
theorem getN_told (G : List HField) (n : List UInt8) : getN (G.map EmitPure.told) n = getN G n := by
  unfold getN
  rw [List.countP_map]
  rfl
theorem skip_congr {req : Bool} {n m : List UInt8} (h : alike n m = true) : skipE req n = skipE req m := by
  have hc : ∀ x, alike n x = alike m x := fun x => by
    unfold alike
    rw [(alike_iff n m).1 h]
  unfold skipE
  rw [hc, hc, hc, hc, hc]
/-- a name that is left out, or concerns one connection alone, is not told on -/
theorem on_none {req : Bool} {l : List HField} {n : List UInt8} (h : one l n = true ∨ skipE req n = true) : getN (onE req l) n = 0 := by
  unfold getN
  rw [List.countP_eq_zero]
  intro f hf hh
  unfold onE strip at hf
  rw [List.mem_filter, List.mem_filter] at hf
  obtain ⟨⟨_, h1⟩, h2⟩ := hf
  have ha : alike f.1 n = true := hh
  rcases h with h | h
  · rw [one_congr ha, h] at h1
    cases h1
  · rw [skip_congr ha, h] at h2
    cases h2
theorem one_low {l : List HField} {n : List UInt8} (h : fixed.any (fun x => alike x n) = true) : one l n = true := by unfold one; rw [h]; rfl
theorem on_te (req : Bool) (l : List HField) : getN (onE req l) TENC = 0 := on_none (.inl (one_low (by decide)))
theorem on_cl (req : Bool) (l : List HField) : getN (onE req l) CLEN = 0 := on_none (.inr (by cases req <;> decide))
theorem on_conn (req : Bool) (l : List HField) : getN (onE req l) CONNECTION = 0 := on_none (.inl (one_low (by decide)))
theorem on_via (req : Bool) (l : List HField) : getN (onE req l) VIAN = 0 := on_none (.inr (by cases req <;> decide))
theorem on_host (l : List HField) : getN (onE true l) HOSTN = 0 := on_none (.inr (by decide))
theorem on_exp (l : List HField) : getN (onE true l) EXPN = 0 := on_none (.inr (by decide))
theorem on_xff (l : List HField) : getN (onE true l) XFFN = 0 := on_none (.inr (by decide))
theorem on_up (req : Bool) (l : List HField) : getN (onE req l) UPN = 0 := on_none (.inl (one_low (by decide)))
/-! ### elements and lengths where a field is there not at all, or once -/
theorem filter_none {G : List HField} {n : List UInt8} (h : getN G n = 0) : G.filter (hit n) = [] := by
  unfold getN at h
  rw [List.countP_eq_length_filter] at h
  exact List.eq_nil_of_length_eq_zero h
theorem elems_append (a b : List HField) (n : List UInt8) : elems (a ++ b) n = elems a n ++ elems b n := by
  unfold elems
  rw [List.filter_append, List.flatMap_append]
theorem elems_none {G : List HField} {n : List UInt8} (h : getN G n = 0) : elems G n = [] := by
  unfold elems
  rw [filter_none h]
  rfl
theorem lens_append (a b : List HField) : lens (a ++ b) = lens a ++ lens b := by
  unfold lens
  rw [List.filter_append, List.flatMap_append]
theorem lens_none {G : List HField} (h : getN G CLEN = 0) : lens G = [] := by
  unfold lens
  rw [filter_none h]
  rfl
theorem len_said {n : Nat} (h : n < 1000000000000000) : lenFrom (-1) [decN n] = n := by
  obtain ⟨h1, h2⟩ := dec_num h
  unfold lenFrom lenStep
  rw [if_pos ⟨h1, .inl (by omega)⟩]
  exact h2
/-! ### a reply with its length -/
/-- what stands behind Via in a reply that is framed by its length and asks for no upgrade -/
def restR (n : Nat) (keep : Bool) : List HField := (CLN, decN n) :: (if keep then [] else [(CONN, CLOSEV)])
theorem replyF_local (status : Int) (reason : List UInt8) (l : List HField) (n : Nat) (keep : Bool) :
    replyF ⟨status, reason, l, 2, n, keep, []⟩ = onE false l ++ ((VIAN, joinV l VIAN BARB) :: restR n keep) := by
  unfold replyF restR decZ
  have e1 : ¬ ((n : Int) < 0) := by omega
  simp only [if_true, if_false, show ¬ ((2 : Int) = 3) from by decide, List.nil_append, e1, Int.natAbs_natCast]
  rfl
theorem trim_dec (n : Nat) : trim (decN n) = decN n := dec_trim n
theorem reply_frame (l : List HField) (x : List UInt8) {n : Nat} (hn : n < 1000000000000000) (keep : Bool) :
    getN ((onE false l ++ ((VIAN, x) :: restR n keep)).map EmitPure.told) TENC = 0 ∧ getN ((onE false l ++ ((VIAN, x) :: restR n keep)).map EmitPure.told) CLEN = 1 ∧
    lenN ((onE false l ++ ((VIAN, x) :: restR n keep)).map EmitPure.told) = n ∧ keep9 1 ((onE false l ++ ((VIAN, x) :: restR n keep)).map EmitPure.told) = keep := by
  have hT : getN (onE false l) TENC = 0 := on_te _ _
  have hC : getN (onE false l) CLEN = 0 := on_cl _ _
  have hN : getN (onE false l) CONNECTION = 0 := on_conn _ _
  have t1 : ∀ m, getN ((VIAN, x) :: restR n keep) m = (if alike VIAN m then 1 else 0) + ((if alike CLN m then 1 else 0) + (if keep then 0 else if alike CONN m then 1 else 0)) := fun m => by
    unfold restR
    rw [getN_cons, getN_cons]
    cases keep with
    | true => simp [hit, getN_nil]; rfl
    | false => simp [hit, getN_cons, getN_nil]; rfl
  refine ⟨?_, ?_, ?_, ?_⟩
  · rw [getN_told, getN_append, hT, t1, show alike VIAN TENC = false from by decide, show alike CLN TENC = false from by decide, show alike CONN TENC = false from by decide]
    cases keep <;> rfl
  · rw [getN_told, getN_append, hC, t1, show alike VIAN CLEN = false from by decide, show alike CLN CLEN = true from by decide, show alike CONN CLEN = false from by decide]
    cases keep <;> rfl
  · unfold lenN
    rw [List.map_append, lens_append, lens_none (by rw [getN_told]; exact hC), List.nil_append, List.map_cons, lens_cons]
    rw [if_neg (by show ¬ alike VIAN CLEN = true; decide)]
    unfold restR
    rw [List.map_cons, lens_cons, if_pos (by show alike CLN CLEN = true; decide)]
    have e : lens ((if keep then [] else [(CONN, CLOSEV)] : List HField).map EmitPure.told) = [] := by
      cases keep with
      | true => rfl
      | false => exact lens_none (by rw [getN_told]; decide)
    rw [e, List.append_nil]
    show lenFrom (-1) ((pieces (trim (decN n))).map trim) = _
    rw [trim_dec, dec_pieces]
    show lenFrom (-1) [trim (decN n)] = _
    rw [trim_dec, len_said hn]
  · have e : elems ((onE false l ++ ((VIAN, x) :: restR n keep)).map EmitPure.told) CONNECTION = if keep then [] else [CLOSEV] := by
      rw [List.map_append, elems_append, elems_none (by rw [getN_told]; exact hN), List.nil_append, List.map_cons]
      have e2 : ∀ (f : HField) (G : List HField), hit CONNECTION f = false → elems (f :: G) CONNECTION = elems G CONNECTION := fun f G hf => by
        unfold elems
        rw [List.filter_cons_of_neg (by rw [hf]; decide)]
      rw [e2 _ _ (by show alike VIAN CONNECTION = false; decide)]
      unfold restR
      rw [List.map_cons, e2 _ _ (by show alike CLN CONNECTION = false; decide)]
      cases keep with
      | true => rfl
      | false => decide
    unfold keep9 hasE
    rw [e]
    cases keep with
    | true => rfl
    | false => decide
/-- how a client takes it -/
theorem reply_response (l : List HField) (x : List UInt8) {n : Nat} (hn : n < 1000000000000000) (keep : Bool) {status : Int} (h1 : 200 ≤ status) (h2 : status ≠ 204) (h3 : status ≠ 304) :
    response9 [71, 69, 84] status 1 ((onE false l ++ ((VIAN, x) :: restR n keep)).map EmitPure.told) = (2, (n : Int), 0) ∧
    response9 [72, 69, 65, 68] status 1 ((onE false l ++ ((VIAN, x) :: restR n keep)).map EmitPure.told) = (1, 0, 0) := by
  obtain ⟨t1, t2, t3, _⟩ := reply_frame l x hn keep
  constructor
  · unfold response9
    rw [if_neg (by omega), if_neg (by omega), if_neg (fun h => absurd h.1 (by decide)), if_neg (by decide), t1, if_neg (by omega), t2, if_neg (by decide), t3, if_neg (by omega)]
  · unfold response9
    rw [if_neg (by omega), if_neg (by omega), if_neg (fun h => absurd h.1 (by decide)), if_pos rfl]
/-! ### a head that is written is read -/
theorem plain_not (c : UInt8) (h : plainB c = true) : c ≠ 10 ∧ c ≠ 13 := by
  constructor
  · rintro rfl
    exact absurd h (by decide)
  · rintro rfl
    exact absurd h (by decide)
theorem dec_plain (n : Nat) : ∀ c ∈ decN n, plainB c = true := fun c hc => (dec_byte c (decN_all n c hc).2).1
theorem status_len {n : Nat} (h1 : 100 ≤ n) (h2 : n < 600) (x : List UInt8) : (statusL n x).length = 13 + x.length := by
  unfold statusL decZ
  rw [if_neg (by omega), Int.natAbs_natCast, decN_three h1 (by omega)]
  simp only [List.length_append, List.length_cons, List.length_nil]
  omega
theorem status_bare {n : Nat} {x : List UInt8} (hx : x.all plainB = true) : bare (statusL n x) := by
  intro c hc
  refine plain_not c ?_
  unfold statusL decZ at hc
  rw [if_neg (by omega), Int.natAbs_natCast] at hc
  rcases List.mem_append.1 hc with q | q
  · exact List.all_eq_true.1 (show ([72, 84, 84, 80, 47, 49, 46, 49, 32] : List UInt8).all plainB = true by decide) c q
  rcases List.mem_append.1 q with q | q
  · exact dec_plain n c q
  rcases List.mem_cons.1 q with q | q
  · rw [q]
    decide
  · exact List.all_eq_true.1 hx c q
theorem head_back {n : Nat} (h1 : 100 ≤ n) (h2 : n < 600) {x : List UInt8} (hx : x.all plainB = true) (hl : x.length ≤ 1000) {G : List HField} (hG : G.length ≤ 32) (hf : ∀ f ∈ G, EmitPure.Fair f) (s : List UInt8) :
    read8 true (statusL n x ++ 13 :: 10 :: (G.flatMap lineE ++ 13 :: 10 :: s)) = .done ⟨[], [], n, x, 1, G.map EmitPure.told⟩ ((statusL n x).length + 2 + (G.flatMap lineE).length + 2) := by
  have hsl := status_len h1 h2 x
  unfold read8 skipOf
  simp only [if_true, List.drop_zero]
  unfold from8
  rw [scan_line 1100 82 _ _ 0 (status_bare hx) (.inr (by omega))]
  simp only [Nat.zero_add, if_true]
  have e3 : (statusL n x ++ 13 :: 10 :: (G.flatMap lineE ++ 13 :: 10 :: s)).take (statusL n x).length = statusL n x := List.take_left
  have e4 : (statusL n x ++ 13 :: 10 :: (G.flatMap lineE ++ 13 :: 10 :: s)).drop ((statusL n x).length + 2) = G.flatMap lineE ++ 13 :: 10 :: s := by
    rw [← List.drop_drop, List.drop_left]
    rfl
  rw [e3, e4, status_back h1 h2 hx, if_pos rfl, lines_back _ s G 32 [] _ hG hf, List.nil_append]
theorem reason_plain (s : Int) : (reasonL s).all plainB = true ∧ (reasonL s).length ≤ 31 ∧ reasonL s ≠ [] := by
  have hp : ∀ p ∈ phrases, p.2.all plainB = true ∧ p.2.length ≤ 31 ∧ p.2 ≠ [] := by decide
  unfold reasonL
  cases h : phrases.find? (fun p => p.1 == s) with
  | none => decide
  | some p => exact hp p (List.mem_of_find?_eq_some h)
/-! ### fields that can be written -/
theorem fair_of {n x : List UInt8} (ht : token n = true) (hx : x.all plainB = true) (hl : n.length + x.length ≤ 510) : EmitPure.Fair (n, x) :=
  ⟨ht, by rw [value_trim']; exact hx, fun c hc => plain_not c (List.all_eq_true.1 hx c hc), hl⟩
theorem right_plain {f : HField} (h : right f = true) : token f.1 = true ∧ f.2.all plainB = true := by
  unfold right value at h
  simp only [Bool.and_eq_true] at h
  exact ⟨h.1.1, h.1.2.1⟩
theorem joined_one {l : List HField} {n s : List UInt8} (h1 : getN l n ≤ 1) (hr : ∀ f ∈ l, right f = true) (hl : ∀ f ∈ l, f.1.length + f.2.length ≤ 200) (hs : s.all plainB = true) :
    (joinV l n s).all plainB = true ∧ (joinV l n s).length ≤ 202 + s.length := by
  unfold joinV
  unfold getN at h1
  rw [List.countP_eq_length_filter] at h1
  match hq : l.filter (hit n), h1 with
  | [], _ => exact ⟨by simpa using hs, by simp⟩
  | [f], _ =>
    have hf : f ∈ l := (List.mem_filter.1 (by rw [hq]; exact List.mem_singleton.2 rfl : f ∈ l.filter (hit n))).1
    have hp := (right_plain (hr f hf)).2
    have hz := hl f hf
    simp only [List.flatMap_cons, List.flatMap_nil, List.append_nil, List.all_append, List.length_append, List.length_cons, List.length_nil, hp, hs]
    exact ⟨by decide, by omega⟩
theorem on_mem {req : Bool} {l : List HField} {f : HField} (h : f ∈ onE req l) : f ∈ l := by
  unfold onE strip at h
  exact (List.mem_filter.1 (List.mem_filter.1 h).1).1
theorem on_len (req : Bool) (l : List HField) : (onE req l).length ≤ l.length := by
  unfold onE strip
  exact Nat.le_trans (List.length_filter_le _ _) (List.length_filter_le _ _)
theorem dec_len15 {n : Nat} (h : n < 1000000000000000) : (decN n).length ≤ 15 := decN_len 14 n (by omega)
theorem reply_fair {l : List HField} (h1 : getN l VIAN ≤ 1) (hr : ∀ f ∈ l, right f = true) (hl : ∀ f ∈ l, f.1.length + f.2.length ≤ 200) {n : Nat} (hn : n < 1000000000000000) (keep : Bool) :
    ∀ f ∈ onE false l ++ ((VIAN, joinV l VIAN BARB) :: restR n keep), EmitPure.Fair f := by
  intro f hf
  obtain ⟨j1, j2⟩ := joined_one (n := VIAN) (s := BARB) h1 hr hl (by decide)
  rcases List.mem_append.1 hf with q | q
  · obtain ⟨r1, r2⟩ := right_plain (hr f (on_mem q))
    exact fair_of r1 r2 (by have := hl f (on_mem q); omega)
  rcases List.mem_cons.1 q with rfl | q
  · exact fair_of (by decide) j1 (by have e : VIAN.length = 3 := rfl; have e2 : BARB.length = 12 := rfl; rw [e]; omega)
  unfold restR at q
  rcases List.mem_cons.1 q with rfl | q
  · exact fair_of (by decide) (List.all_eq_true.2 (dec_plain n)) (by have e : CLN.length = 14 := rfl; have := dec_len15 hn; rw [e]; omega)
  · cases keep with
    | true => cases q
    | false =>
      rw [if_neg (by decide), List.mem_singleton] at q
      subst q
      exact fair_of (by decide) (by decide) (by decide)
theorem reply_count (l : List HField) (x : List UInt8) (n : Nat) (keep : Bool) (hl : l.length ≤ 20) : (onE false l ++ ((VIAN, x) :: restR n keep)).length ≤ 32 := by
  have h := on_len false l
  unfold restR
  rw [List.length_append, List.length_cons, List.length_cons]
  cases keep with
  | true => simp; omega
  | false => simp; omega
/-- a local reply, read: its head, with the status, and where it ends -/
theorem local_read {status : Nat} (s1 : 100 ≤ status) (s2 : status < 600) {l : List HField} (h20 : l.length ≤ 20) (h1 : getN l VIAN ≤ 1) (hr : ∀ f ∈ l, right f = true) (hl : ∀ f ∈ l, f.1.length + f.2.length ≤ 200) {body : List UInt8} (hn : body.length < 1000000000000000) (keep bodiless : Bool) :
    read8 true (localE status l body keep bodiless) = .done ⟨[], [], status, reasonL status, 1, (onE false l ++ ((VIAN, joinV l VIAN BARB) :: restR body.length keep)).map EmitPure.told⟩ (headE ⟨status, [], l, 2, body.length, keep, []⟩).length := by
  obtain ⟨p1, p2, _⟩ := reason_plain status
  have e : localE status l body keep bodiless = statusL status (reasonL status) ++ 13 :: 10 :: ((onE false l ++ ((VIAN, joinV l VIAN BARB) :: restR body.length keep)).flatMap lineE ++ 13 :: 10 :: (if bodiless then [] else body)) := by
    unfold localE headE
    rw [if_pos rfl, replyF_local]
    simp
  have e2 : (headE ⟨status, [], l, 2, body.length, keep, []⟩).length = (statusL status (reasonL status)).length + 2 + ((onE false l ++ ((VIAN, joinV l VIAN BARB) :: restR body.length keep)).flatMap lineE).length + 2 := by
    unfold headE
    rw [if_pos rfl, replyF_local]
    simp only [List.length_append, List.length_cons, List.length_nil]
    omega
  rw [e, e2, head_back s1 s2 p1 (by omega) (reply_count l _ _ keep h20) (reply_fair h1 hr hl hn keep)]
end Go.Proofs.YtblpooddamkfdaaGreatDoor.EmitBack

/- Layer 6: how long what a target names may be. -/
namespace Go.Proofs.YtblpooddamkfdaaGreatDoor.TargetLen
open LexPure Bytes LexNum CutAt HostPure PathPure PathForm PathLen TargetPure RNormal
theorem esc_le : ∀ (n : Nat) {s t : List UInt8}, s.length ≤ n → esc s = some t → t.length ≤ s.length := fun n _ _ hn h => esc_len n hn h
theorem normal_le {s t : List UInt8} (h : normal s = some t) : t.length ≤ s.length :=
  normal_len (fun u hu => by
    unfold escapes at hu
    cases s with
    | nil => cases hu
    | cons c r =>
      simp only at hu
      split at hu
      · have hl := esc_len _ (Nat.le_refl _) hu
        refine ⟨?_, hl⟩
        rw [esc_cons] at hu
        split at hu
        · split at hu
          · rename_i hc
            rename_i h47 _
            have e1 := beq_iff_eq.1 h47
            have e2 := beq_iff_eq.1 hc
            rw [e1] at e2
            exact absurd e2 (by decide)
          · obtain ⟨v, _, rfl⟩ := Option.map_eq_some_iff.1 hu
            simp
        · cases hu
      · cases hu) h
theorem local_form (t : Tgt) (s : List UInt8) : (local6 t s).1.form = t.form ∨ (local6 t s).1.form = 0 := by
  rcases local_cases t s with e | e | ⟨p, _, _, e⟩ <;> rw [e]
  · exact .inr rfl
  · exact .inr rfl
  · exact .inl rfl
theorem parse_bare (m s : List UInt8) (h : (parse6 m s).1.form = 3 ∨ (parse6 m s).1.form = 4) : (parse6 m s).1.query = [] := by
  unfold parse6 at h ⊢
  split
  · unfold remote6
    split
    · split <;> rfl
    · rfl
  · rename_i hm
    rw [if_neg hm] at h
    split
    · unfold star6
      split <;> rfl
    · rename_i hs
      rw [if_neg hs] at h
      split
      · rename_i hh
        rw [if_pos hh] at h
        have := local_form ⟨1, [], 0, [], [], false⟩ s
        simp only at this
        omega
      · rename_i hh
        rw [if_neg hh] at h
        split
        · rename_i hc
          rw [if_pos hc] at h
          unfold absolute6 at h ⊢
          split
          · rename_i a b ha
            rw [ha] at h
            simp only at h
            have := local_form ⟨2, a, b, [], [], false⟩ (slashed (outA (s.drop 7)))
            simp only at this
            omega
          · rfl
        · rfl
theorem parse_len (m s : List UInt8) (hs : s.length ≤ 70368744175600) : (parse6 m s).1.path.length + (parse6 m s).1.query.length ≤ 140737488351232 := by
  by_cases h : (parse6 m s).2 = 0
  · have key : ∀ r : List UInt8, r.length ≤ s.length + 1 → ∀ p, normal (aheadOf 63 r) = some p → p.length + (behind 63 r).length ≤ 140737488351232 := fun r hr p hp => by
      have h1 := normal_le hp
      have h2 : (aheadOf 63 r).length ≤ r.length := by unfold aheadOf; exact (List.takeWhile_prefix _).length_le
      have h3 : (behind 63 r).length ≤ r.length := by
        unfold behind
        rw [List.length_tail]
        have := (List.dropWhile_suffix (l := r) (fun c => c != 63)).length_le
        omega
      omega
    rcases parse_ok m s h with ⟨hf, hp, _⟩ | ⟨_, r, e1, _, e3, _, e5⟩
    · rw [hp, parse_bare m s hf]
      exact (by decide : 0 + 0 ≤ 140737488351232)
    · rw [e3]
      exact key r e5 _ e1
  · rw [parse_err m s h]
    exact (by decide : 0 + 0 ≤ 140737488351232)
end Go.Proofs.YtblpooddamkfdaaGreatDoor.TargetLen

/- Layer 13: a request that was read, written to go on and read again, is the same request: what the first reading says. No program is named. -/
namespace Go.Proofs.YtblpooddamkfdaaGreatDoor.EmitForwP
open Bytes LexPure LexNum CutAt FieldsPure HeadPure HeadWrit HeadCut HeadLines DecN HostPure PathPure PathForm TargetPure FramePure EmitPure EmitBack
set_option maxRecDepth 20000
/-! ### what a head that is read says -/
def goodF (f : HField) : Prop := token f.1 = true ∧ value f.2 = true
theorem field_good {l : List UInt8} (h : (field8 l).2 = 0) : goodF (field8 l).1 := by
  unfold field8 at h ⊢
  by_cases hc : (nameB l).length < l.length ∧ token (nameB l) = true ∧ value (trim (l.drop ((nameB l).length + 1))) = true
  · rw [if_pos hc]
    exact ⟨hc.2.1, hc.2.2⟩
  · rw [if_neg hc] at h
    exact absurd h (by decide)
theorem fields_good (h : H8) : ∀ (m : Nat) (acc : List HField) (a : Nat) (s : List UInt8) (h' : H8) (n : Nat), fields8 h m acc a s = .done h' n → (∀ f ∈ acc, goodF f) →
    h'.method = h.method ∧ h'.target = h.target ∧ ∀ f ∈ h'.fields, goodF f := by
  intro m
  induction m with
  | zero =>
    intro acc a s h' n hd ha
    unfold fields8 at hd
    cases hs : scan 512 83 0 s with
    | wait => rw [hs] at hd; cases hd
    | bad e => rw [hs] at hd; cases hd
    | whole k =>
      rw [hs] at hd
      dsimp only at hd
      by_cases hk : k = 0
      · rw [if_pos hk] at hd
        injection hd with e1 e2
        subst e1
        exact ⟨rfl, rfl, ha⟩
      · rw [if_neg hk] at hd
        cases hd
  | succ m ih =>
    intro acc a s h' n hd ha
    unfold fields8 at hd
    cases hs : scan 512 83 0 s with
    | wait => rw [hs] at hd; cases hd
    | bad e => rw [hs] at hd; cases hd
    | whole k =>
      rw [hs] at hd
      dsimp only at hd
      by_cases hk : k = 0
      · rw [if_pos hk] at hd
        injection hd with e1 e2
        subst e1
        exact ⟨rfl, rfl, ha⟩
      · rw [if_neg hk] at hd
        by_cases hf : (field8 (s.take k)).2 = 0
        · rw [if_pos hf] at hd
          exact ih _ _ _ _ _ hd (fun f hq => by
            rcases List.mem_append.1 hq with hq | hq
            · exact ha f hq
            · rw [List.mem_singleton] at hq
              subst hq
              exact field_good hf)
        · rw [if_neg hf] at hd
          cases hd
/-- a start line -/
theorem start_good {l : List UInt8} (h : (start8 l).2 = 0) : token (start8 l).1.method = true ∧ (start8 l).1.method.length ≤ 16 ∧ (start8 l).1.target.all seenB = true ∧ 0 < (start8 l).1.target.length ∧ (start8 l).1.method.length + (start8 l).1.target.length + 10 = l.length := by
  unfold start8 at h ⊢
  by_cases h1 : (upB l).length < l.length ∧ (upB l).length ≤ 16 ∧ token (upB l) = true
  · rw [if_pos h1] at h ⊢
    dsimp only at h ⊢
    by_cases h2 : (upB (l.drop ((upB l).length + 1))).length < (l.drop ((upB l).length + 1)).length ∧ 0 < (upB (l.drop ((upB l).length + 1))).length ∧ (upB (l.drop ((upB l).length + 1))).all seenB = true
    · rw [if_pos h2] at h ⊢
      by_cases h3 : (version8 ((l.drop ((upB l).length + 1)).drop ((upB (l.drop ((upB l).length + 1))).length + 1))).2 = 0
      · rw [if_pos h3] at h ⊢
        have hv : ∀ s : List UInt8, (version8 s).2 = 0 → s.length = 8 := by
          intro s hs
          unfold version8 at hs
          split at hs
          · rfl
          · exact absurd hs (by decide)
        have h4 := hv _ h3
        rw [List.length_drop, List.length_drop] at h4
        rw [List.length_drop] at h2
        refine ⟨h1.2.2, h1.2.1, h2.2.2, h2.2.1, ?_⟩
        dsimp only
        omega
      · rw [if_neg h3] at h
        exact absurd h h3
    · rw [if_neg h2] at h
      exact absurd h (by decide)
  · rw [if_neg h1] at h
    exact absurd h (by decide)
theorem read_good {s : List UInt8} {h : H8} {n : Nat} (hd : read8 false s = .done h n) :
    token h.method = true ∧ h.method.length ≤ 16 ∧ h.target.all seenB = true ∧ 0 < h.target.length ∧ h.method.length + h.target.length + 10 ≤ 1100 ∧ ∀ f ∈ h.fields, goodF f := by
  unfold read8 skipOf at hd
  simp only [Bool.false_eq_true, if_false] at hd
  unfold from8 at hd
  cases hs : scan 1100 82 0 (s.drop (skip8 s)) with
  | wait => rw [hs] at hd; cases hd
  | bad e => rw [hs] at hd; cases hd
  | whole k =>
    rw [hs] at hd
    simp only [Bool.false_eq_true, if_false] at hd
    by_cases hx : (start8 ((s.drop (skip8 s)).take k)).2 = 0
    · rw [if_pos hx] at hd
      obtain ⟨h1, h2, h3⟩ := fields_good _ _ _ _ _ _ _ hd (fun f hf => by cases hf)
      obtain ⟨l, q, e, hk2, _, hb⟩ := scan_whole 1100 82 _ 0 k hs
      obtain ⟨g1, g2, g3, g4, g5⟩ := start_good hx
      rw [List.length_take] at g5
      rw [h1, h2]
      exact ⟨g1, g2, g3, g4, by omega, h3⟩
    · rw [if_neg hx] at hd
      cases hd
/-! ### a start line as long as one that was read -/
theorem read_start2 {m t : List UInt8} (hm : token m = true) (hml : m.length ≤ 16) (ht : t.all seenB = true) (ht0 : 0 < t.length) (htl : m.length + t.length + 10 ≤ 1100) (s : List UInt8) :
    read8 false (startL m t ++ 13 :: 10 :: s) = fields8 ⟨m, t, 0, [], 1, []⟩ 32 [] ((startL m t).length + 2) s := by
  obtain ⟨hmm, hm0⟩ := token_marks hm
  have hsk : skip8 (startL m t ++ 13 :: 10 :: s) = 0 := by
    unfold startL
    cases m with
    | nil => simp at hm0
    | cons c m =>
      have hc := ((mark_not c).1 (hmm c List.mem_cons_self)).2.2.1
      cases hx : m ++ 32 :: (t ++ HTTP11) ++ 13 :: 10 :: s with
      | nil => simp at hx
      | cons d x =>
        rw [List.cons_append, List.cons_append, hx, skip8, if_neg (fun h => hc h.1)]
  have hlen : (startL m t).length = m.length + t.length + 10 := by simp [startL, HTTP11]; omega
  unfold read8 skipOf
  simp only [Bool.false_eq_true, if_false]
  rw [hsk, List.drop_zero]
  unfold from8
  rw [scan_line 1100 82 _ _ 0 (start_bare hm ht) (.inr (by omega))]
  simp only [Nat.zero_add, Bool.false_eq_true, if_false]
  have e3 : (startL m t ++ 13 :: 10 :: s).take (startL m t).length = startL m t := List.take_left
  have e4 : (startL m t ++ 13 :: 10 :: s).drop ((startL m t).length + 2) = s := by
    rw [← List.drop_drop, List.drop_left]
    rfl
  rw [e3, e4, start_say hm hml ht ht0, if_pos rfl]
/-! ### the target -/
theorem again_any {m s m2 : List UInt8} (hm2 : (m2 == TargetPure.CONNECT) = false) (h : (parse6 m s).2 = 0) (hf : (parse6 m s).1.form = 1 ∨ (parse6 m s).1.form = 2) :
    parse6 m2 (origin6 (parse6 m s).1) = (⟨1, [], 0, (parse6 m s).1.path, (parse6 m s).1.query, (parse6 m s).1.has⟩, 0) := by
  rcases parse_ok m s h with ⟨hq, _⟩ | ⟨_, r, e1, e2, e3, e4, _⟩
  · exfalso; omega
  · generalize (parse6 m s).1 = t at *
    obtain ⟨fo, ho, po, pa, qu, ha⟩ := t
    simp only at *
    subst e3; subst e4
    have hn := normal_no63 e1
    obtain ⟨v, rfl⟩ := normal_head e1
    have hnn := normal_normal e1
    unfold origin6
    simp only
    rw [if_pos hf]
    by_cases hh : hasB 63 r = true
    · rw [if_pos hh]
      rw [List.cons_append, parse_slash m2 hm2, ← List.cons_append]
      obtain ⟨a1, a2, a3⟩ := ahead63 hn (behind 63 r)
      unfold local6
      rw [a1, a2, a3, hnn]
      simp only
      rw [if_pos e2, hh]
    · have hx : hasB 63 r = false := by simpa using hh
      rw [if_neg hh]
      rw [parse_slash m2 hm2]
      obtain ⟨a1, a2, a3⟩ := self63 hn
      unfold local6
      rw [a1, a2, a3, hnn]
      simp only
      rw [behind_none hx, hx]
      rfl
/-! ### the host -/
theorem port_dec {p : Nat} (h1 : 1 ≤ p) (h2 : p ≤ 65535) : portOk (decN p) = true ∧ numR 10 5 (decN p) = p := by
  have hnum := dec_num (n := p) (by omega)
  have hl : (decN p).length ≤ 5 := decN_len 4 p (by omega)
  have hok : numOk 10 5 (decN p) = true := by
    have := hnum.1
    unfold numOk at this ⊢
    rw [Bool.and_eq_true] at this ⊢
    refine ⟨?_, this.2⟩
    have h5 : ((decN p).length : Int) ≤ 5 := by omega
    simp [decN_ne]
    omega
  have hv : numR 10 5 (decN p) = p := by
    unfold numR
    rw [if_pos hok, decN_val]
  unfold portOk
  rw [hok, hv]
  refine ⟨?_, rfl⟩
  simp
  omega
theorem auth_again {h : List UInt8} {p : Int} (hh : host h = true) (hl : lower h = h) (h1 : 0 ≤ p) (h2 : p ≤ 65535) : authO (h ++ (if 0 < p then 58 :: decZ p else [])) = some (h, p) := by
  by_cases hp : 0 < p
  · rw [if_pos hp]
    obtain ⟨k, rfl⟩ : ∃ k : Nat, p = k := ⟨p.toNat, by omega⟩
    have e : decZ (k : Int) = decN k := by
      unfold decZ
      rw [if_neg (by omega), Int.natAbs_natCast]
    rw [e]
    obtain ⟨a1, a2, a3⟩ := ahead_all (host_no58 hh) (decN k)
    obtain ⟨b1, b2⟩ := port_dec (p := k) (by omega) (by omega)
    unfold authO
    rw [a1, a2, a3, hh, b1, b2, hl]
    rfl
  · have : p = 0 := by omega
    subst this
    rw [if_neg hp, List.append_nil]
    exact authO_host hh hl
/-! ### a target that goes on -/
theorem split63 : ∀ r : List UInt8, (aheadOf 63 r).length + (if hasB 63 r then 1 + (behind 63 r).length else 0) = r.length
  | [] => rfl
  | c :: r => by
    by_cases hc : c = 63
    · subst hc
      have e1 : aheadOf 63 (63 :: r) = [] := by unfold aheadOf; rw [List.takeWhile_cons_of_neg (by decide)]
      have e2 : behind 63 (63 :: r) = r := by unfold behind; rw [List.dropWhile_cons_of_neg (by decide)]; rfl
      have e3 : hasB 63 (63 :: r) = true := by unfold hasB; rw [List.any_cons]; simp
      rw [e1, e2, e3, if_pos rfl, List.length_nil, List.length_cons]
      omega
    · have hn : (c != 63) = true := by simpa using hc
      have e1 : aheadOf 63 (c :: r) = c :: aheadOf 63 r := by unfold aheadOf; rw [List.takeWhile_cons_of_pos (p := fun c => c != 63) hn]
      have e2 : behind 63 (c :: r) = behind 63 r := by unfold behind; rw [List.dropWhile_cons_of_pos (p := fun c => c != 63) hn]
      have e3 : hasB 63 (c :: r) = hasB 63 r := by
        unfold hasB
        rw [List.any_cons, show (c == 63) = false by simpa using hc, Bool.false_or]
      rw [e1, e2, e3, List.length_cons, List.length_cons]
      have := split63 r
      omega
theorem okc_seen (c : UInt8) (h : okc c = true) : seenB c = true := by
  unfold okc at h
  unfold seenB
  simp only [Bool.and_eq_true, decide_eq_true_eq] at h ⊢
  omega
theorem qc_seen (c : UInt8) (h : qc c = true) : seenB c = true := by
  unfold qc at h
  unfold seenB
  simp only [Bool.and_eq_true, decide_eq_true_eq] at h ⊢
  omega
theorem normal_seen {s t : List UInt8} (h : normal s = some t) : t.all seenB = true := by
  obtain ⟨kept, tr, rfl, _, hc⟩ := normal_form h
  rw [List.all_eq_true]
  exact fun c hm => okc_seen c (List.all_eq_true.1 (enc_okc (form_enc hc)) c hm)
/-- path and query as they go on -/
theorem local_go {r : List UInt8} {p : List UInt8} (hp : normal (aheadOf 63 r) = some p) (hq : qok (behind 63 r) = true) :
    (if hasB 63 r then p ++ 63 :: behind 63 r else p).length ≤ r.length ∧ 0 < (if hasB 63 r then p ++ 63 :: behind 63 r else p).length ∧ (if hasB 63 r then p ++ 63 :: behind 63 r else p).all seenB = true := by
  have h1 := TargetLen.normal_le hp
  have h2 := split63 r
  have h3 := normal_seen hp
  obtain ⟨v, hv⟩ := normal_head hp
  have h4 : 0 < p.length := by rw [hv]; simp
  by_cases hh : hasB 63 r = true
  · rw [if_pos hh] at h2
    rw [if_pos hh, List.length_append, List.length_cons, List.all_append, h3, List.all_cons]
    refine ⟨by omega, by omega, ?_⟩
    have : (behind 63 r).all seenB = true := List.all_eq_true.2 (fun c hc => qc_seen c (List.all_eq_true.1 hq c hc))
    rw [this]
    decide
  · rw [if_neg hh] at h2
    rw [if_neg hh]
    exact ⟨by omega, h4, h3⟩
theorem out_len (s : List UInt8) : (inA s).length + (outA s).length = s.length := by
  unfold inA outA
  conv => rhs; rw [← List.takeWhile_append_dropWhile (p := fun c => !endC c) (l := s), List.length_append]
theorem slashed_len (s : List UInt8) : (slashed s).length ≤ s.length + 1 := by
  unfold slashed
  split
  · omega
  · rw [List.length_cons]; omega
theorem auth_ne {a h : List UInt8} {p : Int} (e : authO a = some (h, p)) : 0 < a.length := by
  cases a with
  | nil =>
    rw [show authO [] = none from rfl] at e
    cases e
  | cons => simp
theorem parse_go {m s : List UInt8} (h : (parse6 m s).2 = 0) (h3 : (parse6 m s).1.form ≠ 3) :
    (m == TargetPure.CONNECT) = false ∧ ((parse6 m s).1.form = 2 → ∃ a, authO a = some ((parse6 m s).1.host, (parse6 m s).1.port)) ∧
    (origin6 (parse6 m s).1).length ≤ s.length ∧ 0 < (origin6 (parse6 m s).1).length ∧ (origin6 (parse6 m s).1).all seenB = true := by
  unfold parse6 at h h3 ⊢
  by_cases hm : (m == TargetPure.CONNECT) = true
  · exfalso
    rw [if_pos hm] at h h3
    unfold remote6 at h h3
    split at h
    · rename_i a b ha
      rw [ha] at h3
      simp only at h h3
      split at h
      · exact absurd h (by decide)
      · rename_i hb
        rw [if_neg hb] at h3
        exact h3 rfl
    · exact absurd h (by decide)
  · have hmf : (m == TargetPure.CONNECT) = false := by simpa using hm
    rw [if_neg hm] at h h3 ⊢
    refine ⟨hmf, ?_⟩
    by_cases hs : (s == [42]) = true
    · rw [if_pos hs] at h h3 ⊢
      have hs' : s = [42] := by simpa using hs
      unfold star6 at h h3 ⊢
      by_cases ho : (m == OPTIONS) = true
      · rw [if_pos ho, hs']
        exact ⟨fun q => absurd q (by decide), by decide, by decide, by decide⟩
      · rw [if_neg ho] at h
        exact absurd h (by decide)
    · rw [if_neg hs] at h h3 ⊢
      by_cases hh : (s.head? == some 47) = true
      · rw [if_pos hh] at h h3 ⊢
        rcases local_cases ⟨1, [], 0, [], [], false⟩ s with e | e | ⟨p, hp, hq, e⟩
        · rw [e] at h; exact absurd h (by decide)
        · rw [e] at h; exact absurd h (by decide)
        · rw [e]
          refine ⟨fun q => absurd q (by simp), ?_⟩
          unfold origin6
          rw [if_pos (.inl rfl)]
          exact local_go hp hq
      · rw [if_neg hh] at h h3 ⊢
        by_cases hc : hasScheme s = true
        · rw [if_pos hc] at h h3 ⊢
          unfold absolute6 at h h3 ⊢
          cases ha : authO (inA (s.drop 7)) with
          | none => rw [ha] at h; dsimp only at h; exact absurd h (by decide)
          | some x =>
            obtain ⟨hn, pt⟩ := x
            rw [ha] at h h3
            simp only at h h3 ⊢
            rcases local_cases ⟨2, hn, pt, [], [], false⟩ (slashed (outA (s.drop 7))) with e | e | ⟨p, hp, hq, e⟩
            · rw [e] at h; exact absurd h (by decide)
            · rw [e] at h; exact absurd h (by decide)
            · rw [e]
              refine ⟨fun _ => ⟨_, ha⟩, ?_⟩
              unfold origin6
              rw [if_pos (.inr rfl)]
              obtain ⟨g1, g2, g3⟩ := local_go hp hq
              refine ⟨?_, g2, g3⟩
              have l1 := slashed_len (outA (s.drop 7))
              have l2 := out_len (s.drop 7)
              have l3 := auth_ne ha
              rw [List.length_drop] at l2
              refine Nat.le_trans g1 ?_
              omega
        · rw [if_neg hc] at h
          exact absurd h (by decide)
/-- read again it is the same -/
theorem parse_again {m s : List UInt8} (h : (parse6 m s).2 = 0) (h3 : (parse6 m s).1.form ≠ 3) :
    ∃ t, parse6 m (origin6 (parse6 m s).1) = (t, 0) ∧ t.path = (parse6 m s).1.path ∧ t.query = (parse6 m s).1.query ∧ t.has = (parse6 m s).1.has ∧ (t.form = 1 ∨ t.form = 4) := by
  have hm := (parse_go h h3).1
  by_cases hf : (parse6 m s).1.form = 1 ∨ (parse6 m s).1.form = 2
  · exact ⟨_, again_any hm h hf, rfl, rfl, rfl, .inl rfl⟩
  · have key : parse6 m s = (⟨4, [], 0, [], [], false⟩, 0) ∧ (m == OPTIONS) = true := by
      unfold parse6 at h hf ⊢
      rw [if_neg (by rw [hm]; decide)] at h hf ⊢
      by_cases hs : (s == [42]) = true
      · rw [if_pos hs] at h ⊢
        unfold star6 at h ⊢
        by_cases ho : (m == OPTIONS) = true
        · rw [if_pos ho]
          exact ⟨rfl, ho⟩
        · rw [if_neg ho] at h
          exact absurd h (by decide)
      · exfalso
        rw [if_neg hs] at h hf
        by_cases hh : (s.head? == some 47) = true
        · rw [if_pos hh] at h hf
          rcases local_cases ⟨1, [], 0, [], [], false⟩ s with e | e | ⟨p, hp, hq, e⟩
          · rw [e] at h; exact absurd h (by decide)
          · rw [e] at h; exact absurd h (by decide)
          · rw [e] at hf; exact hf (.inl rfl)
        · rw [if_neg hh] at h hf
          by_cases hc : hasScheme s = true
          · rw [if_pos hc] at h hf
            unfold absolute6 at h hf
            cases ha : authO (inA (s.drop 7)) with
            | none => rw [ha] at h; dsimp only at h; exact absurd h (by decide)
            | some x =>
              obtain ⟨hn, pt⟩ := x
              rw [ha] at h hf
              simp only at h hf
              rcases local_cases ⟨2, hn, pt, [], [], false⟩ (slashed (outA (s.drop 7))) with e | e | ⟨p, hp, hq, e⟩
              · rw [e] at h; exact absurd h (by decide)
              · rw [e] at h; exact absurd h (by decide)
              · rw [e] at hf; exact hf (.inr rfl)
          · rw [if_neg hc] at h
            exact absurd h (by decide)
    obtain ⟨k1, k2⟩ := key
    rw [k1]
    refine ⟨⟨4, [], 0, [], [], false⟩, ?_, rfl, rfl, rfl, .inr rfl⟩
    show (if (m == TargetPure.CONNECT) = true then remote6 [42] else if (([42] : List UInt8) == [42]) = true then star6 m else _) = _
    rw [if_neg (by rw [hm]; decide), if_pos (by decide)]
    unfold star6
    rw [if_pos k2]
end Go.Proofs.YtblpooddamkfdaaGreatDoor.EmitForwP

/- Layer 13: nothing that concerns one connection alone goes on. No program is named. -/
namespace Go.Proofs.YtblpooddamkfdaaGreatDoor.EmitStripP
open Bytes LexPure LexNum FieldsPure HeadPure HeadWrit HeadCut HeadLines DecN FramePure EmitPure EmitBack
set_option maxRecDepth 20000
/-- 1 where it holds -/
def one1 (b : Bool) : Nat := if b then 1 else 0
theorem getN_up (u n : List UInt8) : getN (if u = [] then [] else [(CONN, UPV), (UPN, u)]) n = if u = [] then 0 else one1 (alike CONN n) + one1 (alike UPN n) := by
  by_cases hu : u = []
  · rw [if_pos hu, if_pos hu]
    rfl
  · rw [if_neg hu, if_neg hu, getN_cons, getN_cons, getN_nil]
    rfl
theorem ask_count (a : AskP) (n : List UInt8) : getN (askF a) n = one1 (alike HOSTN n) + (getN (onE true a.fields) n + (one1 (alike XFFN n) + (one1 (alike VIAN n) + ((if a.sized then one1 (alike CLN n) else 0) + (if a.up = [] then 0 else one1 (alike CONN n) + one1 (alike UPN n)))))) := by
  unfold askF
  rw [getN_cons, getN_append, getN_cons, getN_cons, getN_append, getN_up]
  have e : getN (if a.sized then [(CLN, decZ a.body.length)] else []) n = if a.sized then one1 (alike CLN n) else 0 := by
    cases a.sized with
    | false => rfl
    | true => rw [if_pos rfl, if_pos rfl, getN_cons, getN_nil]; rfl
  rw [e]
  rfl
theorem reply_counts (r : ReplyP) (n : List UInt8) : getN (replyF r) n = getN (onE false r.fields) n + (one1 (alike VIAN n) + ((if r.framing = 2 then one1 (alike CLN n) else 0) + ((if r.framing = 3 then one1 (alike TEN n) else 0) +
    (if r.up = [] then (if r.keep then 0 else one1 (alike CONN n)) else one1 (alike CONN n) + one1 (alike UPN n))))) := by
  unfold replyF
  rw [getN_append, getN_cons, getN_append, getN_append]
  have e1 : getN (if r.framing = 2 then [(CLN, decZ r.length)] else []) n = if r.framing = 2 then one1 (alike CLN n) else 0 := by
    split
    · rw [getN_cons, getN_nil]; rfl
    · rfl
  have e2 : getN (if r.framing = 3 then [(TEN, CHV)] else []) n = if r.framing = 3 then one1 (alike TEN n) else 0 := by
    split
    · rw [getN_cons, getN_nil]; rfl
    · rfl
  have e3 : getN (if r.up = [] then (if r.keep then [] else [(CONN, CLOSEV)]) else [(CONN, UPV), (UPN, r.up)]) n = if r.up = [] then (if r.keep then 0 else one1 (alike CONN n)) else one1 (alike CONN n) + one1 (alike UPN n) := by
    by_cases hu : r.up = []
    · rw [if_pos hu, if_pos hu]
      cases r.keep with
      | true => rfl
      | false => rw [if_neg (by decide), if_neg (by decide), getN_cons, getN_nil]; rfl
    · rw [if_neg hu, if_neg hu, getN_cons, getN_cons, getN_nil]
      rfl
  rw [e1, e2, e3]
  rfl
/-- does the gateway write such a field by itself -/
def own (n : List UInt8) (u : List UInt8) : Bool := alike n HOSTN || alike n VIAN || alike n XFFN || (!u.isEmpty && (alike n CONN || alike n UPN))
theorem one1_zero {b : Bool} (h : b = false) : one1 b = 0 := by rw [h]; rfl
theorem alike_swap (a b : List UInt8) : alike a b = alike b a := by
  unfold alike
  rw [Bool.eq_iff_iff, beq_iff_eq, beq_iff_eq]
  exact eq_comm
theorem ask_strip {a : AskP} (hs : a.sized = false) {n : List UInt8} (h1 : one a.fields n = true) (h2 : own n a.up = false) : getN (askF a) n = 0 := by
  unfold own at h2
  simp only [Bool.or_eq_false_iff] at h2
  obtain ⟨⟨⟨a1, a2⟩, a3⟩, a4⟩ := h2
  rw [ask_count, on_none (.inl h1), one1_zero (by rw [alike_swap]; exact a1), one1_zero (b := alike VIAN n) (by rw [alike_swap]; exact a2), one1_zero (b := alike XFFN n) (by rw [alike_swap]; exact a3), hs, if_neg (by decide)]
  by_cases hu : a.up = []
  · rw [if_pos hu]
  · have hn : (!a.up.isEmpty) = true := by simp [hu]
    rw [hn, Bool.true_and, Bool.or_eq_false_iff] at a4
    rw [if_neg hu, one1_zero (by rw [alike_swap]; exact a4.1), one1_zero (by rw [alike_swap]; exact a4.2)]
theorem reply_strip {r : ReplyP} (hf : r.framing = 1) (hk : r.keep = true) {n : List UInt8} (h1 : one r.fields n = true) (h2 : own n r.up = false) : getN (replyF r) n = 0 := by
  unfold own at h2
  simp only [Bool.or_eq_false_iff] at h2
  obtain ⟨⟨⟨_, a2⟩, _⟩, a4⟩ := h2
  rw [reply_counts, on_none (.inl h1), one1_zero (b := alike VIAN n) (by rw [alike_swap]; exact a2), hf, if_neg (by decide), if_neg (by decide), hk, if_pos rfl]
  by_cases hu : r.up = []
  · rw [if_pos hu]
  · have hn : (!r.up.isEmpty) = true := by simp [hu]
    rw [hn, Bool.true_and, Bool.or_eq_false_iff] at a4
    rw [if_neg hu, one1_zero (by rw [alike_swap]; exact a4.1), one1_zero (by rw [alike_swap]; exact a4.2)]
theorem ask_own {a : AskP} (hs : a.sized = false) : getN (askF a) CONNECTION = (if a.up = [] then 0 else 1) ∧ getN (askF a) CLEN = 0 ∧ getN (askF a) VIAN = 1 ∧ getN (askF a) HOSTN = 1 := by
  refine ⟨?_, ?_, ?_, ?_⟩
  · rw [ask_count, on_conn, hs]
    by_cases hu : a.up = [] <;> simp only [hu, if_true, if_false] <;> decide
  · rw [ask_count, on_cl, hs]
    by_cases hu : a.up = [] <;> simp only [hu, if_true, if_false] <;> decide
  · rw [ask_count, on_via, hs]
    by_cases hu : a.up = [] <;> simp only [hu, if_true, if_false] <;> decide
  · rw [ask_count, on_host, hs]
    by_cases hu : a.up = [] <;> simp only [hu, if_true, if_false] <;> decide
theorem reply_own {r : ReplyP} (hf : r.framing = 1) (hk : r.keep = true) : getN (replyF r) CONNECTION = (if r.up = [] then 0 else 1) ∧ getN (replyF r) CLEN = 0 ∧ getN (replyF r) VIAN = 1 := by
  refine ⟨?_, ?_, ?_⟩
  · rw [reply_counts, on_conn, hf, hk]
    by_cases hu : r.up = [] <;> simp only [hu, if_true, if_false] <;> decide
  · rw [reply_counts, on_cl, hf, hk]
    by_cases hu : r.up = [] <;> simp only [hu, if_true, if_false] <;> decide
  · rw [reply_counts, on_via, hf, hk]
    by_cases hu : r.up = [] <;> simp only [hu, if_true, if_false] <;> decide
/-! ### what stands in few fields can be written -/
def total (l : List HField) : Nat := (l.map (fun f => f.1.length + f.2.length)).sum
theorem total_mem {l : List HField} {f : HField} (h : f ∈ l) : f.1.length + f.2.length ≤ total l := by
  induction l with
  | nil => cases h
  | cons g l ih =>
    unfold total at ih ⊢
    rw [List.map_cons, List.sum_cons]
    rcases List.mem_cons.1 h with rfl | h
    · omega
    · have := ih h
      omega
theorem joined_few {s : List UInt8} (hs : s.all plainB = true) (n : List UInt8) : ∀ l : List HField, (∀ f ∈ l, right f = true) → (joinV l n s).all plainB = true ∧ (joinV l n s).length ≤ total l + 2 * l.length + s.length
  | [], _ => ⟨hs, by show s.length ≤ _; omega⟩
  | f :: l, hr => by
    obtain ⟨h1, h2⟩ := joined_few hs n l (fun g hg => hr g (List.mem_cons_of_mem _ hg))
    have ht : total (f :: l) = f.1.length + f.2.length + total l := by unfold total; rw [List.map_cons, List.sum_cons]
    have hl : (f :: l).length = l.length + 1 := rfl
    by_cases hh : hit n f = true
    · have e : joinV (f :: l) n s = f.2 ++ [44, 32] ++ joinV l n s := by
        unfold joinV
        rw [List.filter_cons_of_pos hh, List.flatMap_cons]
        simp
      rw [e, List.all_append, List.all_append, (right_plain (hr f List.mem_cons_self)).2, h1, List.length_append, List.length_append, ht, hl]
      refine ⟨by decide, ?_⟩
      show f.2.length + 2 + (joinV l n s).length ≤ _
      omega
    · have e : joinV (f :: l) n s = joinV l n s := by
        unfold joinV
        rw [List.filter_cons_of_neg hh]
      rw [e, ht, hl]
      exact ⟨h1, by omega⟩
/-- what is asked here: few fields, a host of one letter, a target of one, an upgrade of a few letters or none -/
def askS (l : List HField) (u : List UInt8) : AskP := ⟨[71, 69, 84], [47], [104], 0, l, [], false, [49], u⟩
def replyS (l : List HField) (u : List UInt8) : ReplyP := ⟨200, [], l, 1, 0, true, u⟩
theorem strip_ask {l : List HField} {u : List UInt8} (hr : ∀ f ∈ l, right f = true) (h20 : l.length ≤ 20) (h3 : total l ≤ 300) (hu : u.all plainB = true) (hul : u.length ≤ 20) :
    read8 false (requestE (askS l u)) = .done ⟨[71, 69, 84], [47], 0, [], 1, (askF (askS l u)).map EmitPure.told⟩ (requestE (askS l u)).length := by
  obtain ⟨x1, x2⟩ := joined_few (s := [49]) (by decide) XFFN l hr
  obtain ⟨v1, v2⟩ := joined_few (s := BARB) (by decide) VIAN l hr
  have hon := on_len true l
  have hf : ∀ f ∈ askF (askS l u), EmitPure.Fair f := by
    intro f hf
    rw [show askF (askS l u) = (HOSTN, [104]) :: (onE true l ++ ((XFFN, joinV l XFFN [49]) :: (VIAN, joinV l VIAN BARB) :: ([] ++ (if u = [] then [] else [(CONN, UPV), (UPN, u)])))) from rfl] at hf
    rcases List.mem_cons.1 hf with rfl | q
    · exact fair_of (by decide) (by decide) (by decide)
    rcases List.mem_append.1 q with q | q
    · obtain ⟨r1, r2⟩ := right_plain (hr f (on_mem q))
      exact fair_of r1 r2 (by have := total_mem (on_mem q); omega)
    rcases List.mem_cons.1 q with rfl | q
    · exact fair_of (by decide) x1 (by have e : XFFN.length = 15 := rfl; simp only [List.length_cons, List.length_nil] at x2; rw [e]; omega)
    rcases List.mem_cons.1 q with rfl | q
    · exact fair_of (by decide) v1 (by have e : VIAN.length = 3 := rfl; have e2 : BARB.length = 12 := rfl; rw [e]; omega)
    rcases List.mem_append.1 q with q | q
    · cases q
    · by_cases hu0 : u = []
      · rw [if_pos hu0] at q
        cases q
      · rw [if_neg hu0] at q
        rcases List.mem_cons.1 q with rfl | q
        · exact fair_of (by decide) (by decide) (by decide)
        · rw [List.mem_singleton] at q
          subst q
          exact fair_of (by decide) hu (by have e : UPN.length = 7 := rfl; rw [e]; omega)
  have hc : (askF (askS l u)).length ≤ 32 := by
    rw [show askF (askS l u) = (HOSTN, [104]) :: (onE true l ++ ((XFFN, joinV l XFFN [49]) :: (VIAN, joinV l VIAN BARB) :: ([] ++ (if u = [] then [] else [(CONN, UPV), (UPN, u)])))) from rfl]
    simp only [List.length_cons, List.length_append, List.nil_append]
    by_cases hu0 : u = []
    · rw [if_pos hu0, List.length_nil]; omega
    · rw [if_neg hu0]; simp only [List.length_cons, List.length_nil]; omega
  have e : requestE (askS l u) = startL [71, 69, 84] [47] ++ 13 :: 10 :: ((askF (askS l u)).flatMap lineE ++ 13 :: 10 :: []) := rfl
  have e2 : (requestE (askS l u)).length = (startL [71, 69, 84] [47]).length + 2 + ((askF (askS l u)).flatMap lineE).length + 2 := by
    rw [e]
    simp only [List.length_append, List.length_cons, List.length_nil]
    omega
  rw [e2, e, request_back (by decide) (by decide) (by decide) (by decide) (by decide) hc hf]
theorem strip_reply {l : List HField} {u : List UInt8} (hr : ∀ f ∈ l, right f = true) (h20 : l.length ≤ 20) (h3 : total l ≤ 300) (hu : u.all plainB = true) (hul : u.length ≤ 20) :
    read8 true (headE (replyS l u)) = .done ⟨[], [], 200, reasonL 200, 1, (replyF (replyS l u)).map EmitPure.told⟩ (headE (replyS l u)).length := by
  obtain ⟨v1, v2⟩ := joined_few (s := BARB) (by decide) VIAN l hr
  have hon := on_len false l
  have hf : ∀ f ∈ replyF (replyS l u), EmitPure.Fair f := by
    intro f hf
    rw [show replyF (replyS l u) = onE false l ++ ((VIAN, joinV l VIAN BARB) :: ([] ++ ([] ++ (if u = [] then [] else [(CONN, UPV), (UPN, u)])))) from rfl] at hf
    rcases List.mem_append.1 hf with q | q
    · obtain ⟨r1, r2⟩ := right_plain (hr f (on_mem q))
      exact fair_of r1 r2 (by have := total_mem (on_mem q); omega)
    rcases List.mem_cons.1 q with rfl | q
    · exact fair_of (by decide) v1 (by have e : VIAN.length = 3 := rfl; have e2 : BARB.length = 12 := rfl; rw [e]; omega)
    rcases List.mem_append.1 q with q | q
    · cases q
    rcases List.mem_append.1 q with q | q
    · cases q
    · by_cases hu0 : u = []
      · rw [if_pos hu0] at q
        cases q
      · rw [if_neg hu0] at q
        rcases List.mem_cons.1 q with rfl | q
        · exact fair_of (by decide) (by decide) (by decide)
        · rw [List.mem_singleton] at q
          subst q
          exact fair_of (by decide) hu (by have e : UPN.length = 7 := rfl; rw [e]; omega)
  have hc : (replyF (replyS l u)).length ≤ 32 := by
    rw [show replyF (replyS l u) = onE false l ++ ((VIAN, joinV l VIAN BARB) :: ([] ++ ([] ++ (if u = [] then [] else [(CONN, UPV), (UPN, u)])))) from rfl]
    simp only [List.length_cons, List.length_append, List.nil_append]
    by_cases hu0 : u = []
    · rw [if_pos hu0, List.length_nil]; omega
    · rw [if_neg hu0]; simp only [List.length_cons, List.length_nil]; omega
  obtain ⟨p1, p2, _⟩ := reason_plain 200
  have e : headE (replyS l u) = statusL (200 : Nat) (reasonL 200) ++ 13 :: 10 :: ((replyF (replyS l u)).flatMap lineE ++ 13 :: 10 :: []) := rfl
  have e2 : (headE (replyS l u)).length = (statusL (200 : Nat) (reasonL 200)).length + 2 + ((replyF (replyS l u)).flatMap lineE).length + 2 := by
    rw [e]
    simp only [List.length_append, List.length_cons, List.length_nil]
    omega
  rw [e2, e, head_back (by decide) (by decide) p1 (by omega) hc hf]
  rfl
end Go.Proofs.YtblpooddamkfdaaGreatDoor.EmitStripP

/- Layer 13: a request that was read, written to go on and read again, is the same request. No program is named. -/
namespace Go.Proofs.YtblpooddamkfdaaGreatDoor.EmitForwQ
open Bytes LexPure LexList LexNum CutAt FieldsPure HeadPure HeadWrit HeadCut HeadLines DecN HostPure PathPure PathForm TargetPure FramePure InflowPure EmitPure EmitBack EmitStripP EmitForwP
set_option maxRecDepth 20000
/-- a head that is written is read, however long its start line within the bound -/
theorem request_back2 {m t : List UInt8} (hm : token m = true) (hml : m.length ≤ 16) (ht : t.all seenB = true) (ht0 : 0 < t.length) (htl : m.length + t.length + 10 ≤ 1100) {G : List HField} (hG : G.length ≤ 32) (hf : ∀ f ∈ G, EmitPure.Fair f) (s : List UInt8) :
    read8 false (startL m t ++ 13 :: 10 :: (G.flatMap lineE ++ 13 :: 10 :: s)) = .done ⟨m, t, 0, [], 1, G.map EmitPure.told⟩ ((startL m t).length + 2 + (G.flatMap lineE).length + 2) := by
  rw [read_start2 hm hml ht ht0 htl, lines_back _ s G 32 [] _ hG hf, List.nil_append]
/-! ### the host's text -/
theorem hostC_say (c : UInt8) : hostC c = true → plainB c = true ∧ blankB c = false := by
  have := all_bytes (p := fun c => !hostC c || (plainB c && !blankB c)) (by decide +kernel) c
  intro h
  rw [h] at this
  simpa using this
theorem host_chars {h : List UInt8} (hh : host h = true) : ∀ c ∈ h, plainB c = true ∧ blankB c = false := by
  unfold host at hh
  simp only [Bool.and_eq_true] at hh
  exact fun c hc => hostC_say c (List.all_eq_true.1 hh.1.1.2 c hc)
theorem dec_chars (n : Nat) : ∀ c ∈ decN n, plainB c = true ∧ blankB c = false := fun c hc => by
  obtain ⟨a, b, _⟩ := dec_byte c (decN_all n c hc).2
  exact ⟨a, b⟩
theorem port_chars {p : Int} (h1 : 0 ≤ p) (h2 : p ≤ 65535) : (∀ c ∈ (if 0 < p then 58 :: decZ p else []), plainB c = true ∧ blankB c = false) ∧ (if 0 < p then 58 :: decZ p else []).length ≤ 6 := by
  by_cases hp : 0 < p
  · rw [if_pos hp]
    obtain ⟨k, rfl⟩ : ∃ k : Nat, p = k := ⟨p.toNat, by omega⟩
    have e : decZ (k : Int) = decN k := by
      unfold decZ
      rw [if_neg (by omega), Int.natAbs_natCast]
    rw [e]
    have hl : (decN k).length ≤ 5 := decN_len 4 k (by omega)
    refine ⟨fun c hc => ?_, by rw [List.length_cons]; omega⟩
    rcases List.mem_cons.1 hc with q | q
    · rw [q]; decide
    · exact dec_chars k c q
  · rw [if_neg hp]
    exact ⟨fun c hc => (by cases hc), by simp⟩
theorem trim_none {l : List UInt8} (h : ∀ c ∈ l, blankB c = false) : trim l = l := by
  refine trim_id (fun c r e => h c (by rw [e]; exact List.mem_cons_self)) (fun c r e => h c ?_)
  have : c ∈ l.reverse := by rw [e]; exact List.mem_cons_self
  exact List.mem_reverse.1 this
theorem host_text {h : List UInt8} {p : Int} (hh : host h = true) (h1 : 0 ≤ p) (h2 : p ≤ 65535) :
    (h ++ (if 0 < p then 58 :: decZ p else [])).all plainB = true ∧ trim (h ++ (if 0 < p then 58 :: decZ p else [])) = h ++ (if 0 < p then 58 :: decZ p else []) ∧ (h ++ (if 0 < p then 58 :: decZ p else [])).length ≤ 70 := by
  obtain ⟨p1, p2⟩ := port_chars h1 h2
  have hl := host_len hh
  have ha : ∀ c ∈ h ++ (if 0 < p then 58 :: decZ p else []), plainB c = true ∧ blankB c = false := fun c hc => by
    rcases List.mem_append.1 hc with q | q
    · exact host_chars hh c q
    · exact p1 c q
  exact ⟨List.all_eq_true.2 (fun c hc => (ha c hc).1), trim_none (fun c hc => (ha c hc).2), by rw [List.length_append]; omega⟩
/-! ### an element as an upgrade's value -/
/-- what may be asked for as an upgrade -/
structure Up (u : List UInt8) : Prop where
  one : elements u = [u]
  low : lower u = u
  plain : u.all plainB = true
  trim_ : trim u = u
  len : u.length ≤ 200
theorem elements_self {e : List UInt8} (h1 : e.isEmpty = false) (h2 : trim e = e) (h3 : noComma e = true) : elements e = [e] := by
  have hp : pieces e = [e] := pieces_plain h3
  unfold elements
  rw [hp]
  simp [h2, h1]
/-! ### what goes on -/
structure First (h : H8) (hn : List UInt8) (hp : Int) : Prop where
  ok : (parse6 h.method h.target).2 = 0
  form : (parse6 h.method h.target).1.form ≠ 3
  meth : token h.method = true
  ml : h.method.length ≤ 16
  line : h.method.length + h.target.length + 10 ≤ 1100
  good : ∀ f ∈ h.fields, goodF f
  few : h.fields.length ≤ 20
  short : ∀ f ∈ h.fields, f.1.length + f.2.length ≤ 200
  via : getN h.fields VIAN ≤ 1
  xff : getN h.fields XFFN ≤ 1
  host : HostPure.host hn = true
  low : lower hn = hn
  p0 : 0 ≤ hp
  p1 : hp ≤ 65535
def askOf (h : H8) (hn : List UInt8) (hp : Int) (body from_ up : List UInt8) (sized : Bool) : AskP := ⟨h.method, origin6 (parse6 h.method h.target).1, hn, hp, h.fields, body, sized, from_, up⟩
section
variable {h : H8} {hn : List UInt8} {hp : Int} {body from_ up : List UInt8} {sized : Bool}
theorem First.right (F : First h hn hp) : ∀ f ∈ h.fields, FieldsPure.right f = true := fun f hf => by
  obtain ⟨a, b⟩ := F.good f hf
  unfold FieldsPure.right
  rw [a, b]
  simpa using (show f.1.length + f.2.length ≤ 512 by have := F.short f hf; omega)
theorem ask_fair (F : First h hn hp) (hb : body.length ≤ 1000) (hf1 : from_.all plainB = true) (hf2 : from_.length ≤ 40) (hu : up ≠ [] → Up up) :
    (∀ f ∈ askF (askOf h hn hp body from_ up sized), EmitPure.Fair f) ∧ (askF (askOf h hn hp body from_ up sized)).length ≤ 32 := by
  obtain ⟨t1, t2, t3⟩ := host_text F.host F.p0 F.p1
  obtain ⟨x1, x2⟩ := joined_one F.xff F.right F.short hf1
  obtain ⟨v1, v2⟩ := joined_one (s := BARB) F.via F.right F.short (by decide)
  have hon := on_len true h.fields
  have hfew := F.few
  have e : askF (askOf h hn hp body from_ up sized) = (EmitPure.HOSTN, hn ++ (if 0 < hp then 58 :: decZ hp else [])) :: (onE true h.fields ++ ((XFFN, joinV h.fields XFFN from_) :: (VIAN, joinV h.fields VIAN BARB) :: ((if sized then [(CLN, decZ body.length)] else []) ++ (if up = [] then [] else [(CONN, UPV), (UPN, up)])))) := rfl
  rw [e]
  have ed : decZ (body.length : Int) = decN body.length := by
    unfold decZ
    rw [if_neg (by omega), Int.natAbs_natCast]
  constructor
  · intro f hf
    rcases List.mem_cons.1 hf with rfl | q
    · exact fair_of (by decide) t1 (by have e : EmitPure.HOSTN.length = 4 := rfl; rw [e]; omega)
    rcases List.mem_append.1 q with q | q
    · have hm := on_mem q
      obtain ⟨r1, r2⟩ := right_plain (F.right f hm)
      exact fair_of r1 r2 (by have := F.short f hm; omega)
    rcases List.mem_cons.1 q with rfl | q
    · exact fair_of (by decide) x1 (by have e : XFFN.length = 15 := rfl; rw [e]; omega)
    rcases List.mem_cons.1 q with rfl | q
    · exact fair_of (by decide) v1 (by have e : VIAN.length = 3 := rfl; have e2 : BARB.length = 12 := rfl; rw [e]; omega)
    rcases List.mem_append.1 q with q | q
    · cases sized with
      | false => cases q
      | true =>
        rw [if_pos rfl, List.mem_singleton] at q
        subst q
        rw [ed]
        exact fair_of (by decide) (List.all_eq_true.2 (dec_plain _)) (by have e : CLN.length = 14 := rfl; have := dec_len15 (n := body.length) (by omega); rw [e]; omega)
    · by_cases hu0 : up = []
      · rw [if_pos hu0] at q
        cases q
      · rw [if_neg hu0] at q
        rcases List.mem_cons.1 q with rfl | q
        · exact fair_of (by decide) (by decide) (by decide)
        · rw [List.mem_singleton] at q
          subst q
          exact fair_of (by decide) (hu hu0).plain (by have e : UPN.length = 7 := rfl; have := (hu hu0).len; rw [e]; omega)
  · simp only [List.length_cons, List.length_append]
    have l1 : (if sized then [(CLN, decZ (body.length : Int))] else [] : List HField).length ≤ 1 := by cases sized <;> simp
    have l2 : (if up = [] then [] else [(CONN, UPV), (UPN, up)] : List HField).length ≤ 2 := by split <;> simp
    omega
/-- the head that is read again, and where it ends -/
theorem head_again (F : First h hn hp) (hb : body.length ≤ 1000) (hf1 : from_.all plainB = true) (hf2 : from_.length ≤ 40) (hu : up ≠ [] → Up up) :
    ∃ n, read8 false (requestE (askOf h hn hp body from_ up sized)) = .done ⟨h.method, origin6 (parse6 h.method h.target).1, 0, [], 1, (askF (askOf h hn hp body from_ up sized)).map EmitPure.told⟩ n ∧
      n + body.length = (requestE (askOf h hn hp body from_ up sized)).length ∧ (requestE (askOf h hn hp body from_ up sized)).drop n = body := by
  obtain ⟨a1, a2⟩ := ask_fair (body := body) (sized := sized) F hb hf1 hf2 hu
  obtain ⟨_, _, g1, g2, g3⟩ := parse_go F.ok F.form
  have hl := F.line
  have e : requestE (askOf h hn hp body from_ up sized) = startL h.method (origin6 (parse6 h.method h.target).1) ++ 13 :: 10 :: ((askF (askOf h hn hp body from_ up sized)).flatMap lineE ++ 13 :: 10 :: body) := rfl
  refine ⟨(startL h.method (origin6 (parse6 h.method h.target).1)).length + 2 + ((askF (askOf h hn hp body from_ up sized)).flatMap lineE).length + 2, ?_, ?_, ?_⟩
  · rw [e]
    exact request_back2 F.meth F.ml g3 g2 (by omega) a2 a1 body
  · rw [e]
    simp only [List.length_append, List.length_cons]
    omega
  · rw [e, ← List.drop_drop, ← List.drop_drop, ← List.drop_drop, List.drop_left]
    show ((List.drop _ ((askF (askOf h hn hp body from_ up sized)).flatMap lineE ++ 13 :: 10 :: body)).drop 2) = body
    rw [List.drop_left]
    rfl
theorem getV_first {f : HField} {G : List HField} {n : List UInt8} (hh : hit n f = true) : getV (f :: G) n = f.2 := by
  unfold getV
  rw [List.find?_cons_of_pos hh]
  rfl
theorem elems_cons (f : HField) (G : List HField) (n : List UInt8) : elems (f :: G) n = (if hit n f then elements f.2 else []) ++ elems G n := by
  unfold elems
  by_cases hh : hit n f = true
  · rw [List.filter_cons_of_pos hh, List.flatMap_cons, if_pos hh]
  · rw [List.filter_cons_of_neg hh, if_neg hh, List.nil_append]
theorem ask_form : askF (askOf h hn hp body from_ up sized) = (EmitPure.HOSTN, hn ++ (if 0 < hp then 58 :: decZ hp else [])) :: (onE true h.fields ++ ((XFFN, joinV h.fields XFFN from_) :: (VIAN, joinV h.fields VIAN BARB) :: ((if sized then [(CLN, decZ body.length)] else []) ++ (if up = [] then [] else [(CONN, UPV), (UPN, up)])))) := rfl
/-- whom it is for -/
theorem host_again (F : First h hn hp) {m x : List UInt8} {t : Tgt} (ht : t.form = 1 ∨ t.form = 4) :
    host11 ⟨m, x, 0, [], 1, (askF (askOf h hn hp body from_ up sized)).map EmitPure.told⟩ t = some (hn, hp) := by
  obtain ⟨_, t2, _⟩ := host_text F.host F.p0 F.p1
  have hN : getN ((askF (askOf h hn hp body from_ up sized)).map EmitPure.told) InflowPure.HOSTN = 1 := by
    rw [getN_told, ask_count, on_none (.inr (by decide))]
    cases sized <;> by_cases hu : up = [] <;> simp only [askOf, hu, Bool.false_eq_true, if_true, if_false] <;> decide
  have hV : getV ((askF (askOf h hn hp body from_ up sized)).map EmitPure.told) InflowPure.HOSTN = hn ++ (if 0 < hp then 58 :: decZ hp else []) := by
    rw [ask_form, List.map_cons, getV_first (by show alike EmitPure.HOSTN InflowPure.HOSTN = true; decide)]
    exact t2
  obtain ⟨a1, a2, a3⟩ := auth_some (auth_again F.host F.low F.p0 F.p1)
  unfold host11
  dsimp only
  rw [hN, hV, a1, a2, a3, if_neg (by omega), if_neg (by omega), if_neg (by omega), if_neg (by omega)]
theorem expect_again : getN ((askF (askOf h hn hp body from_ up sized)).map EmitPure.told) EXPECT = 0 := by
  rw [getN_told, ask_count, on_none (.inr (by decide))]
  cases sized <;> by_cases hu : up = [] <;> simp only [askOf, hu, Bool.false_eq_true, if_true, if_false] <;> decide
theorem coding_again : getN ((askF (askOf h hn hp body from_ up sized)).map EmitPure.told) TENC = 0 := by
  rw [getN_told, ask_count, on_te]
  cases sized <;> by_cases hu : up = [] <;> simp only [askOf, hu, Bool.false_eq_true, if_true, if_false] <;> decide
theorem conn_again : getN ((askF (askOf h hn hp body from_ up sized)).map EmitPure.told) CONNECTION = if up = [] then 0 else 1 := by
  rw [getN_told, ask_count, on_conn]
  cases sized <;> by_cases hu : up = [] <;> simp only [askOf, hu, Bool.false_eq_true, if_true, if_false] <;> decide
theorem size_again : getN ((askF (askOf h hn hp body from_ up sized)).map EmitPure.told) CLEN = if sized then 1 else 0 := by
  rw [getN_told, ask_count, on_cl]
  cases sized <;> by_cases hu : up = [] <;> simp only [askOf, hu, Bool.false_eq_true, if_true, if_false] <;> decide
theorem lens_skip {f : HField} {G : List HField} (hf : hit CLEN f = false) : lens (f :: G) = lens G := by
  rw [lens_cons, if_neg (by rw [hf]; decide)]
/-- how it is framed -/
theorem frame_again (hb : body.length ≤ 1000) : request9 1 ((askF (askOf h hn hp body from_ up sized)).map EmitPure.told) 1000 = if sized then (2, (body.length : Int), 0) else (1, 0, 0) := by
  unfold request9
  rw [coding_again, if_neg (by omega), size_again]
  cases sized with
  | false => simp
  | true =>
    have e : lens ((askF (askOf h hn hp body from_ up true)).map EmitPure.told) = [decN body.length] := by
      have ed : decZ (body.length : Int) = decN body.length := by
        unfold decZ
        rw [if_neg (by omega), Int.natAbs_natCast]
      rw [ask_form, List.map_cons, lens_skip (by show alike EmitPure.HOSTN CLEN = false; decide), List.map_append, lens_append, lens_none (by rw [getN_told]; exact on_cl _ _), List.nil_append,
        List.map_cons, lens_skip (by show alike XFFN CLEN = false; decide), List.map_cons, lens_skip (by show alike VIAN CLEN = false; decide), if_pos rfl, List.map_append, lens_append, ed, List.map_cons, lens_cons,
        if_pos (by show alike CLN CLEN = true; decide)]
      have e2 : lens ((if up = [] then [] else [(CONN, UPV), (UPN, up)] : List HField).map EmitPure.told) = [] := by
        refine lens_none ?_
        rw [getN_told, getN_up]
        by_cases hu : up = [] <;> simp only [hu, if_true, if_false] <;> decide
      rw [e2]
      show (pieces (trim (decN body.length))).map trim ++ lens [] ++ [] = _
      rw [dec_trim, dec_pieces]
      show [trim (decN body.length)] ++ [] ++ [] = _
      rw [dec_trim]
      rfl
    have hl : lenN ((askF (askOf h hn hp body from_ up true)).map EmitPure.told) = body.length := by
      unfold lenN
      rw [e, len_said (by omega)]
    rw [if_pos rfl, hl, if_neg (by decide), if_neg (by omega), if_neg (by omega), if_pos rfl]
/-- the upgrade -/
theorem up_again {m x : List UInt8} {kind : Int} (hu : up ≠ [] → Up up ∧ m = TargetPure.GET ∧ kind = 1) :
    up11 ⟨m, x, 0, [], 1, (askF (askOf h hn hp body from_ up sized)).map EmitPure.told⟩ kind = up := by
  have hU : elems ((askF (askOf h hn hp body from_ up sized)).map EmitPure.told) UPG = if up = [] then [] else elements (trim up) := by
    by_cases hu0 : up = []
    · rw [if_pos hu0]
      refine elems_none ?_
      rw [getN_told, ask_count, on_none (.inl (one_low (by decide)))]
      cases sized <;> simp only [askOf, hu0, Bool.false_eq_true, if_true, if_false] <;> decide
    · rw [if_neg hu0, ask_form, List.map_cons, elems_cons, if_neg (by show ¬ alike EmitPure.HOSTN UPG = true; decide), List.nil_append, List.map_append, elems_append, elems_none (by rw [getN_told]; exact on_none (.inl (one_low (by decide)))), List.nil_append,
        List.map_cons, elems_cons, if_neg (by show ¬ alike XFFN UPG = true; decide), List.nil_append, List.map_cons, elems_cons, if_neg (by show ¬ alike VIAN UPG = true; decide), List.nil_append, List.map_append, elems_append]
      have e1 : elems ((if sized then [(CLN, decZ (body.length : Int))] else [] : List HField).map EmitPure.told) UPG = [] := by
        refine elems_none ?_
        rw [getN_told]
        cases sized with
        | false => rfl
        | true => rw [if_pos rfl, getN_cons, getN_nil]; rfl
      rw [e1, List.nil_append, if_neg hu0, List.map_cons, elems_cons, if_neg (by show ¬ alike CONN UPG = true; decide), List.nil_append, List.map_cons, elems_cons, if_pos (by show alike UPN UPG = true; decide)]
      show elements (trim up) ++ [] = _
      rw [List.append_nil]
  have hC : up ≠ [] → hasE ((askF (askOf h hn hp body from_ up sized)).map EmitPure.told) CONNECTION UPG = true := fun hu0 => by
    unfold hasE
    rw [ask_form, List.map_cons, elems_cons, if_neg (by show ¬ alike EmitPure.HOSTN CONNECTION = true; decide), List.nil_append, List.map_append, elems_append, elems_none (by rw [getN_told]; exact on_conn _ _), List.nil_append,
      List.map_cons, elems_cons, if_neg (by show ¬ alike XFFN CONNECTION = true; decide), List.nil_append, List.map_cons, elems_cons, if_neg (by show ¬ alike VIAN CONNECTION = true; decide), List.nil_append, List.map_append, elems_append,
      if_neg hu0, List.map_cons, elems_cons, if_pos (show hit CONNECTION (EmitPure.told (CONN, UPV)) = true from by decide)]
    have e : (elements (EmitPure.told (CONN, UPV)).2).any (fun x => alike x UPG) = true := by decide
    rw [List.any_append, List.any_append, e, Bool.true_or, Bool.or_true]
  unfold up11
  dsimp only
  rw [hU]
  by_cases hu0 : up = []
  · rw [if_pos hu0, if_neg (fun q => absurd q.2.2.2.1 (by decide)), hu0]
  · obtain ⟨U, h1, h2⟩ := hu hu0
    rw [if_neg hu0, U.trim_, U.one, if_pos ⟨h1, by omega, h2, rfl, hC hu0⟩]
    exact U.low
end
end Go.Proofs.YtblpooddamkfdaaGreatDoor.EmitForwQ

/- Layer 13: what the first reading of a request gives to the second. No program is named. -/
namespace Go.Proofs.YtblpooddamkfdaaGreatDoor.EmitForwR
open Bytes LexPure LexList LexNum CutAt FieldsPure HeadPure HeadWrit HeadCut HeadLines DecN HostPure PathPure PathForm TargetPure FramePure InflowPure EmitPure EmitBack EmitStripP EmitForwP EmitForwQ
set_option maxRecDepth 20000
/-- of a request that was read: whom it is for -/
theorem host_of {h : H8} {hn : List UInt8} {hp : Int} (hok : (parse6 h.method h.target).2 = 0) (hf : (parse6 h.method h.target).1.form ≠ 3) (hh : host11 h (parse6 h.method h.target).1 = some (hn, hp)) (hne : hn ≠ []) :
    ∃ v, authO v = some (hn, hp) := by
  unfold host11 at hh
  split at hh
  · cases hh
  rename_i c1
  split at hh
  · cases hh
  rename_i c2
  split at hh
  · rename_i c3
    injection hh with e
    injection e with e1 e2
    obtain ⟨a, ha⟩ := (parse_go hok hf).2.1 (by omega)
    exact ⟨a, by rw [ha, e1, e2]⟩
  split at hh
  · injection hh with e
    injection e with e1 e2
    exact absurd e1.symm hne
  · rename_i c4
    injection hh with e
    injection e with e1 e2
    have h1 : getN h.fields InflowPure.HOSTN = 1 := by omega
    have hE : authE (getV h.fields InflowPure.HOSTN) = 0 := by
      by_cases hz : authE (getV h.fields InflowPure.HOSTN) = 0
      · exact hz
      · exact absurd ⟨h1, hz⟩ c2
    cases ha : authO (getV h.fields InflowPure.HOSTN) with
    | none =>
      obtain ⟨_, _, q⟩ := auth_none ha
      rw [q] at hE
      exact absurd hE (by decide)
    | some x =>
      obtain ⟨a, b⟩ := x
      obtain ⟨q1, q2, _⟩ := auth_some ha
      exact ⟨_, by rw [ha, ← e1, ← e2, q1, q2]⟩
theorem first_of {D : List UInt8} {h : H8} {n : Nat} {hn : List UInt8} {hp : Int} (hd : read8 false D = .done h n) (hok : (parse6 h.method h.target).2 = 0) (hf : (parse6 h.method h.target).1.form ≠ 3)
    (hh : host11 h (parse6 h.method h.target).1 = some (hn, hp)) (hne : hn ≠ []) (few : h.fields.length ≤ 20) (short : ∀ f ∈ h.fields, f.1.length + f.2.length ≤ 200) (via : getN h.fields VIAN ≤ 1) (xff : getN h.fields XFFN ≤ 1) : First h hn hp := by
  obtain ⟨g1, g2, _, _, g5, g6⟩ := read_good hd
  obtain ⟨v, hv⟩ := host_of hok hf hh hne
  obtain ⟨a1, a2, a3, a4⟩ := authO_some hv
  exact ⟨hok, hf, g1, g2, g5, g6, few, short, via, xff, a1, a2, a3, a4⟩
/-! ### the upgrade that was asked for -/
theorem pieces_sub : ∀ {s p : List UInt8}, p ∈ pieces s → ∀ c ∈ p, c ∈ s
  | [], p, hp, c, hc => by
    rw [show pieces [] = [[]] from rfl, List.mem_singleton] at hp
    rw [hp] at hc
    cases hc
  | x :: s, p, hp, c, hc => by
    rw [pieces] at hp
    by_cases hx : (x == 44) = true
    · rw [if_pos hx] at hp
      rcases List.mem_cons.1 hp with q | q
      · rw [q] at hc
        cases hc
      · exact List.mem_cons_of_mem _ (pieces_sub q c hc)
    · rw [if_neg hx] at hp
      cases hps : pieces s with
      | nil => exact absurd hps (pieces_ne s)
      | cons p0 ps =>
        rw [hps] at hp
        dsimp only at hp
        rcases List.mem_cons.1 hp with q | q
        · rw [q] at hc
          rcases List.mem_cons.1 hc with r | r
          · rw [r]
            exact List.mem_cons_self
          · exact List.mem_cons_of_mem _ (pieces_sub (by rw [hps]; exact List.mem_cons_self) c r)
        · exact List.mem_cons_of_mem _ (pieces_sub (by rw [hps]; exact List.mem_cons_of_mem _ q) c hc)
theorem elements_all {s e : List UInt8} (h : e ∈ elements s) (hs : s.all plainB = true) : e.all plainB = true := by
  unfold elements at h
  rw [List.mem_filter, List.mem_map] at h
  obtain ⟨⟨p, hp, rfl⟩, _⟩ := h
  rw [trim_plain]
  exact List.all_eq_true.2 (fun c hc => List.all_eq_true.1 hs c (pieces_sub hp c hc))
theorem lower_plain (s : List UInt8) : (lower s).all plainB = s.all plainB := by
  unfold lower
  rw [List.all_map]
  congr 1
  funext c
  exact small_plain c
theorem lower_noComma (s : List UInt8) : noComma (lower s) = noComma s := by
  unfold noComma lower
  rw [List.all_map]
  congr 1
  funext c
  show (small c != 44) = (c != 44)
  unfold bne
  rw [small_comma]
theorem up_of {h : H8} {kind : Int} (good : ∀ f ∈ h.fields, goodF f) (short : ∀ f ∈ h.fields, f.1.length + f.2.length ≤ 200) (hne : up11 h kind ≠ []) : Up (up11 h kind) ∧ h.method = TargetPure.GET ∧ kind = 1 := by
  unfold up11 at hne ⊢
  by_cases hc : h.method = GET ∧ 0 < h.minor ∧ kind = 1 ∧ (elems h.fields UPG).length = 1 ∧ hasE h.fields CONNECTION UPG = true
  · rw [if_pos hc]
    obtain ⟨c1, _, c3, c4, _⟩ := hc
    refine ⟨?_, c1, c3⟩
    match hq : elems h.fields UPG, c4 with
    | [e], _ =>
      have he : e ∈ elems h.fields UPG := by rw [hq]; exact List.mem_singleton.2 rfl
      unfold elems at he
      rw [List.mem_flatMap] at he
      obtain ⟨f, hf, hm⟩ := he
      have hfm := (List.mem_filter.1 hf).1
      obtain ⟨m1, m2⟩ := elements_mem hm
      have m3 := elements_noComma hm
      have m4 := LexFlat.elements_short hm
      have hp : f.2.all plainB = true := by
        have := (good f hfm).2
        unfold value at this
        rw [Bool.and_eq_true] at this
        exact this.1
      have m5 := elements_all hm hp
      have l1 : (lower e).isEmpty = false := by
        cases e with
        | nil => cases m1
        | cons => rfl
      have l2 : trim (lower e) = lower e := by rw [trim_low, m2]
      have l3 : noComma (lower e) = true := by rw [lower_noComma]; exact m3
      show Up (lower e)
      exact ⟨elements_self l1 l2 l3, lower_lower e, by rw [lower_plain]; exact m5, l2, by rw [lower_length]; have := short f hfm; omega⟩
  · rw [if_neg hc] at hne
    exact absurd rfl hne
end Go.Proofs.YtblpooddamkfdaaGreatDoor.EmitForwR

/- Layer 13: what was read, written and read again, whole. No program is named. -/
namespace Go.Proofs.YtblpooddamkfdaaGreatDoor.EmitForwS
open Bytes LexPure LexList LexNum CutAt FieldsPure HeadPure HeadWrit HeadCut HeadLines DecN HostPure PathPure PathForm TargetPure FramePure InflowPure EmitPure EmitBack EmitStripP EmitForwP EmitForwQ EmitForwR R11D
set_option maxRecDepth 20000
theorem chunk_bound {most : Int} (h0 : 0 ≤ most) (D : List UInt8) : ((chunkD most D).1.length : Int) ≤ most := by
  have hk := ((DChunkPure.Ok.start most).run D).most
  have hs := DChunkPure.ans_size (DChunkPure.begin_ most) D
  have hm := (DChunkPure.run_size (DChunkPure.begin_ most) D).2
  unfold DChunkPure.next at hs
  rw [hm] at hk
  have e : (DChunkPure.begin_ most).most = most := rfl
  rw [e] at hk
  show ((DChunkPure.ans (DChunkPure.begin_ most) D).1.length : Int) ≤ most
  omega
/-- what is known of a request that was read -/
structure Read1 (D : List UInt8) (q : Rq) : Prop where
  head : ∃ k, read8 false D = .done q.head k
  ok : (parse6 q.head.method q.head.target).2 = 0
  tgt : q.target = (parse6 q.head.method q.head.target).1
  host : host11 q.head (parse6 q.head.method q.head.target).1 = some (q.host, q.port)
  body : q.body.length ≤ 1000
  up : ∃ kind, q.upgrade = up11 q.head kind ∧ (kind = 1 → q.sized = false)
  none_ : q.sized = false → q.body = []
theorem read_first {D : List UInt8} {q : Rq} {n : Int} (h : readD 1000 D = .whole q n) : Read1 D q := by
  unfold readD at h
  cases hr : read8 false D with
  | wait => rw [hr] at h; cases h
  | bad e => rw [hr] at h; cases h
  | done hd k =>
    rw [hr] at h
    dsimp only at h
    unfold restD at h
    by_cases h1 : (parse6 hd.method hd.target).2 = 0
    case neg => rw [if_pos h1] at h; cases h
    rw [if_neg (fun x => x h1)] at h
    cases hh : host11 hd (parse6 hd.method hd.target).1 with
    | none => rw [hh] at h; cases h
    | some p =>
      obtain ⟨hn, hp⟩ := p
      rw [hh] at h
      dsimp only at h
      by_cases h2 : 0 < getN hd.fields EXPECT
      · rw [if_pos h2] at h; cases h
      rw [if_neg h2] at h
      by_cases h3 : (request9 hd.minor hd.fields 1000).2.2 = 0
      case neg => rw [if_pos h3] at h; cases h
      rw [if_neg (fun x => x h3)] at h
      by_cases h4 : hd.method = TargetPure.CONNECT ∧ (request9 hd.minor hd.fields 1000).1 ≠ 1
      · rw [if_pos h4] at h; cases h
      rw [if_neg h4] at h
      obtain ⟨⟨K, L, g⟩, hR⟩ : ∃ R, R = request9 hd.minor hd.fields 1000 := ⟨_, rfl⟩
      rw [← hR] at h h3
      dsimp only at h h3
      subst h3
      have hk := kinds hR.symm
      unfold bodyD at h
      by_cases k1 : K = 1
      · subst k1
        rw [if_pos rfl] at h
        injection h with e1 e2
        subst e1
        exact ⟨⟨k, hr⟩, h1, rfl, hh, by simp, ⟨1, rfl, fun _ => by simp⟩, fun _ => rfl⟩
      rw [if_neg k1] at h
      by_cases k2 : K = 2
      · subst k2
        rw [if_pos rfl] at h
        split at h
        · cases h
        injection h with e1 e2
        subst e1
        refine ⟨⟨k, hr⟩, h1, rfl, hh, ?_, ⟨2, rfl, fun x => absurd x (by decide)⟩, fun x => by simp at x⟩
        show (List.take L.toNat (List.drop k D)).length ≤ 1000
        rw [List.length_take]
        omega
      rw [if_neg k2] at h
      split at h
      · cases h
      split at h
      · cases h
      injection h with e1 e2
      subst e1
      refine ⟨⟨k, hr⟩, h1, rfl, hh, ?_, ⟨K, rfl, fun x => absurd x k1⟩, fun x => by simp [k1] at x⟩
      show (chunkD 1000 (List.drop k D)).1.length ≤ 1000
      have := chunk_bound (most := 1000) (by decide) (List.drop k D)
      omega
theorem getN_low {n m : List UInt8} (h : lower n = lower m) (l : List HField) : getN l n = getN l m := by
  have e : hit n = hit m := by
    funext f
    unfold hit alike
    rw [h]
  unfold getN
  rw [e]
/-- the request is the same -/
theorem forw_again {D : List UInt8} {q : Rq} {from_ : List UInt8} (R : Read1 D q) (few : q.head.fields.length ≤ 20) (hf : q.target.form ≠ 3) (hne : q.host ≠ []) (hv : value from_ = true) (hf2 : from_.length ≤ 40)
    (via : getN q.head.fields [118, 105, 97] ≤ 1) (xff : getN q.head.fields [120, 45, 102, 111, 114, 119, 97, 114, 100, 101, 100, 45, 102, 111, 114] ≤ 1) (short : ∀ f ∈ q.head.fields, f.1.length + f.2.length ≤ 200) :
    ∃ p, readD 1000 (requestE ⟨q.head.method, origin6 q.target, q.host, q.port, q.head.fields, q.body, q.sized, from_, q.upgrade⟩) = .whole p ((requestE ⟨q.head.method, origin6 q.target, q.host, q.port, q.head.fields, q.body, q.sized, from_, q.upgrade⟩).length : Nat) ∧
      p.head.method = q.head.method ∧ p.target.path = q.target.path ∧ p.target.query = q.target.query ∧ p.target.has = q.target.has ∧ p.host = q.host ∧ p.port = q.port ∧ p.body = q.body ∧ p.sized = q.sized ∧ p.upgrade = q.upgrade ∧
      getN p.head.fields TENC = 0 ∧ getN p.head.fields CONNECTION = if q.upgrade = [] then 0 else 1 := by
  obtain ⟨k, hk⟩ := R.head
  rw [R.tgt] at hf ⊢
  have F := first_of hk R.ok hf R.host hne few short (by rw [getN_low (show lower VIAN = lower [118, 105, 97] from by decide)]; exact via) (by rw [getN_low (show lower XFFN = lower [120, 45, 102, 111, 114, 119, 97, 114, 100, 101, 100, 45, 102, 111, 114] from by decide)]; exact xff)
  obtain ⟨kind, hup, hkind⟩ := R.up
  have hf1 : from_.all plainB = true := by
    unfold value at hv
    rw [Bool.and_eq_true] at hv
    exact hv.1
  have hUp : q.upgrade ≠ [] → Up q.upgrade ∧ q.head.method = TargetPure.GET ∧ kind = 1 := fun hu => by
    rw [hup] at hu ⊢
    exact up_of F.good F.short hu
  obtain ⟨n, hd, hl, hdr⟩ := head_again (body := q.body) (up := q.upgrade) (sized := q.sized) F R.body hf1 hf2 (fun hu => (hUp hu).1)
  obtain ⟨t, ht, t1, t2, t3, t4⟩ := parse_again R.ok hf
  have hho := host_again (body := q.body) (from_ := from_) (up := q.upgrade) (sized := q.sized) F (m := q.head.method) (x := origin6 (parse6 q.head.method q.head.target).1) t4
  have hex := expect_again (h := q.head) (hn := q.host) (hp := q.port) (body := q.body) (from_ := from_) (up := q.upgrade) (sized := q.sized)
  have hco := coding_again (h := q.head) (hn := q.host) (hp := q.port) (body := q.body) (from_ := from_) (up := q.upgrade) (sized := q.sized)
  have hcn := conn_again (h := q.head) (hn := q.host) (hp := q.port) (body := q.body) (from_ := from_) (up := q.upgrade) (sized := q.sized)
  have hfr := frame_again (h := q.head) (hn := q.host) (hp := q.port) (body := q.body) (from_ := from_) (up := q.upgrade) (sized := q.sized) R.body
  have hnc : (q.head.method == TargetPure.CONNECT) = false := (parse_go R.ok hf).1
  have hnc2 : ¬ q.head.method = TargetPure.CONNECT := fun e => by rw [e] at hnc; exact absurd hnc (by decide)
  have hask : (⟨q.head.method, origin6 (parse6 q.head.method q.head.target).1, q.host, q.port, q.head.fields, q.body, q.sized, from_, q.upgrade⟩ : AskP) = askOf q.head q.host q.port q.body from_ q.upgrade q.sized := rfl
  rw [hask]
  have hua := fun k2 (h2 : q.upgrade ≠ [] → Up q.upgrade ∧ q.head.method = TargetPure.GET ∧ k2 = 1) => up_again (h := q.head) (hn := q.host) (hp := q.port) (body := q.body) (from_ := from_) (sized := q.sized) (m := q.head.method) (x := origin6 (parse6 q.head.method q.head.target).1) (kind := k2) h2
  have hnone := R.none_
  have hbl := R.body
  generalize askOf q.head q.host q.port q.body from_ q.upgrade q.sized = A at *
  generalize (askF A).map EmitPure.told = G at *
  have e1 : readD 1000 (requestE A) = restD ⟨q.head.method, origin6 (parse6 q.head.method q.head.target).1, 0, [], 1, G⟩ n 1000 q.body := by
    unfold readD
    rw [hd]
    dsimp only
    rw [hdr]
  rw [e1]
  unfold restD
  dsimp only
  rw [ht]
  dsimp only
  rw [if_neg (fun x => x rfl), hho]
  dsimp only
  rw [hex, if_neg (by omega)]
  cases hs : q.sized with
  | false =>
    have hb := hnone hs
    have hua1 := hua 1 (fun hu => ⟨(hUp hu).1, (hUp hu).2.1, rfl⟩)
    have hfr1 : request9 1 G 1000 = (1, 0, 0) := by rw [hfr, hs]; rfl
    rw [hfr1]
    dsimp only
    rw [if_neg (fun x => x rfl), if_neg (fun x => hnc2 x.1)]
    unfold bodyD
    rw [if_pos rfl]
    rw [hb, List.length_nil, Nat.add_zero] at hl
    exact ⟨_, congrArg (RIn.whole _) (by rw [hl]), rfl, t1, t2, t3, rfl, rfl, hb.symm, rfl, hua1, hco, hcn⟩
  | true =>
    have hue : q.upgrade = [] := by
      by_cases hu : q.upgrade = []
      · exact hu
      · have := hkind (hUp hu).2.2
        rw [hs] at this
        cases this
    have hua2 := hua 2 (fun hu => absurd hue hu)
    have hfr1 : request9 1 G 1000 = (2, (q.body.length : Int), 0) := by rw [hfr, hs]; rfl
    rw [hfr1]
    dsimp only
    rw [if_neg (fun x => x rfl), if_neg (fun x => hnc2 x.1)]
    unfold bodyD
    rw [if_neg (by decide), if_pos rfl, if_neg (by omega)]
    refine ⟨_, congrArg (RIn.whole _) (show (n : Int) + (q.body.length : Int) = ((requestE A).length : Nat) by rw [← hl]; rfl), rfl, t1, t2, t3, rfl, rfl, ?_, rfl, hua2, hco, hcn⟩
    show List.take (q.body.length : Int).toNat q.body = q.body
    rw [Int.toNat_natCast, List.take_length]
end Go.Proofs.YtblpooddamkfdaaGreatDoor.EmitForwS
