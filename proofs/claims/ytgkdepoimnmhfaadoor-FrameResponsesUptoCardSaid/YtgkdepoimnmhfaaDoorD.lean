/- Texts of this seat, one behind another: R9Resp. -/

import Derived.Test.YtgkdepoimnmhfaaDoorC
/- Layer 9, the document's own Response. -/
namespace Go.Proofs.YtgkdepoimnmhfaaDoor.R9Resp
open Go.ChangeShapes Go.WideShapes Go.ChangeAt Go.RowKit LexPure Bytes Ret Rows1 FieldsPure HeadPure FramePure Flds HBox Held R9Has R9Code R9Len R9Req Mem
set_option maxRecDepth 20000
theorem text_at (m : ByteArray) (l : List UInt8) : (m.toList == l) = decide (toL m = l) := by
  rw [ByteArray.toList_eq, show m.data.toList = toL m from rfl]
  by_cases h : toL m = l
  · rw [decide_eq_true h, h]; exact beq_self_eq_true _
  · rw [decide_eq_false h]; exact beq_eq_false_iff_ne.2 h
set_option maxHeartbeats 3200000 in
theorem r9response_any (m : ByteArray) (h : H8) (v : Value) (hG : Few h.fields) (hle : h.fields.length ≤ 1048576) (w : World) (hF : FL w v h.fields) :
    Calls Tryd.prog 16 #[.string m, hv h v] w fun e w' => e = .returned (trip (response9 (toL m) h.status h.minor h.fields)) ∧ Below w.heap.size w w' := by
  have L0 := LB.new (Below.refl w.heap.size w) hF
  have H1 := Lib.hid (fun w hF => r9has_any h v ⟨#[99, 111, 110, 116, 101, 110, 116, 45, 108, 101, 110, 103, 116, 104]⟩ (by decide) hG w hF)
  have H2 := Lib.hid (fun w hF => r9has_any h v ⟨#[116, 114, 97, 110, 115, 102, 101, 114, 45, 101, 110, 99, 111, 100, 105, 110, 103]⟩ (by decide) hG w hF)
  have H3 := Lib.hid (fun w hF => r9code_any h v hG hle w hF)
  have H4 := Lib.hid (fun w hF => r9len_any h v hG hle w hF)
  rw [show toL ⟨#[99, 111, 110, 116, 101, 110, 116, 45, 108, 101, 110, 103, 116, 104]⟩ = CLEN from rfl] at H1
  rw [show toL ⟨#[116, 114, 97, 110, 115, 102, 101, 114, 45, 101, 110, 99, 111, 100, 105, 110, 103]⟩ = TENC from rfl] at H2
  obtain ⟨X, hX⟩ : ∃ X, X = response9 (toL m) h.status h.minor h.fields := ⟨_, rfl⟩
  rw [← hX]
  unfold response9 at hX
  have t1 := text_at m [67, 79, 78, 78, 69, 67, 84]
  have t2 := text_at m [72, 69, 65, 68]
  generalize codeN (elems h.fields TENC) = c at *
  generalize lenN h.fields = n at *
  generalize getN h.fields CLEN = k1 at *
  generalize getN h.fields TENC = k2 at *
  obtain ⟨p, cap, rfl, _, _⟩ := id hF
  unfold hc at L0
  unfold hv at H1 H2 H3 H4 ⊢
  replace L0 := Lib.hid L0
  clear hF
  have hst : (h.status = 101 ∧ (h.status == 101) = true ∧ X = (5, 0, 0)) ∨ ((h.status == 101) = false ∧ (100 : Int) ≤ h.status ∧ h.status < 200 ∧ X = (1, 0, 0)) ∨ ((h.status == 101) = false ∧ (100 : Int) ≤ h.status ∧ ¬ h.status < 200 ∧ (h.status == 204) = true ∧ X = (1, 0, 0)) ∨ ((h.status == 101) = false ∧ (100 : Int) ≤ h.status ∧ ¬ h.status < 200 ∧ (h.status == 204) = false ∧ (h.status == 304) = true ∧ X = (1, 0, 0)) ∨
      (¬ h.status = 101 ∧ ¬ ((100 ≤ h.status ∧ h.status < 200) ∨ h.status = 204 ∨ h.status = 304)) := by
    rw [hX]
    by_cases s1 : h.status = 101
    · exact .inl ⟨s1, by rw [s1]; rfl, if_pos s1⟩
    · have s2 : (h.status == 101) = false := beq_eq_false_iff_ne.2 s1
      rw [if_neg s1]
      by_cases s3 : 100 ≤ h.status ∧ h.status < 200
      · exact .inr (.inl ⟨s2, s3.1, s3.2, if_pos (.inl s3)⟩)
      · by_cases s4 : h.status = 204
        · exact .inr (.inr (.inl ⟨s2, by omega, by omega, by rw [s4]; rfl, if_pos (.inr (.inl s4))⟩))
        · by_cases s5 : h.status = 304
          · exact .inr (.inr (.inr (.inl ⟨s2, by omega, by omega, by rw [s5]; rfl, by rw [s5]; rfl, if_pos (.inr (.inr s5))⟩)))
          · exact .inr (.inr (.inr (.inr ⟨s1, by rintro (h | h | h); exact s3 h; exact s4 h; exact s5 h⟩)))
  rcases hst with ⟨s0, s1, hV⟩ | ⟨s1, s2, s3, hV⟩ | ⟨s1, s2, s3, s4, hV⟩ | ⟨s1, s2, s3, s4, s5, hV⟩ | ⟨s1, s2⟩
  · replace hV := Lib.hid hV
    clear hX H1 H2 H3 H4 t1 t2 s0
    go_enter Tryd.func16, Tryd.ntmps16
    go_wp2_with fail
    go_ret3
    exact ⟨ret_trip hV.out, L0.out.below⟩
  · replace hV := Lib.hid hV
    clear hX H1 H2 H3 H4 t1 t2
    go_enter Tryd.func16, Tryd.ntmps16
    go_wp2_with fail
    go_ret3
    exact ⟨ret_trip hV.out, L0.out.below⟩
  · replace hV := Lib.hid hV
    clear hX H1 H2 H3 H4 t1 t2
    go_enter Tryd.func16, Tryd.ntmps16
    go_wp2_with fail
    go_ret3
    exact ⟨ret_trip hV.out, L0.out.below⟩
  · replace hV := Lib.hid hV
    clear hX H1 H2 H3 H4 t1 t2
    go_enter Tryd.func16, Tryd.ntmps16
    go_wp2_with fail
    go_ret3
    exact ⟨ret_trip hV.out, L0.out.below⟩
  rw [if_neg s1, if_neg s2] at hX
  have hcm : (toL m = [67, 79, 78, 78, 69, 67, 84] ∧ 200 ≤ h.status ∧ h.status < 300 ∧ X = (5, 0, 0)) ∨ (¬ (toL m = [67, 79, 78, 78, 69, 67, 84] ∧ 200 ≤ h.status ∧ h.status < 300) ∧ toL m = [72, 69, 65, 68] ∧ X = (1, 0, 0)) ∨ (¬ (toL m = [67, 79, 78, 78, 69, 67, 84] ∧ 200 ≤ h.status ∧ h.status < 300) ∧ ¬ toL m = [72, 69, 65, 68] ∧ X = if 0 < k2 then (if h.minor = 0 ∨ 0 < k1 then (0, 0, 90) else if c = 1 then (3, 0, 0) else (0, 0, 91)) else if k1 = 0 then (4, 0, 0) else if n < 0 then (0, 0, 90) else (2, n, 0)) := by
    rw [hX]
    by_cases q : toL m = [67, 79, 78, 78, 69, 67, 84] ∧ 200 ≤ h.status ∧ h.status < 300
    · exact .inl ⟨q.1, q.2.1, q.2.2, if_pos q⟩
    · rw [if_neg q]
      by_cases q2 : toL m = [72, 69, 65, 68]
      · exact .inr (.inl ⟨q, q2, if_pos q2⟩)
      · exact .inr (.inr ⟨q, q2, if_neg q2⟩)
  -- how the tests on the way come out
  have hway : (h.status == 101) = false ∧ ((¬ (100 : Int) ≤ h.status ∧ (h.status == 204) = false ∧ (h.status == 304) = false) ∨ ((100 : Int) ≤ h.status ∧ ¬ h.status < 200 ∧ (h.status == 204) = false ∧ (h.status == 304) = false)) := by
    refine ⟨beq_eq_false_iff_ne.2 s1, ?_⟩
    have a1 : (h.status == 204) = false := beq_eq_false_iff_ne.2 (fun h => s2 (.inr (.inl h)))
    have a2 : (h.status == 304) = false := beq_eq_false_iff_ne.2 (fun h => s2 (.inr (.inr h)))
    by_cases a3 : 100 ≤ h.status
    · exact .inr ⟨a3, fun a4 => s2 (.inl ⟨a3, a4⟩), a1, a2⟩
    · exact .inl ⟨a3, a1, a2⟩
  obtain ⟨w1, hway⟩ := hway
  clear hX s1 s2
  rcases hcm with ⟨q1, q2, q3, hV⟩ | ⟨q1, q2, hV⟩ | ⟨q1, q2, hV⟩
  · have t1' : (m.toList == [67, 79, 78, 78, 69, 67, 84]) = true := by rw [t1]; exact decide_eq_true q1
    replace hV := Lib.hid hV
    clear t1 t2 q1 H1 H2 H3 H4
    rcases hway with ⟨a0, a1, a2⟩ | ⟨a0, a00, a1, a2⟩
    · omega
    · go_enter Tryd.func16, Tryd.ntmps16
      go_wp2_with fail
      go_ret3
      exact ⟨ret_trip hV.out, L0.out.below⟩
  · have t1' : (m.toList == [67, 79, 78, 78, 69, 67, 84]) = false := by rw [t1]; exact decide_eq_false (by rw [q2]; decide)
    have t2' : (m.toList == [72, 69, 65, 68]) = true := by rw [t2]; exact decide_eq_true q2
    replace hV := Lib.hid hV
    clear t1 t2 q1 q2 H1 H2 H3 H4
    rcases hway with ⟨a0, a1, a2⟩ | ⟨a0, a00, a1, a2⟩
    all_goals
      go_enter Tryd.func16, Tryd.ntmps16
      go_wp2_with fail
      go_ret3
      exact ⟨ret_trip hV.out, L0.out.below⟩
  · have t2' : (m.toList == [72, 69, 65, 68]) = false := by rw [t2]; exact decide_eq_false q2
    have hcon : ((m.toList == [67, 79, 78, 78, 69, 67, 84]) = false) ∨ ((m.toList == [67, 79, 78, 78, 69, 67, 84]) = true ∧ ¬ 200 ≤ h.status) ∨ ((m.toList == [67, 79, 78, 78, 69, 67, 84]) = true ∧ 200 ≤ h.status ∧ ¬ h.status < 300) := by
      by_cases r : toL m = [67, 79, 78, 78, 69, 67, 84]
      · have r1 : (m.toList == [67, 79, 78, 78, 69, 67, 84]) = true := by rw [t1]; exact decide_eq_true r
        by_cases r2 : 200 ≤ h.status
        · exact .inr (.inr ⟨r1, r2, fun r3 => q1 ⟨r, r2, r3⟩⟩)
        · exact .inr (.inl ⟨r1, r2⟩)
      · exact .inl (by rw [t1]; exact decide_eq_false r)
    clear t1 t2 q1 q2
    have hall : ((¬ (100 : Int) ≤ h.status ∧ (h.status == 204) = false ∧ (h.status == 304) = false) ∧ (m.toList == [67, 79, 78, 78, 69, 67, 84]) = false) ∨ ((¬ (100 : Int) ≤ h.status ∧ (h.status == 204) = false ∧ (h.status == 304) = false) ∧ (m.toList == [67, 79, 78, 78, 69, 67, 84]) = true ∧ ¬ 200 ≤ h.status) ∨ (((100 : Int) ≤ h.status ∧ ¬ h.status < 200 ∧ (h.status == 204) = false ∧ (h.status == 304) = false) ∧ (m.toList == [67, 79, 78, 78, 69, 67, 84]) = false) ∨ (((100 : Int) ≤ h.status ∧ ¬ h.status < 200 ∧ (h.status == 204) = false ∧ (h.status == 304) = false) ∧ (m.toList == [67, 79, 78, 78, 69, 67, 84]) = true ∧ 200 ≤ h.status ∧ ¬ h.status < 300) := by
      rcases hway with a | a <;> rcases hcon with b | ⟨b, b2⟩ | ⟨b, b2, b3⟩
      · exact .inl ⟨a, b⟩
      · exact .inr (.inl ⟨a, b, b2⟩)
      · have := a.1; omega
      · exact .inr (.inr (.inl ⟨a, b⟩))
      · have := a.2.1; omega
      · exact .inr (.inr (.inr ⟨a, b, b2, b3⟩))
    have hV2 : (0 < k2 ∧ ((h.minor = 0 ∧ (h.minor == 0) = true ∧ X = (0, 0, 90)) ∨ ((h.minor == 0) = false ∧ 0 < k1 ∧ X = (0, 0, 90)) ∨ ((h.minor == 0) = false ∧ ¬ 0 < k1 ∧ ((c : Int) != 1) = false ∧ X = (3, 0, 0)) ∨ ((h.minor == 0) = false ∧ ¬ 0 < k1 ∧ ((c : Int) != 1) = true ∧ X = (0, 0, 91)))) ∨
        (¬ 0 < k2 ∧ ((¬ 0 < k1 ∧ X = (4, 0, 0)) ∨ (0 < k1 ∧ n < 0 ∧ X = (0, 0, 90)) ∨ (0 < k1 ∧ ¬ n < 0 ∧ X = (2, n, 0)))) := by
      rw [hV]
      by_cases h2 : 0 < k2
      · refine .inl ⟨h2, ?_⟩
        rw [if_pos h2]
        by_cases m0 : h.minor = 0
        · exact .inl ⟨m0, by rw [m0]; rfl, if_pos (.inl m0)⟩
        · have m1 : (h.minor == 0) = false := beq_eq_false_iff_ne.2 m0
          by_cases q1 : 0 < k1
          · exact .inr (.inl ⟨m1, q1, if_pos (.inr q1)⟩)
          · rw [if_neg (by rintro (h | h); exact m0 h; exact q1 h)]
            by_cases c1 : c = 1
            · exact .inr (.inr (.inl ⟨m1, q1, by rw [c1]; rfl, if_pos c1⟩))
            · exact .inr (.inr (.inr ⟨m1, q1, bne_iff_ne.2 (by omega), if_neg c1⟩))
      · refine .inr ⟨h2, ?_⟩
        rw [if_neg h2]
        by_cases q1 : 0 < k1
        · rw [if_neg (by omega)]
          by_cases n0 : n < 0
          · exact .inr (.inl ⟨q1, n0, if_pos n0⟩)
          · exact .inr (.inr ⟨q1, n0, if_neg n0⟩)
        · exact .inl ⟨q1, if_pos (by omega)⟩
    clear hV hway hcon
    obtain ⟨E1, hE1⟩ : ∃ b, b = decide (0 < k1) := ⟨_, rfl⟩
    obtain ⟨E2, hE2⟩ : ∃ b, b = decide (0 < k2) := ⟨_, rfl⟩
    rw [← hE1] at H1
    rw [← hE2] at H2
    replace hE1 := Lib.hid hE1
    replace hE2 := Lib.hid hE2
    rcases hall with ⟨⟨a0, a1, a2⟩, b1⟩ | ⟨⟨a0, a1, a2⟩, b1, b2⟩ | ⟨⟨a0, a00, a1, a2⟩, b1⟩ | ⟨⟨a0, a00, a1, a2⟩, b1, b2, b3⟩
    all_goals
      go_enter Tryd.func16, Tryd.ntmps16
      go_wp2_with fail
      generalize w.alloc (.cells #[.string (ofL h.method), .string (ofL h.target), .int .i64 h.status, .string (ofL h.reason), .int .i64 h.minor, .slice p h.fields.length cap] 24) = W at L0 ⊢
      obtain ⟨g, hg⟩ : ∃ g, g = w.heap.size := ⟨_, rfl⟩
      rw [← hg] at L0 ⊢
      replace hg := Lib.hid hg
      obtain ⟨d0, d1, d2, d3, d4, d5⟩ := L0.out.box.cells
      refine (H1.out _ L0.out.list).mono ?_
      rintro e u1 ⟨rfl, hb⟩
      replace L0 := Lib.hid (L0.out.call hb)
      clear hb d0 d1 d2 d3 d4 d5
      obtain ⟨d0, d1, d2, d3, d4, d5⟩ := L0.out.box.cells
      go_wp2_with fail
      refine (H2.out _ L0.out.list).mono ?_
      rintro e u2 ⟨rfl, hb⟩
      replace L0 := Lib.hid (L0.out.call hb)
      clear hb d0 d1 d2 d3 d4 d5
      obtain ⟨d0, d1, d2, d3, d4, d5⟩ := L0.out.box.cells
      clear H1 H2 a0 a1 a2 b1 t2' w1
      rcases hV2 with ⟨h2, hcs⟩ | ⟨h2, hcs⟩
      · obtain rfl : E2 = true := by rw [hE2.out]; exact decide_eq_true h2
        clear h2
        rcases hcs with ⟨m0, m1, hV⟩ | ⟨m1, q1, hV⟩ | ⟨m1, q1, c1, hV⟩ | ⟨m1, q1, c1, hV⟩
        · replace hV := Lib.hid hV
          clear m0 H3 H4
          go_wp2_with fail
          go_ret3
          exact ⟨ret_trip hV.out, L0.out.below⟩
        · obtain rfl : E1 = true := by rw [hE1.out]; exact decide_eq_true q1
          replace hV := Lib.hid hV
          clear q1 H3 H4
          go_wp2_with fail
          go_ret3
          exact ⟨ret_trip hV.out, L0.out.below⟩
        all_goals
          obtain rfl : E1 = false := by rw [hE1.out]; exact decide_eq_false q1
          replace hV := Lib.hid hV
          clear q1 H4
          go_wp2_with fail
          refine (H3.out _ L0.out.list).mono ?_
          rintro e u3 ⟨rfl, hb⟩
          replace L0 := Lib.hid (L0.out.call hb)
          clear hb d0 d1 d2 d3 d4 d5
          obtain ⟨d0, d1, d2, d3, d4, d5⟩ := L0.out.box.cells
          clear H3
          go_wp2_with fail
          go_ret3
          exact ⟨ret_trip hV.out, L0.out.below⟩
      · obtain rfl : E2 = false := by rw [hE2.out]; exact decide_eq_false h2
        clear h2 H3
        rcases hcs with ⟨q1, hV⟩ | ⟨q1, n0, hV⟩ | ⟨q1, n0, hV⟩
        · obtain rfl : E1 = false := by rw [hE1.out]; exact decide_eq_false q1
          replace hV := Lib.hid hV
          clear q1 H4
          go_wp2_with fail
          go_ret3
          exact ⟨ret_trip hV.out, L0.out.below⟩
        all_goals
          obtain rfl : E1 = true := by rw [hE1.out]; exact decide_eq_true q1
          replace hV := Lib.hid hV
          clear q1
          go_wp2_with fail
          refine (H4.out _ L0.out.list).mono ?_
          rintro e u3 ⟨rfl, hb⟩
          replace L0 := Lib.hid (L0.out.call hb)
          clear hb d0 d1 d2 d3 d4 d5
          obtain ⟨d0, d1, d2, d3, d4, d5⟩ := L0.out.box.cells
          clear H4
          go_wp2_with fail
          go_ret3
          exact ⟨ret_trip hV.out, L0.out.below⟩
end Go.Proofs.YtgkdepoimnmhfaaDoor.R9Resp
