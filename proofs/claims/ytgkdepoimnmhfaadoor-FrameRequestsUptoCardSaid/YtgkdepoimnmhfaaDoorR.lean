/- Texts of this seat, one behind another: FrameRequestsW. -/
import Derived.Deep.RegionHeld3
import Derived.BigRegion
import Derived.Test.YtgkdepoimnmhfaaDoorB
import Derived.Test.YtgkdepoimnmhfaaDoorC
/- How the body of a request of any head is framed is the document's: FrameRequests returns true. -/
namespace Go.Proofs.YtgkdepoimnmhfaaDoor.FrameRequestsW
open Go.ChangeShapes Go.WideShapes Go.ChangeAt Go.RowKit LexPure Bytes Ret Rows1 FieldsPure HeadPure FramePure Flds HBox KeptRow Held FRow FrameObj FrAnchor FCopied R9Req R9Keep HArg Mem
set_option maxRecDepth 100000
set_option linter.unusedVariables false
/-- the law's head and its framing -/
structure Pr9 (w W : World) (g gf : Nat) (h : H8) (v : Value) (k n : Int) : Prop where
  head : LB w W g h v
  fr : Has W gf 27 #[.int .i64 k, .int .i64 n]
  lt : gf < W.heap.size
theorem Pr9.call {w W W' : World} {g gf : Nat} {h : H8} {v : Value} {k n : Int} (x : Pr9 w W g gf h v k n) (hb : Below W.heap.size W W') : Pr9 w W' g gf h v k n :=
  ⟨x.head.call hb, x.fr.below hb x.lt, Nat.lt_of_lt_of_le x.lt hb.size⟩
theorem Pr9.drew {w W : World} {g gf : Nat} {h : H8} {v : Value} {k n : Int} (x : Pr9 w W g gf h v k n) : Pr9 w W.drew g gf h v k n :=
  ⟨⟨below_drew x.head.below, x.head.low, x.head.box.drew, x.head.list, x.head.lt⟩, x.fr.drew, x.lt⟩
theorem Pr9.cells {w W : World} {g gf : Nat} {h : H8} {v : Value} {k n : Int} (x : Pr9 w W g gf h v k n) : W.cell? ⟨g, 0, none⟩ = some (.string (ofL h.method)) ∧ W.cell? ⟨g, 1, none⟩ = some (.string (ofL h.target)) ∧ W.cell? ⟨g, 2, none⟩ = some (.int .i64 h.status) ∧ W.cell? ⟨g, 3, none⟩ = some (.string (ofL h.reason)) ∧ W.cell? ⟨g, 4, none⟩ = some (.int .i64 h.minor) ∧ W.cell? ⟨g, 5, none⟩ = some v ∧ W.cell? ⟨gf, 0, none⟩ = some (.int .i64 k) ∧ W.cell? ⟨gf, 1, none⟩ = some (.int .i64 n) := by
  obtain ⟨a, b, c, d, e, f⟩ := x.head.box.cells
  exact ⟨a, b, c, d, e, f, (x.fr.cell 0).trans rfl, (x.fr.cell 1).trans rfl⟩
set_option maxHeartbeats 1600000 in
theorem walkIn (h : H8) (v : Value) (most : Int) (hG : Few h.fields) (hle : h.fields.length ≤ 1048576) (hy : Nice v h.fields.length) (w : World) (hF : FL w v h.fields) (hm : Fit w) :
    Calls Tryd.prog 3 #[hv h v, .int .i64 most] w fun e w' => e = .returned (.bool true) ∧ Below w.heap.size w w' := by
  have L0 := Lib.hid (LB.new (Below.refl w.heap.size w) hF)
  have HM := Lib.hid hm
  have U1 := Lib.hid (fun w v hF hm => prequest9_any h v most hG hle w hF hm)
  have U2 := Lib.hid (fun w v hF hm => pkeep9_any h v hG hle w hF hm)
  have V1 := Lib.hid (fun w v hF => r9request_any h v most hG hle w hF)
  have V2 := Lib.hid (fun w v hF => r9keep_any h v hG hle w hF)
  have CP := Lib.hid (fun w v hy hF => copied_any h v (by omega) hy w hF)
  generalize request9 h.minor h.fields most = r at *
  generalize keep9 h.minor h.fields = kp at *
  obtain ⟨k, n, er⟩ := r
  unfold frv9 at U1
  unfold trip at V1
  dsimp only at U1 V1
  have q1 : (er == er) = true := beq_self_eq_true _
  have q2 : (k == k) = true := beq_self_eq_true _
  have q3 : (n == n) = true := beq_self_eq_true _
  have q4 : (kp == kp) = true := beq_self_eq_true _
  obtain ⟨p, cap, rfl, _, _⟩ := id hF
  replace hy := Lib.hid hy
  unfold hv at U1 U2 V1 V2 CP ⊢
  unfold hc at L0
  clear hF hm
  go_enter Tryd.func3, Tryd.ntmps3
  go_wp2_with fail
  generalize w.alloc (.cells #[.string (ofL h.method), .string (ofL h.target), .int .i64 h.status, .string (ofL h.reason), .int .i64 h.minor, .slice p h.fields.length cap] 24) = W at *
  obtain ⟨g, hg⟩ : ∃ g, g = w.heap.size := ⟨_, rfl⟩
  rw [← hg] at L0 ⊢
  replace hg := Lib.hid hg
  refine (anchor_any _ (HM.out.below L0.out.below)).mono ?_
  rintro e w1 ⟨rfl, hb⟩
  replace L0 := Lib.hid (L0.out.call hb)
  clear hb
  obtain ⟨d0, d1, d2, d3, d4, d5⟩ := L0.out.box.cells
  go_wp2_with fail
  refine (CP.out _ _ hy.out L0.out.list).mono ?_
  rintro e w2 ⟨v2, rfl, hF2, hy2, hb⟩
  replace L0 := Lib.hid (L0.out.call hb)
  clear hb d0 d1 d2 d3 d4 d5
  go_wp2_with fail
  refine (U1.out _ _ hF2 (HM.out.below L0.out.below)).mono ?_
  rintro e w3 ⟨rfl, hb⟩
  replace L0 := Lib.hid ((L0.out.call hb).alloc (.cells #[.int .i64 k, .int .i64 n] 27))
  have fx := (Has.new w3 27 #[.int .i64 k, .int .i64 n])
  have fs : w3.heap.size < (w3.alloc (.cells #[.int .i64 k, .int .i64 n] 27)).heap.size := by simp
  clear hb hF2 hy2 U1
  dsimp only
  iterate 15 go_step
  generalize w3.alloc (.cells #[.int .i64 k, .int .i64 n] 27) = W3 at L0 fx fs ⊢
  generalize w3.heap.size = gf at fx fs ⊢
  obtain ⟨d0, d1, d2, d3, d4, d5⟩ := L0.out.box.cells
  go_wp2_with fail
  refine (V1.out _ _ L0.out.list).mono ?_
  rintro e w4 ⟨rfl, hb⟩
  have P1 : Pr9 w w4 g gf h (.slice p h.fields.length cap) k n := ⟨L0.out.call hb, fx.below hb fs, Nat.lt_of_lt_of_le fs hb.size⟩
  have c1 := P1.cells
  clear hb d0 d1 d2 d3 d4 d5 V1 fx fs L0
  go_wp2_with fail
  go_region_held3 (fun w' => w'.cell? ⟨g, 0, none⟩ = some (.string (ofL h.method)) ∧ w'.cell? ⟨g, 1, none⟩ = some (.string (ofL h.target)) ∧ w'.cell? ⟨g, 2, none⟩ = some (.int .i64 h.status) ∧ w'.cell? ⟨g, 3, none⟩ = some (.string (ofL h.reason)) ∧ w'.cell? ⟨g, 4, none⟩ = some (.int .i64 h.minor) ∧ w'.cell? ⟨g, 5, none⟩ = some (.slice p h.fields.length cap) ∧ w'.cell? ⟨gf, 0, none⟩ = some (.int .i64 k) ∧ w'.cell? ⟨gf, 1, none⟩ = some (.int .i64 n)) (first | exact c4 | exact c3 | exact c2 | exact c1)
    (first
      | (go_at_call 11; refine (CP.out _ _ hy.out P1.drew.head.list).mono ?_; rintro e w5 ⟨v3, rfl, hF3, hy3, hb5⟩
         have P2 := P1.drew.call hb5
         have c2 := P2.cells
         clear hb5)
      | (go_at_call 13; refine (U2.out _ _ hF3 (HM.out.below P2.head.below)).mono ?_; rintro e w6 ⟨rfl, hb6⟩
         have P3 := P2.call hb6
         have c3 := P3.cells
         clear hb6)
      | (go_at_call 14; refine (V2.out _ _ P3.head.list).mono ?_; rintro e w7 ⟨rfl, hb7⟩
         have P4 := P3.call hb7
         have c4 := P4.cells
         clear hb7))
  have HE := Lib.hid P4.head.below
  clear P1 P2 P3 P4 c1 c2 c3 c4
  go_wp2_with fail
  go_ret
  exact ⟨rfl, HE.out⟩
theorem walk {H : Type} {enc : TypeId × Value → H} {W : World} {base : Nat} (v : Value) (d : DataW H) (p : List MemPlace) (hv : Value.okWide Tryd.prog W .any base 24 v)
    (hd : DataW.Trod enc Tryd.prog W 0 (fun _ => true) true 24 v d p) (hl : ∀ x ∈ p, x.block < W.heap.size) (hb : Rows.uptoBulk d ≤ 1048576)
    (most : Int) (w1 : (Lit.int .i64 most).wf = true) (hsh : W.ShapedOpen Tryd.prog) :
    Calls Tryd.prog 3 #[v, .int .i64 most] W fun e w' => e = .returned (.bool true) ∧ Below W.heap.size W w' := by
  obtain ⟨x, l, rfl, hF, hG, hle, hy, _⟩ := head_arg hv hd hb
  exact walkIn x l most hG hle hy W hF (Fit.of_shape hsh)
end Go.Proofs.YtgkdepoimnmhfaaDoor.FrameRequestsW
