/- Texts of this seat, one behind another: FrameResponsesW. -/

import Derived.Test.YtgkdepoimnmhfaaDoorB
import Derived.Test.YtgkdepoimnmhfaaDoorD
/- How the body of a response of any head to any method is framed is the document's: FrameResponses returns true. -/
namespace Go.Proofs.YtgkdepoimnmhfaaDoor.FrameResponsesW
open Go.ChangeShapes Go.WideShapes Go.ChangeAt Go.RowKit LexPure Bytes Ret Rows1 FieldsPure HeadPure FramePure Flds HBox KeptRow Held FRow FrameObj FrAnchor FCopied R9Req R9Resp HArg Mem
set_option maxRecDepth 100000
set_option linter.unusedVariables false
set_option maxHeartbeats 1600000 in
theorem walkIn (m : ByteArray) (h : H8) (v : Value) (hst : (Lit.int .i64 h.status).wf = true) (hG : Few h.fields) (hle : h.fields.length ≤ 1048576) (hy : Nice v h.fields.length) (w : World) (hF : FL w v h.fields) (hm : Fit w) :
    Calls Tryd.prog 4 #[.string m, hv h v] w fun e w' => e = .returned (.bool true) ∧ Below w.heap.size w w' := by
  have L0 := Lib.hid (LB.new (Below.refl w.heap.size w) hF)
  have HM := Lib.hid hm
  have U1 := Lib.hid (fun w v hF hm => presponse9_any m h v hst hG hle w hF hm)
  clear hst
  have V1 := Lib.hid (fun w v hF => r9response_any m h v hG hle w hF)
  have CP := Lib.hid (fun w v hy hF => copied_any h v (by omega) hy w hF)
  generalize response9 (toL m) h.status h.minor h.fields = r at *
  obtain ⟨k, n, er⟩ := r
  unfold frv9 at U1
  unfold trip at V1
  dsimp only at U1 V1
  have q1 : (er == er) = true := beq_self_eq_true _
  have q2 : (k == k) = true := beq_self_eq_true _
  have q3 : (n == n) = true := beq_self_eq_true _
  obtain ⟨p, cap, rfl, _, _⟩ := id hF
  replace hy := Lib.hid hy
  unfold hv at U1 V1 CP ⊢
  unfold hc at L0
  clear hF hm
  go_enter Tryd.func4, Tryd.ntmps4
  go_wp2_with fail
  generalize w.alloc (.cells #[.string (ofL h.method), .string (ofL h.target), .int .i64 h.status, .string (ofL h.reason), .int .i64 h.minor, .slice p h.fields.length cap] 24) = W at *
  obtain ⟨g, hg⟩ : ∃ g, g = w.heap.size := ⟨_, rfl⟩
  rw [← hg] at L0 ⊢
  replace hg := Lib.hid hg
  refine (anchor_any _ (HM.out.below L0.out.below)).mono ?_
  rintro e w1 ⟨rfl, hb⟩
  replace L0 := Lib.hid (L0.out.call hb)
  clear hb
  obtain ⟨d0, d1, d2, d3, d4, d5⟩ := L0.out.box.cells
  go_wp2_with fail
  refine (CP.out _ _ hy.out L0.out.list).mono ?_
  rintro e w2 ⟨v2, rfl, hF2, hy2, hb⟩
  replace L0 := Lib.hid (L0.out.call hb)
  clear hb d0 d1 d2 d3 d4 d5 CP
  go_wp2_with fail
  refine (U1.out _ _ hF2 (HM.out.below L0.out.below)).mono ?_
  rintro e w3 ⟨rfl, hb⟩
  replace L0 := Lib.hid ((L0.out.call hb).alloc (.cells #[.int .i64 k, .int .i64 n] 27))
  have fx := (Has.new w3 27 #[.int .i64 k, .int .i64 n])
  have fs : w3.heap.size < (w3.alloc (.cells #[.int .i64 k, .int .i64 n] 27)).heap.size := by simp
  clear hb hF2 hy2 U1
  dsimp only
  iterate 15 go_step
  generalize w3.alloc (.cells #[.int .i64 k, .int .i64 n] 27) = W3 at L0 fx fs ⊢
  generalize w3.heap.size = gf at fx fs ⊢
  obtain ⟨d0, d1, d2, d3, d4, d5⟩ := L0.out.box.cells
  go_wp2_with fail
  refine (V1.out _ _ L0.out.list).mono ?_
  rintro e w4 ⟨rfl, hb⟩
  replace L0 := Lib.hid (L0.out.call hb)
  have f0 := (hb.cell (p := ⟨gf, 0, none⟩) fs).trans (fx.cell 0)
  have f1 := (hb.cell (p := ⟨gf, 1, none⟩) fs).trans (fx.cell 1)
  clear hb d0 d1 d2 d3 d4 d5 V1 fx fs
  go_wp2_with fail
  go_ret
  exact ⟨rfl, L0.out.below⟩
theorem walk {H : Type} {enc : TypeId × Value → H} {W : World} {base : Nat} (m : ByteArray) (w0 : m.size ≤ maxLen) (z0 : m.size ≤ 1048576) (v : Value) (d : DataW H) (p : List MemPlace) (hv : Value.okWide Tryd.prog W .any base 24 v)
    (hd : DataW.Trod enc Tryd.prog W 0 (fun _ => true) true 24 v d p) (hl : ∀ x ∈ p, x.block < W.heap.size) (hb : Rows.uptoBulk d ≤ 1048576) (hsh : W.ShapedOpen Tryd.prog) :
    Calls Tryd.prog 4 #[.string m, v] W fun e w' => e = .returned (.bool true) ∧ Below W.heap.size W w' := by
  obtain ⟨x, l, rfl, hF, hG, hle, hy, _, _, _, hst, _⟩ := head_arg hv hd hb
  exact walkIn m x l hst hG hle hy W hF (Fit.of_shape hsh)
end Go.Proofs.YtgkdepoimnmhfaaDoor.FrameResponsesW
