/- The document's first example of layer 10. -/
import Derived.Test.YtlgohmghjffiaaaDoorChunkObj
import Derived.Test.YtlgohmghjffiaaaDoorHeld10
namespace Go.Proofs.YtlgohmghjffiaaaDoor.ChAnchor
open Go.ChangeShapes Go.WideShapes Go.ChangeAt Go.RowKit Bytes ChunkPure ChunkHex ChunkText ChunkObj Held10 Mem Step Ret Rows1
set_option maxRecDepth 100000
def p1 : List UInt8 := [51, 59, 120, 61, 49, 13, 10, 97, 98]
def p2 : List UInt8 := [99, 13, 10, 48, 13, 10, 84, 58, 32, 118, 13, 10, 13, 10, 114, 101, 115, 116]
theorem say1 : ans (begin_ 9) p1 = ([97, 98], 9, false, 0) := by decide +kernel
theorem say2 : ans (next (begin_ 9) p1) p2 = ([99], 14, true, 0) := by decide +kernel
theorem say3 : (next (next (begin_ 9) p1) p2).size = 3 ∧ good (next (next (begin_ 9) p1) p2) = true := by decide +kernel
set_option maxHeartbeats 1600000 in
theorem anchor_any (w : World) (hm : Fit w) :
    Calls Tryd.prog 7 #[] w fun e w' => e = .returned (.bool true) ∧ Below w.heap.size w w' := by
  have HN := Lib.hid (pnew_any 9 (by unfold ChObj.InR; decide) w hm)
  have HM := Lib.hid hm
  clear hm
  go_enter Tryd.func7, Tryd.ntmps7
  go_wp2_with fail
  refine HN.out.mono ?_
  rintro e w1 ⟨⟨g, F, rfl, hD, hlo⟩, hb⟩
  have P := Lib.hid (DB.new hD hlo hb (Below.refl _ _))
  have HF := Lib.hid (P.out.feed ⟨#[51, 59, 120, 61, 49, 13, 10, 97, 98]⟩ (by decide) (.inl (by decide)) (Ok.start 9) HM.out)
  rw [show toL ⟨#[51, 59, 120, 61, 49, 13, 10, 97, 98]⟩ = p1 from rfl, say1] at HF
  unfold ansV at HF
  clear HN hD hlo hb
  go_wp2_with fail
  refine HF.out.mono ?_
  rintro e w2 ⟨rfl, F2, P2⟩
  have HF2 := Lib.hid (P2.feed ⟨#[99, 13, 10, 48, 13, 10, 84, 58, 32, 118, 13, 10, 13, 10, 114, 101, 115, 116]⟩ (by decide) (.inl (by decide)) ((Ok.start 9).run _) HM.out)
  rw [show toL ⟨#[99, 13, 10, 48, 13, 10, 84, 58, 32, 118, 13, 10, 13, 10, 114, 101, 115, 116]⟩ = p2 from rfl, say2] at HF2
  unfold ansV at HF2
  clear HF P P2
  go_wp2_with fail
  refine HF2.out.mono ?_
  rintro e w3 ⟨rfl, F3, P3⟩
  have HS := Lib.hid (psize_any F3 g _ say3.2 (((Ok.start 9).run _).run _) w3 P3.dec)
  rw [say3.1] at HS
  have HB := Lib.hid P3.below
  rw [show ofL [97, 98] = ⟨#[97, 98]⟩ from rfl, show ofL [99] = ⟨#[99]⟩ from rfl]
  clear HF2 P3
  go_wp2_with fail
  refine HS.out.mono ?_
  rintro e w4 ⟨rfl, hb4⟩
  have HB2 := Lib.hid (below_chain HB.out hb4)
  clear hb4 HS
  go_wp2_with fail
  go_ret
  exact ⟨rfl, HB2.out⟩
end Go.Proofs.YtlgohmghjffiaaaDoor.ChAnchor
