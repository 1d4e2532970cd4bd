/- The document's examples that each law of layer 4 begins with. -/
import Derived.Test.YtinpgmckndcpbaaDoorLexObj
import Derived.Test.YtinpgmckndcpbaaDoorMem
namespace Go.Proofs.YtinpgmckndcpbaaDoor.LexAnchor
open Go.ChangeShapes Go.WideShapes Go.ChangeAt Go.RowKit LexPure Bytes LexObj Mem
theorem anchor_any (w : World) :
    Calls Tryd.prog 8 #[] w fun e w' => e = .returned (.bool true) ∧ Below w.heap.size w w' := by
  have h1 : numR 16 (min 8 15) (toL ⟨#[102, 70]⟩) = 255 := by decide +kernel
  have h2 : numOk 16 (min 8 15) (toL ⟨#[102, 70]⟩) = true := by decide +kernel
  have h3 : token (toL ⟨#[71, 69, 84]⟩) = true := by decide +kernel
  have h4 : token (toL ⟨#[97, 32, 98]⟩) = false := by decide +kernel
  have h5 : ofL (trim (toL ⟨#[32, 97, 9]⟩)) = ⟨#[97]⟩ := by
    refine toL_inj ?_
    rw [toL_ofL]
    decide +kernel
  have H1 := Lib.hid h1
  have H2 := Lib.hid h2
  have H3 := Lib.hid h3
  have H4 := Lib.hid h4
  have H5 := Lib.hid h5
  clear h1 h2 h3 h4 h5
  go_enter Tryd.func8, Tryd.ntmps8
  go_wp2_with fail
  refine (hex_any _ (by decide) 8 _).mono ?_
  rintro e w1 ⟨rfl, hb1⟩
  rw [H1.out, H2.out]
  go_wp2_with fail
  refine (token_any _ (by decide) _).mono ?_
  rintro e w2 ⟨rfl, hb2⟩
  rw [H3.out]
  go_wp2_with fail
  refine (token_any _ (by decide) _).mono ?_
  rintro e w3 ⟨rfl, hb3⟩
  rw [H4.out]
  go_wp2_with fail
  refine (trim_any _ (by decide) _).mono ?_
  rintro e w4 ⟨rfl, hb4⟩
  rw [H5.out]
  go_wp2_with fail
  go_ret
  exact ⟨rfl, below_chain (below_chain (below_chain hb1 hb2) hb3) hb4⟩
end Go.Proofs.YtinpgmckndcpbaaDoor.LexAnchor
