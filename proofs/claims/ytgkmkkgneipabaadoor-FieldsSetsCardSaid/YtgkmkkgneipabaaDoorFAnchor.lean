/- The document's example, with which each law of layer 7 begins. -/
import Derived.Test.YtgkmkkgneipabaaDoorPStrip
import Derived.Test.YtgkmkkgneipabaaDoorPHas7
namespace Go.Proofs.YtgkmkkgneipabaaDoor.FAnchor
open Go.ChangeShapes Go.WideShapes Go.ChangeAt Go.RowKit LexPure Bytes Ret Rows1 FieldsPure Flds R7Get R7Remove PLib PStrip PHas7 Mem
set_option maxRecDepth 20000
theorem fl_new (w : World) (G : List HField) (cells : List Value) (cap : Nat) (hc : cells = encFs G) (hle : G.length ≤ 4398046511104) :
    FL (w.alloc (.cells cells.toArray 38)) (.slice (some ⟨w.heap.size, 0, none⟩) G.length cap) G := by
  refine ⟨_, cap, rfl, hle, fun _ => ⟨w.heap.size, 0, rfl, by simp, fun j hj => ?_⟩⟩
  have h := (Has.new w 38 cells.toArray).cell
  obtain ⟨h1, h2⟩ := encFs_at G j G[j] (List.getElem?_eq_getElem hj)
  rw [Nat.zero_add, h, h]
  subst hc
  constructor
  · simpa using h1
  · simpa using h2
def exL : List HField := [([67, 111, 110, 110, 101, 99, 116, 105, 111, 110], [99, 108, 111, 115, 101, 44, 32, 88, 45, 65]), ([120, 45, 97], [49]), ([72, 111, 115, 116], [104]), ([84, 69], [116, 114, 97, 105, 108, 101, 114, 115])]
theorem ex1 : strip exL = [([72, 111, 115, 116], [104])] := by decide +kernel
theorem ex2 : hasE exL (toL ⟨#[99, 111, 110, 110, 101, 99, 116, 105, 111, 110]⟩) (toL ⟨#[67, 76, 79, 83, 69]⟩) = true := by decide +kernel
theorem exFew : Few exL := by
  have : exL.all (fun f => decide (f.1.length ≤ 1048576 ∧ f.2.length ≤ 1048576)) = true := by decide +kernel
  intro j hj
  exact of_decide_eq_true (List.all_eq_true.1 this _ (List.getElem_mem hj))
set_option maxHeartbeats 1600000 in
theorem anchor_any (w : World) (hm : MaxInt w) :
    Calls Tryd.prog 9 #[] w fun e w' => e = .returned (.bool true) ∧ Below w.heap.size w w' := by
  have hF : FL (w.alloc (.cells #[.string ⟨#[67, 111, 110, 110, 101, 99, 116, 105, 111, 110]⟩, .string ⟨#[99, 108, 111, 115, 101, 44, 32, 88, 45, 65]⟩, .string ⟨#[120, 45, 97]⟩, .string ⟨#[49]⟩, .string ⟨#[72, 111, 115, 116]⟩, .string ⟨#[104]⟩, .string ⟨#[84, 69]⟩, .string ⟨#[116, 114, 97, 105, 108, 101, 114, 115]⟩] 38)) (.slice (some ⟨w.heap.size, 0, none⟩) 4 4) exL := fl_new w exL [.string ⟨#[67, 111, 110, 110, 101, 99, 116, 105, 111, 110]⟩, .string ⟨#[99, 108, 111, 115, 101, 44, 32, 88, 45, 65]⟩, .string ⟨#[120, 45, 97]⟩, .string ⟨#[49]⟩, .string ⟨#[72, 111, 115, 116]⟩, .string ⟨#[104]⟩, .string ⟨#[84, 69]⟩, .string ⟨#[116, 114, 97, 105, 108, 101, 114, 115]⟩] 4 rfl (by decide)
  have hb0 := (Below.refl w.heap.size w).alloc (Nat.le_refl _) (.cells #[.string ⟨#[67, 111, 110, 110, 101, 99, 116, 105, 111, 110]⟩, .string ⟨#[99, 108, 111, 115, 101, 44, 32, 88, 45, 65]⟩, .string ⟨#[120, 45, 97]⟩, .string ⟨#[49]⟩, .string ⟨#[72, 111, 115, 116]⟩, .string ⟨#[104]⟩, .string ⟨#[84, 69]⟩, .string ⟨#[116, 114, 97, 105, 108, 101, 114, 115]⟩] 38)
  have HM := Lib.hid (hm.below hb0)
  have HF := Lib.hid hF
  have HB := Lib.hid hb0
  clear hm hF hb0
  have e1 := ex1
  have e2 := ex2
  have e0 := exFew
  have hl : exL.length ≤ 1048576 := by decide
  generalize exL = L at *
  have HS := Lib.hid (fun W hF hm => pstrip_any (.slice (some ⟨w.heap.size, 0, none⟩) 4 4) L e0 hl W hm hF)
  have HH := Lib.hid (fun W hF hm => phas_any (.slice (some ⟨w.heap.size, 0, none⟩) 4 4) L ⟨#[99, 111, 110, 110, 101, 99, 116, 105, 111, 110]⟩ ⟨#[67, 76, 79, 83, 69]⟩ e0 W hm hF)
  rw [e1] at HS
  rw [e2] at HH
  clear e0 e1 e2 hl
  go_enter Tryd.func9, Tryd.ntmps9
  go_wp2_with fail
  generalize (w.alloc (.cells #[.string ⟨#[67, 111, 110, 110, 101, 99, 116, 105, 111, 110]⟩, .string ⟨#[99, 108, 111, 115, 101, 44, 32, 88, 45, 65]⟩, .string ⟨#[120, 45, 97]⟩, .string ⟨#[49]⟩, .string ⟨#[72, 111, 115, 116]⟩, .string ⟨#[104]⟩, .string ⟨#[84, 69]⟩, .string ⟨#[116, 114, 97, 105, 108, 101, 114, 115]⟩] 38)) = W at HF HM HB ⊢
  generalize w.heap.size = g0 at HF HS HH ⊢
  refine (HS.out _ HF.out HM.out).mono ?_
  rintro e w2 ⟨v2, rfl, hrow, hb2⟩
  obtain ⟨p, cap, rfl, _, hc⟩ := fl_of hrow (by decide)
  obtain ⟨g, o, rfl, hlt, hcell⟩ := hc (by decide)
  have c1 : w2.cell? ⟨g, o + 1, none⟩ = some (.string ⟨#[104]⟩) := (hcell 0 (by decide)).2
  have HF2 := Lib.hid (HF.out.below hb2)
  have HM2 := Lib.hid (HM.out.below hb2)
  have HB2 := Lib.hid (HB.out.trans (hb2.mono HB.out.size))
  clear hrow hc hcell hb2 HS HF HM
  go_wp2_with fail
  refine (HH.out _ HF2.out HM2.out).mono ?_
  rintro e w3 ⟨rfl, hb3⟩
  have HB3 := Lib.hid (HB2.out.trans (hb3.mono HB2.out.size))
  clear hb3
  go_wp2_with fail
  go_ret
  exact ⟨rfl, HB3.out⟩
end Go.Proofs.YtgkmkkgneipabaaDoor.FAnchor
