/- Texts of this seat, one behind another: ConfEx, L14Anchor, LawCard. -/
import Derived.Test.YtfihehobkbfmiaaGreatDoorCards
import Derived.Test.YtfihehobkbfmiaaGreatDoorTie
import Derived.Deep.DeepHandedRow
import Derived.Lay
import Derived.SevenTiedAt
import Derived.Test.YtfihehobkbfmiaaGreatDoorA1
import Derived.Test.YtfihehobkbfmiaaGreatDoorA13
import Derived.Test.YtfihehobkbfmiaaGreatDoorA6
/- Layer 14: the document's example. No program is named. -/
namespace Go.Proofs.YtfihehobkbfmiaaGreatDoor.ConfEx
open Bytes LexPure LexNum DecN HostPure PathPure RHostPure EmitPure ConfPure ConfBack
set_option maxRecDepth 20000
def EX : L := [108, 105, 115, 116, 101, 110, 32, 52, 32, 49, 48, 48, 32, 53, 48, 32, 50, 48, 32, 50, 32, 55, 10, 99, 108, 117, 115, 116, 101, 114, 32, 117, 112, 32, 49, 32, 50, 32, 49, 32, 51, 48, 32, 51, 32, 49, 48, 48, 32, 53, 48, 32, 97, 58, 56, 48, 10, 118, 104, 111, 115, 116, 32, 42, 10, 114, 111, 117, 116, 101, 32, 49, 32, 47, 32, 45, 32, 45, 32, 45, 32, 49, 32, 117, 112, 32, 48, 32, 45, 32, 45, 32, 49, 32, 54, 48, 32, 48, 10]
def EXC : Conf := ⟨4, 100, 50, 20, 2, 7, [], [⟨[117, 112], 1, [[97, 58, 56, 48]], 2, 1, 30, 3, 100, 50⟩], [⟨[42], [⟨true, [47], [], [], [], 1, [117, 112], 0, [], [], 1, 60, false⟩]⟩]⟩
theorem d80 : decN 80 = [56, 48] := by rw [decN_more (by decide), decN_small (by decide)]; decide
theorem d100 : decN 100 = [49, 48, 48] := by rw [decN_three (by decide) (by decide)]; decide
theorem two {n : Nat} (h1 : 10 ≤ n) (h2 : n < 100) : decN n = [decB (n / 10), decB (n % 10)] := by
  rw [decN_more (by omega), decN_small (by omega)]
  rfl
theorem ex_check : check14 EXC = 0 := by
  have h : hostB [97, 58, 56, 48] = true := by
    unfold hostB
    rw [show authO [97, 58, 56, 48] = some ([97], 80) from by decide +kernel]
    have : decZ 80 = [56, 48] := d80
    simp only [this]
    decide
  have hs : hostsB [] [[97, 58, 56, 48]] = true := by
    unfold hostsB
    rw [h]
    rfl
  have hc : clusB ⟨[117, 112], 1, [[97, 58, 56, 48]], 2, 1, 30, 3, 100, 50⟩ = true := by
    unfold clusB
    rw [hs]
    decide
  have e1 : clusE [] EXC.clusters = 0 := by
    show clusE [] [⟨[117, 112], 1, [[97, 58, 56, 48]], 2, 1, 30, 3, 100, 50⟩] = 0
    unfold clusE
    rw [hc]
    decide +kernel
  have e2 : vhosE EXC.clusters [] EXC.vhosts = 0 := by decide +kernel
  unfold check14
  rw [if_neg (by decide +kernel), if_neg (by decide), e1, if_neg (fun h => h rfl), e2]
theorem ex_print : print14 EXC = EX := by
  have z : ∀ n : Nat, decZ (n : Int) = decN n := fun n => by
    unfold decZ
    rw [if_neg (by omega), Int.natAbs_natCast]
  have a4 : decZ 4 = [52] := (z 4).trans (decN_small (by decide))
  have a100 : decZ 100 = [49, 48, 48] := (z 100).trans d100
  have a50 : decZ 50 = [53, 48] := (z 50).trans (two (by decide) (by decide))
  have a20 : decZ 20 = [50, 48] := (z 20).trans (two (by decide) (by decide))
  have a2 : decZ 2 = [50] := (z 2).trans (decN_small (by decide))
  have a7 : decZ 7 = [55] := (z 7).trans (decN_small (by decide))
  have a1 : decZ 1 = [49] := (z 1).trans (decN_small (by decide))
  have a30 : decZ 30 = [51, 48] := (z 30).trans (two (by decide) (by decide))
  have a3 : decZ 3 = [51] := (z 3).trans (decN_small (by decide))
  have a0 : decZ 0 = [48] := (z 0).trans (decN_small (by decide))
  have a60 : decZ 60 = [54, 48] := (z 60).trans (two (by decide) (by decide))
  simp only [print14, linesC, EXC, listenW, clusW, routW, vhosLs, lineW, a4, a100, a50, a20, a2, a7, a1, a30, a3, a0, a60, List.map_nil, List.map_cons, List.flatMap_cons, List.flatMap_nil, List.append_nil, List.nil_append]
  decide +kernel
theorem ex_parse : parse14 EX = (EXC, 0, 0) := by rw [← ex_print]; exact back14 ex_check
theorem ex_word : word [97, 32, 98] = [97, 37, 50, 48, 98] := by decide
theorem empty_check (a b c d e f : Int) : check14 ⟨a, b, c, d, e, f, [], [], []⟩ = if inB a 1 256 && inB b 0 65536 && inB c 1 TICK && inB d 1 TICK && inB e 0 256 && inB f 0 1099511627776 then 0 else 141 := by
  unfold check14 boundsB
  simp only [List.length_nil, Nat.zero_le, decide_true, Bool.and_true]
  cases (inB a 1 256 && inB b 0 65536 && inB c 1 TICK && inB d 1 TICK && inB e 0 256 && inB f 0 1099511627776) <;> rfl
end Go.Proofs.YtfihehobkbfmiaaGreatDoor.ConfEx

/- Layer 14's laws: the document's example. -/
namespace Go.Proofs.YtfihehobkbfmiaaGreatDoor.L14Anchor
open Go.ChangeShapes Go.WideShapes Go.ChangeAt Go.RowKit Bytes LexPure ConfPure ConfMem ConfEx ConfObj R14Bnd Ret Mem
set_option maxRecDepth 100000
set_option linter.unusedVariables false
theorem ex_fit : FitConf EXC := by
  refine ⟨by decide, by decide, by decide, by decide, by decide, by decide, ⟨by decide, fun x hx => by cases hx⟩, ⟨by decide, fun x hx => ?_⟩, ⟨by decide, fun x hx => ?_⟩⟩
  · obtain rfl := List.mem_singleton.1 hx
    exact ⟨by decide, by decide, ⟨by decide, fun t ht => by obtain rfl := List.mem_singleton.1 ht; decide⟩, by decide, by decide, by decide, by decide, by decide, by decide⟩
  · obtain rfl := List.mem_singleton.1 hx
    refine ⟨by decide, by decide, fun r hr => ?_⟩
    obtain rfl := List.mem_singleton.1 hr
    exact ⟨by decide, by decide, by decide, by decide, by decide, by decide, by decide, by decide, by decide, by decide, by decide⟩
theorem self_text (s : ByteArray) : (s.toList == s.toList) = true := beq_self_eq_true _
set_option maxHeartbeats 3200000 in
theorem anchor_any (w : World) (hm : Fit w) : Calls Tryz.prog 9 #[] w fun e w' => e = .returned (.bool true) ∧ Below w.heap.size w w' := by
  have HP := Lib.hid (pparse_any (ofL EX) (by rw [ofL_size]; decide) (by rw [toL_ofL]; exact fit_of ex_parse (.inl rfl) (fun _ => ex_fit)) w hm)
  rw [toL_ofL, ex_parse] at HP
  have HPr := Lib.hid (fun vf vc vv w h c => pprint_any EXC vf vc vv ex_fit ex_check w h c)
  rw [ex_print] at HPr
  have HW := Lib.hid (fun w h => pword_any ⟨#[97, 32, 98]⟩ (by decide) w h)
  rw [show toL ⟨#[97, 32, 98]⟩ = [97, 32, 98] from rfl, ex_word] at HW
  have HM := Lib.hid hm
  clear hm
  go_enter Tryz.func9, Tryz.ntmps9
  go_wp2_with fail
  refine HP.out.mono ?_
  rintro e w1 ⟨vf, vc, vv, rfl, hC, hb⟩
  obtain ⟨⟨pf, cf, rfl⟩, ⟨pc, cc, rfl⟩, ⟨pv, cv, rfl⟩⟩ := R14Bnd.CF.vals hC
  have ha := (Below.refl w1.heap.size w1).alloc (Nat.le_refl _) (.cells (confV EXC (.slice pf EXC.filters.length cf) (.slice pc EXC.clusters.length cc) (.slice pv EXC.vhosts.length cv)) 26)
  have HB := Lib.hid (below_chain hb ha)
  have HC := Lib.hid (hC.below ha)
  have HMw := Lib.hid (HM.out.below HB.out)
  unfold confV at HB HC HMw HPr ⊢
  clear hb ha hC HP HM
  have s1 : ((ofL EX).toList == [108, 105, 115, 116, 101, 110, 32, 52, 32, 49, 48, 48, 32, 53, 48, 32, 50, 48, 32, 50, 32, 55, 10, 99, 108, 117, 115, 116, 101, 114, 32, 117, 112, 32, 49, 32, 50, 32, 49, 32, 51, 48, 32, 51, 32, 49, 48, 48, 32, 53, 48, 32, 97, 58, 56, 48, 10, 118, 104, 111, 115, 116, 32, 42, 10, 114, 111, 117, 116, 101, 32, 49, 32, 47, 32, 45, 32, 45, 32, 45, 32, 49, 32, 117, 112, 32, 48, 32, 45, 32, 45, 32, 49, 32, 54, 48, 32, 48, 10]) = true := by rw [ByteArray.toList_eq]; rfl
  have s3 : (ofL EX).toList = [108, 105, 115, 116, 101, 110, 32, 52, 32, 49, 48, 48, 32, 53, 48, 32, 50, 48, 32, 50, 32, 55, 10, 99, 108, 117, 115, 116, 101, 114, 32, 117, 112, 32, 49, 32, 50, 32, 49, 32, 51, 48, 32, 51, 32, 49, 48, 48, 32, 53, 48, 32, 97, 58, 56, 48, 10, 118, 104, 111, 115, 116, 32, 42, 10, 114, 111, 117, 116, 101, 32, 49, 32, 47, 32, 45, 32, 45, 32, 45, 32, 49, 32, 117, 112, 32, 48, 32, 45, 32, 45, 32, 49, 32, 54, 48, 32, 48, 10] := by simpa using s1
  have s2 : ((ofL [97, 37, 50, 48, 98]).toList == [97, 37, 50, 48, 98]) = true := by rw [ByteArray.toList_eq]; rfl
  have e1 : (EXC.conns == 4) = true := rfl
  have e2 : (((EXC.clusters.length : Nat) : Int) == 1) = true := rfl
  go_wp2_with fail
  refine (HPr.out _ _ _ _ HMw.out HC.out).mono ?_
  rintro e w2 ⟨rfl, hb2⟩
  have HB2 := Lib.hid (below_chain HB.out hb2)
  have HM2 := Lib.hid (HMw.out.below hb2)
  clear hb2 HPr HC HB HMw
  go_wp2_with fail
  refine (HW.out _ HM2.out).mono ?_
  rintro e w3 ⟨rfl, hb3⟩
  have HB3 := Lib.hid (below_chain HB2.out hb3)
  clear hb3 HW HM2 HB2
  go_wp2_with fail
  go_ret
  exact ⟨rfl, HB3.out⟩
end Go.Proofs.YtfihehobkbfmiaaGreatDoor.L14Anchor

/- The row's step for a law whose row lists variables, and its card: the witness in the world that the listed data lay. -/
namespace Go.Proofs.YtfihehobkbfmiaaGreatDoor.LawCard
open Go.ChangeShapes Go.WideShapes Go.ChangeAt Go.RowKit
variable {H : Type} {enc : TypeId × Value → H}
/-- there is an input that fits: in the world that the listed data lay -/
theorem witness {C : Checked} {os : Os} {f : FuncId} {fn : Func} {s : OpenSpec} {conds : List PathCond} {apart : Bool} {laid : List (String × DataW Unit)} (args : Array Value)
    (hv : ((World.laidAll C.prog os laid).forCall (fun _ _ => 0) ⟨#[], args, []⟩).variablesZipB C.prog = true)
    (hr : (((World.laidAll C.prog os laid).forCall (fun _ _ => 0) ⟨#[], args, []⟩).heap.toList.drop C.prog.globals.size).take ((begin C.prog (fun _ _ => 0) default).world.heap.size - C.prog.globals.size) =
      (begin C.prog (fun _ _ => 0) default).world.heap.toList.drop C.prog.globals.size)
    (hok : Input.okWideB C.prog ((World.laidAll C.prog os laid).forCall (fun _ _ => 0) ⟨#[], args, []⟩) f ⟨#[], args, []⟩ = true)
    (hplain : ∀ w, laidMetH C.prog laid w = laidMet C.prog laid w)
    (hf : (World.holding C.prog os ⟨#[], #[], []⟩).layFits C.prog laid [] = true)
    (hi : (World.holding C.prog os ⟨#[], #[], []⟩).layIfaces C.prog laid (World.laidAll C.prog os laid) = true)
    {x : List (DataW H) × List (DataW H) × List MemPlace} (hx : DataW.whole enc C.prog ((World.laidAll C.prog os laid).forCall (fun _ _ => 0) ⟨#[], args, []⟩).memory fn.params.toList s.vars apart args.toList 8 = some x)
    (hconds : conds.all (PathCond.test C.prog ⟨fn.params.toList, x.1, s.bare.plain.varTypes C.prog, x.2.1⟩) = true) (hkk : ∀ k, s.cond = some k → k H (x.1 ++ x.2.1) = true)
    (hsz : s.bare.sizedB enc C.prog fn apart ((World.laidAll C.prog os laid).forCall (fun _ _ => 0) ⟨#[], args, []⟩).memory args 8 = true) :
    ∃ (w : World) (tape : Tape) (i : Input), w.os = os ∧ (w.forCall tape i).Shaped C.prog ∧ i.vars = [] ∧ Input.okWide C.prog (w.forCall tape i) .any w.heap.size f i ∧
      s.preRow enc C.prog fn conds apart laid (w.forCall tape i).memory i.args ∧ ({} : Assume).holds C.prog (lone (Frame.enter C.prog f i.args .normal) [] (w.forCall tape i)) :=
  ⟨World.laidAll C.prog os laid, fun _ _ => 0, ⟨#[], args, []⟩, World.laidAll_os _ _ _, World.shaped_of_ZipB hv hr, (Input.okWide_of_okWideB (base := 0) hok).1, (Input.okWide_of_okWideB hok).2,
    OpenSpec.preRow_of_cond 8 hx hconds hkk hsz (by rw [hplain]; exact laidMet_laidAll _ hf hi), by
    simp only [Assume.holds]
    exact ⟨by simp, by simp, fun _ => Modest.zero, by simp, by simp⟩⟩
end Go.Proofs.YtfihehobkbfmiaaGreatDoor.LawCard
