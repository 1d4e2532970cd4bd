/- Texts of this seat, one behind another: R7One, R7Check, LawCard. -/
import Derived.Outline
import Derived.LoopTactic
import Derived.Handy
import Derived.IntWalk
import Derived.Deep.QuietTactic
import Derived.BigQuiet
import Derived.Test.YtblpooddamkfdaaGreatDoorCards
import Derived.Test.YtblpooddamkfdaaGreatDoorTie
import Derived.Deep.DeepHandedRow
import Derived.Lay
import Derived.SevenTiedAt
import Derived.Test.YtblpooddamkfdaaGreatDoorA2
import Derived.Test.YtblpooddamkfdaaGreatDoorA1
import Derived.Test.YtblpooddamkfdaaGreatDoorB1
import Derived.Test.YtblpooddamkfdaaGreatDoorB3
/- Layer 7, the document's own One. -/
namespace Go.Proofs.YtblpooddamkfdaaGreatDoor.R7One
open Go.ChangeShapes Go.WideShapes Go.ChangeAt Go.RowKit LexPure Bytes Ret Rows1 Texts FieldsPure Flds RAlike7 R7Get R7Has Mem
set_option maxRecDepth 20000
theorem fixed_short (k : Nat) (h : k < fixed.length) : fixed[k].length ≤ 1048576 := by
  have : fixed.all (fun f => decide (f.length ≤ 1048576)) = true := by decide
  have := List.all_eq_true.1 this _ (List.getElem_mem h)
  exact of_decide_eq_true this
set_option maxHeartbeats 1600000 in
theorem r7one_any (v : Value) (G : List HField) (n : ByteArray) (hn : n.size ≤ 1048576) (hG : Few G) (hle2 : G.length ≤ 1048576) (w : World) (hF : FL w v G) :
    Calls Tryz.prog 14 #[v, .string n] w fun e w' => e = .returned (.bool (one G (toL n))) ∧ Below w.heap.size w w' := by
  have hcells : ∀ j (hj : j < 7), (w.alloc (.cells #[.string ⟨#[99, 111, 110, 110, 101, 99, 116, 105, 111, 110]⟩, .string ⟨#[107, 101, 101, 112, 45, 97, 108, 105, 118, 101]⟩, .string ⟨#[112, 114, 111, 120, 121, 45, 99, 111, 110, 110, 101, 99, 116, 105, 111, 110]⟩, .string ⟨#[116, 101]⟩, .string ⟨#[116, 114, 97, 105, 108, 101, 114]⟩, .string ⟨#[116, 114, 97, 110, 115, 102, 101, 114, 45, 101, 110, 99, 111, 100, 105, 110, 103]⟩, .string ⟨#[117, 112, 103, 114, 97, 100, 101]⟩] 92)).cell? ⟨w.heap.size, j, none⟩ = some (.string (ofL (fixed[j]'hj))) := fun j hj => by
    have h := (Has.new w 92 #[.string ⟨#[99, 111, 110, 110, 101, 99, 116, 105, 111, 110]⟩, .string ⟨#[107, 101, 101, 112, 45, 97, 108, 105, 118, 101]⟩, .string ⟨#[112, 114, 111, 120, 121, 45, 99, 111, 110, 110, 101, 99, 116, 105, 111, 110]⟩, .string ⟨#[116, 101]⟩, .string ⟨#[116, 114, 97, 105, 108, 101, 114]⟩, .string ⟨#[116, 114, 97, 110, 115, 102, 101, 114, 45, 101, 110, 99, 111, 100, 105, 110, 103]⟩, .string ⟨#[117, 112, 103, 114, 97, 100, 101]⟩]).cell j
    rw [h]
    match j, hj with
    | 0, _ => rfl
    | 1, _ => rfl
    | 2, _ => rfl
    | 3, _ => rfl
    | 4, _ => rfl
    | 5, _ => rfl
    | 6, _ => rfl
  have hbl := (Below.refl w.heap.size w).alloc (Nat.le_refl _) (.cells #[.string ⟨#[99, 111, 110, 110, 101, 99, 116, 105, 111, 110]⟩, .string ⟨#[107, 101, 101, 112, 45, 97, 108, 105, 118, 101]⟩, .string ⟨#[112, 114, 111, 120, 121, 45, 99, 111, 110, 110, 101, 99, 116, 105, 111, 110]⟩, .string ⟨#[116, 101]⟩, .string ⟨#[116, 114, 97, 105, 108, 101, 114]⟩, .string ⟨#[116, 114, 97, 110, 115, 102, 101, 114, 45, 101, 110, 99, 111, 100, 105, 110, 103]⟩, .string ⟨#[117, 112, 103, 114, 97, 100, 101]⟩] 92)
  have hsz : w.heap.size < (w.alloc (.cells #[.string ⟨#[99, 111, 110, 110, 101, 99, 116, 105, 111, 110]⟩, .string ⟨#[107, 101, 101, 112, 45, 97, 108, 105, 118, 101]⟩, .string ⟨#[112, 114, 111, 120, 121, 45, 99, 111, 110, 110, 101, 99, 116, 105, 111, 110]⟩, .string ⟨#[116, 101]⟩, .string ⟨#[116, 114, 97, 105, 108, 101, 114]⟩, .string ⟨#[116, 114, 97, 110, 115, 102, 101, 114, 45, 101, 110, 99, 111, 100, 105, 110, 103]⟩, .string ⟨#[117, 112, 103, 114, 97, 100, 101]⟩] 92)).heap.size := by simp
  have HF := Lib.hid (hF.below hbl)
  replace hcells := Lib.hid hcells
  replace hbl := Lib.hid hbl
  replace hsz := Lib.hid hsz
  have HV : Hid (one G (toL n) = (fixed.any (fun x => alike x (toL n)) || hasE G CONNECTION (toL n))) := Lib.hid rfl
  have HH := Lib.hid (fun w hF => r7has_any v G ⟨#[99, 111, 110, 110, 101, 99, 116, 105, 111, 110]⟩ n (by decide) hn hG hle2 w hF)
  rw [show toL ⟨#[99, 111, 110, 110, 101, 99, 116, 105, 111, 110]⟩ = CONNECTION from rfl] at HH
  obtain ⟨b, hb⟩ : ∃ b, b = one G (toL n) := ⟨_, rfl⟩
  rw [← hb] at HV ⊢
  clear hb hF hG
  generalize hasE G CONNECTION (toL n) = c at *
  go_enter Tryz.func14, Tryz.ntmps14
  go_wp2_with fail
  generalize w.alloc (.cells #[.string ⟨#[99, 111, 110, 110, 101, 99, 116, 105, 111, 110]⟩, .string ⟨#[107, 101, 101, 112, 45, 97, 108, 105, 118, 101]⟩, .string ⟨#[112, 114, 111, 120, 121, 45, 99, 111, 110, 110, 101, 99, 116, 105, 111, 110]⟩, .string ⟨#[116, 101]⟩, .string ⟨#[116, 114, 97, 105, 108, 101, 114]⟩, .string ⟨#[116, 114, 97, 110, 115, 102, 101, 114, 45, 101, 110, 99, 111, 100, 105, 110, 103]⟩, .string ⟨#[117, 112, 103, 114, 97, 100, 101]⟩] 92) = W at HF hcells hbl hsz ⊢
  generalize w.heap.size = g at hcells hsz ⊢
  go_loopw [6] (fun i wr => ∃ k : Nat, k ≤ 7 ∧ i = .int .i64 k ∧ Hid ((fixed.take k).any (fun x => alike x (toL n)) = false) ∧ Hid (Below W.heap.size W wr)) (fun i _ => 7 - (intOf i).toNat)
  case atStart => exact ⟨0, by omega, rfl, Lib.hid rfl, Lib.hid (Below.refl _ _)⟩
  case round =>
    obtain ⟨k, hk, rfl, ha, HB⟩ := hrel
    by_cases hlt : k < 7
    · have hki : (k : Int) < 7 := by omega
      have hlf : k < fixed.length := hlt
      have c1 := (HB.out.cell (p := ⟨g, k, none⟩) hsz.out).trans (hcells.out k hlt)
      have hfl : (fixed[k]'hlf).length ≤ 1048576 := fixed_short k hlf
      have HA := Lib.hid (fun w => ralike7_any (ofL (fixed[k]'hlf)) n (by rw [ofL_size]; omega) (by omega) w)
      rw [toL_ofL] at HA
      cases hh : alike (fixed[k]'hlf) (toL n)
      · have HN : Hid ((fixed.take (k + 1)).any (fun x => alike x (toL n)) = false) := Lib.hid (by
          rw [List.take_add_one, List.getElem?_eq_getElem hlf, List.any_append, ha.out]
          simp [hh])
        rw [hh] at HA
        clear hh ha
        generalize ofL (fixed[k]'hlf) = F at *
        go_wp2_with fail
        refine (HA.out _).mono ?_
        rintro e w3 ⟨rfl, hb3⟩
        have HB3 := Lib.hid (below_chain HB.out hb3)
        clear hb3 c1
        go_wp2_with fail
        go_roundw
        case rel => exact ⟨k + 1, by omega, by go_num, HN, HB3⟩
        case measure => simp [intOf]; omega
      · have HV2 : Hid (b = true) := Lib.hid (by
          rw [HV.out, Bool.or_eq_true]
          left
          rw [List.any_eq_true]
          exact ⟨_, List.getElem_mem hlf, hh⟩)
        rw [hh] at HA
        clear hh ha
        generalize ofL (fixed[k]'hlf) = F at *
        go_wp2_with fail
        refine (HA.out _).mono ?_
        rintro e w3 ⟨rfl, hb3⟩
        have HB3 := Lib.hid (hbl.out.trans ((below_chain HB.out hb3).mono hbl.out.size))
        clear hb3 c1
        go_wp2_with fail
        go_ret
        exact ⟨ret_bool HV2.out.symm, HB3.out⟩
    · have HV2 : Hid (b = c) := Lib.hid (by
        have h := ha.out
        rw [List.take_of_length_le (by exact Nat.not_lt.1 hlt)] at h
        rw [HV.out, h, Bool.false_or])
      have HFL := Lib.hid (HF.out.below HB.out)
      clear ha
      go_wp2_with fail
      refine (HH.out _ HFL.out).mono ?_
      rintro e w3 ⟨rfl, hb3⟩
      have HB3 := Lib.hid (hbl.out.trans ((below_chain HB.out hb3).mono hbl.out.size))
      clear hb3
      go_wp2_with fail
      go_ret
      exact ⟨ret_bool HV2.out.symm, HB3.out⟩
end Go.Proofs.YtblpooddamkfdaaGreatDoor.R7One

/- Layer 7, the document's own Check. -/
namespace Go.Proofs.YtblpooddamkfdaaGreatDoor.R7Check
open Go.ChangeShapes Go.WideShapes Go.ChangeAt Go.RowKit LexPure Bytes Ret Rows1 FieldsPure Flds RToken RValue Mem
set_option maxRecDepth 20000
theorem ret_i {a b : Int} (h : a = b) : Ending.returned (.int .i64 a) = .returned (.int .i64 b) := by rw [h]
set_option maxHeartbeats 1600000 in
theorem r7check_far (v : Value) (G : List HField) (hG : Far G) (w : World) (hF : FL w v G) :
    Calls Tryz.prog 13 #[v] w fun e w' => e = .returned (.int .i64 (check G)) ∧ Below w.heap.size w w' := by
  obtain ⟨p, cap, rfl, hle, hc⟩ := hF
  replace hc := Lib.hid hc
  replace hG := Lib.hid hG
  go_enter Tryz.func13, Tryz.ntmps13
  go_wp2_with fail
  go_loopw [3] (fun i wr => ∃ k : Nat, k ≤ G.length ∧ i = .int .i64 k ∧ Hid ((G.take k).all right = true) ∧ Hid (Below w.heap.size w wr)) (fun i _ => G.length - (intOf i).toNat)
  case atStart => exact ⟨0, Nat.zero_le _, rfl, Lib.hid rfl, Lib.hid (Below.refl _ _)⟩
  case round =>
    obtain ⟨k, hk, rfl, ha, HB⟩ := hrel
    by_cases hlt : k < G.length
    · obtain ⟨g, o, rfl, hgl, hcell⟩ := hc.out (by omega)
      obtain ⟨c1, c2⟩ := hcell k hlt
      replace c1 := (HB.out.cell (p := ⟨g, o + k * 2, none⟩) hgl).trans c1
      replace c2 := (HB.out.cell (p := ⟨g, o + k * 2 + 1, none⟩) hgl).trans c2
      have hki : (k : Int) < (G.length : Int) := by omega
      obtain ⟨s1, s2⟩ := hG.out k hlt
      clear hcell
      have HTk := Lib.hid (fun w => (rtoken_any (ofL G[k].1) (by rw [ofL_size]; unfold maxLen; omega) w).mono (fun e w' h => (⟨h.1, h.2.symm⟩ : e = .returned (.bool (token (toL (ofL G[k].1)))) ∧ w' = w)))
      have HVl := Lib.hid (fun w => (rvalue_any (ofL G[k].2) (by rw [ofL_size]; unfold maxLen; omega) w).mono (fun e w' h => (⟨h.1, h.2.symm⟩ : e = .returned (.bool (value (toL (ofL G[k].2)))) ∧ w' = w)))
      rw [toL_ofL] at HTk HVl
      have hA := ofL_size G[k].1
      have hB := ofL_size G[k].2
      have HT : Hid ((G.take (k + 1)).all right = ((G.take k).all right && right G[k])) := Lib.hid (by
        rw [List.take_add_one, List.getElem?_eq_getElem hlt, List.all_append]
        simp)
      have HF : right G[k] = false → Hid (check G = 70) := fun h => Lib.hid (by
        unfold check
        rw [if_neg]
        intro h2
        have := List.all_eq_true.1 h2 _ (List.getElem_mem hlt)
        rw [h] at this
        cases this)
      have hr : right G[k] = (token G[k].1 && value G[k].2 && decide (G[k].1.length + G[k].2.length ≤ 512)) := rfl
      have hsum : IntKind.i64.wrap (((ofL G[k].1).size : Int) + ((ofL G[k].2).size : Int)) = ((ofL G[k].1).size : Int) + ((ofL G[k].2).size : Int) := IntWalk.i64_in _ (by omega)
      have hcases : (token G[k].1 = false) ∨ (token G[k].1 = true ∧ value G[k].2 = false) ∨ (token G[k].1 = true ∧ value G[k].2 = true ∧ decide ((512 : Int) < ((ofL G[k].1).size : Int) + ((ofL G[k].2).size : Int)) = true ∧ right G[k] = false) ∨ (token G[k].1 = true ∧ value G[k].2 = true ∧ decide ((512 : Int) < ((ofL G[k].1).size : Int) + ((ofL G[k].2).size : Int)) = false ∧ right G[k] = true) := by
        rw [hr, hA, hB]
        cases token G[k].1
        · exact .inl rfl
        · cases value G[k].2
          · exact .inr (.inl ⟨rfl, rfl⟩)
          · by_cases h : G[k].1.length + G[k].2.length ≤ 512
            · exact .inr (.inr (.inr ⟨rfl, rfl, decide_eq_false (by omega), by rw [decide_eq_true h]; rfl⟩))
            · exact .inr (.inr (.inl ⟨rfl, rfl, decide_eq_true (by omega), by rw [decide_eq_false h]; rfl⟩))
      clear hA hB
      rcases hcases with h1 | ⟨h1, h2⟩ | ⟨h1, h2, h3, h4⟩ | ⟨h1, h2, h3, h4⟩
      · have HV := HF (by rw [hr, h1]; rfl)
        rw [h1] at HTk
        clear hr h1 HF HT ha hsum
        generalize ofL G[k].1 = A at *
        generalize ofL G[k].2 = B at *
        have HBH := Lib.hid HB.out
        go_wp2_with fail
        go_quiet (first | (go_at_call 40; exact Calls.quiet_of_same (HTk.out _)) | (go_at_call 8; exact Calls.quiet_of_same (HVl.out _)))
        go_wp2_with fail
        go_ret
        exact ⟨ret_i HV.out.symm, HBH.out.trans ⟨rfl, rfl, rfl, Nat.le_refl _, fun _ _ => rfl⟩⟩
      · have HV := HF (by rw [hr, h1, h2]; rfl)
        rw [h1] at HTk
        rw [h2] at HVl
        clear hr h1 h2 HF HT ha hsum
        generalize ofL G[k].1 = A at *
        generalize ofL G[k].2 = B at *
        have HBH := Lib.hid HB.out
        go_wp2_with fail
        go_quiet (first | (go_at_call 40; exact Calls.quiet_of_same (HTk.out _)) | (go_at_call 8; exact Calls.quiet_of_same (HVl.out _)))
        go_wp2_with fail
        go_ret
        exact ⟨ret_i HV.out.symm, HBH.out.trans ⟨rfl, rfl, rfl, Nat.le_refl _, fun _ _ => rfl⟩⟩
      · have HV := HF h4
        rw [h1] at HTk
        rw [h2] at HVl
        clear hr h1 h2 h4 HF HT ha
        generalize ofL G[k].1 = A at *
        generalize ofL G[k].2 = B at *
        have HBH := Lib.hid HB.out
        go_wp2_with fail
        go_quiet (first | (go_at_call 40; exact Calls.quiet_of_same (HTk.out _)) | (go_at_call 8; exact Calls.quiet_of_same (HVl.out _)))
        go_wp2_with fail
        go_ret
        exact ⟨ret_i HV.out.symm, HBH.out.trans ⟨rfl, rfl, rfl, Nat.le_refl _, fun _ _ => rfl⟩⟩
      · have HA2 : Hid ((G.take (k + 1)).all right = true) := Lib.hid (by rw [HT.out, ha.out, h4]; rfl)
        rw [h1] at HTk
        rw [h2] at HVl
        clear hr h1 h2 h4 HF HT ha
        generalize ofL G[k].1 = A at *
        generalize ofL G[k].2 = B at *
        have HBH := Lib.hid HB.out
        go_wp2_with fail
        go_quiet (first | (go_at_call 40; exact Calls.quiet_of_same (HTk.out _)) | (go_at_call 8; exact Calls.quiet_of_same (HVl.out _)))
        go_wp2_with fail
        have HB3 : Hid (Below w.heap.size w (wr.drewN nq)) := Lib.hid (HBH.out.trans ⟨rfl, rfl, rfl, Nat.le_refl _, fun _ _ => rfl⟩)
        go_roundw
        case rel => exact ⟨k + 1, by omega, by go_num, HA2, HB3⟩
        case measure => simp [intOf]; omega
    · have hall : G.take k = G := List.take_of_length_le (by omega)
      have hc2 := ha.out
      rw [hall] at hc2
      have HBH := Lib.hid HB.out
      by_cases h32 : G.length ≤ 32
      · have HV : Hid (check G = 0) := Lib.hid (by unfold check; rw [if_pos hc2, if_pos h32])
        have hi : ¬ (32 : Int) < (G.length : Int) := by omega
        clear hall hc2 ha
        go_wp2_with fail
        go_ret
        exact ⟨ret_i HV.out.symm, HBH.out⟩
      · have HV : Hid (check G = 71) := Lib.hid (by unfold check; rw [if_pos hc2, if_neg h32])
        have hi : (32 : Int) < (G.length : Int) := by omega
        clear hall hc2 ha
        go_wp2_with fail
        go_ret
        exact ⟨ret_i HV.out.symm, HBH.out⟩
theorem r7check_any (v : Value) (G : List HField) (hG : Few G) (w : World) (hF : FL w v G) :
    Calls Tryz.prog 13 #[v] w fun e w' => e = .returned (.int .i64 (check G)) ∧ Below w.heap.size w w' := r7check_far v G hG.far w hF
end Go.Proofs.YtblpooddamkfdaaGreatDoor.R7Check

/- The row's step for a law whose row lists variables, and its card: the witness in the world that the listed data lay. -/
namespace Go.Proofs.YtblpooddamkfdaaGreatDoor.LawCard
open Go.ChangeShapes Go.WideShapes Go.ChangeAt Go.RowKit
variable {H : Type} {enc : TypeId × Value → H}
/-- there is an input that fits: in the world that the listed data lay -/
theorem witness {C : Checked} {os : Os} {f : FuncId} {fn : Func} {s : OpenSpec} {conds : List PathCond} {apart : Bool} {laid : List (String × DataW Unit)} (args : Array Value)
    (hv : ((World.laidAll C.prog os laid).forCall (fun _ _ => 0) ⟨#[], args, []⟩).variablesZipB C.prog = true)
    (hr : (((World.laidAll C.prog os laid).forCall (fun _ _ => 0) ⟨#[], args, []⟩).heap.toList.drop C.prog.globals.size).take ((begin C.prog (fun _ _ => 0) default).world.heap.size - C.prog.globals.size) =
      (begin C.prog (fun _ _ => 0) default).world.heap.toList.drop C.prog.globals.size)
    (hok : Input.okWideB C.prog ((World.laidAll C.prog os laid).forCall (fun _ _ => 0) ⟨#[], args, []⟩) f ⟨#[], args, []⟩ = true)
    (hplain : ∀ w, laidMetH C.prog laid w = laidMet C.prog laid w)
    (hf : (World.holding C.prog os ⟨#[], #[], []⟩).layFits C.prog laid [] = true)
    (hi : (World.holding C.prog os ⟨#[], #[], []⟩).layIfaces C.prog laid (World.laidAll C.prog os laid) = true)
    {x : List (DataW H) × List (DataW H) × List MemPlace} (hx : DataW.whole enc C.prog ((World.laidAll C.prog os laid).forCall (fun _ _ => 0) ⟨#[], args, []⟩).memory fn.params.toList s.vars apart args.toList 8 = some x)
    (hconds : conds.all (PathCond.test C.prog ⟨fn.params.toList, x.1, s.bare.plain.varTypes C.prog, x.2.1⟩) = true) (hkk : ∀ k, s.cond = some k → k H (x.1 ++ x.2.1) = true)
    (hsz : s.bare.sizedB enc C.prog fn apart ((World.laidAll C.prog os laid).forCall (fun _ _ => 0) ⟨#[], args, []⟩).memory args 8 = true) :
    ∃ (w : World) (tape : Tape) (i : Input), w.os = os ∧ (w.forCall tape i).Shaped C.prog ∧ i.vars = [] ∧ Input.okWide C.prog (w.forCall tape i) .any w.heap.size f i ∧
      s.preRow enc C.prog fn conds apart laid (w.forCall tape i).memory i.args ∧ ({} : Assume).holds C.prog (lone (Frame.enter C.prog f i.args .normal) [] (w.forCall tape i)) :=
  ⟨World.laidAll C.prog os laid, fun _ _ => 0, ⟨#[], args, []⟩, World.laidAll_os _ _ _, World.shaped_of_ZipB hv hr, (Input.okWide_of_okWideB (base := 0) hok).1, (Input.okWide_of_okWideB hok).2,
    OpenSpec.preRow_of_cond 8 hx hconds hkk hsz (by rw [hplain]; exact laidMet_laidAll _ hf hi), by
    simp only [Assume.holds]
    exact ⟨by simp, by simp, fun _ => Modest.zero, by simp, by simp⟩⟩
end Go.Proofs.YtblpooddamkfdaaGreatDoor.LawCard
