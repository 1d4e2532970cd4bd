/- Texts of this seat, one behind another: R7One, R7Strip, R13On, R13Join, R13Dig. -/
import Derived.Deep.QuietTactic
import Derived.BigQuiet
import Derived.Deep.RegionHeld3
import Derived.Laws.Strings3
import Derived.Lib.Hide
import Derived.Below
import Derived.Outline
import Derived.LoopTactic
import Derived.Handy
import Derived.Deep.RegionWith
import Derived.IntWalk
import Derived.Test.YtblpooddamkfdaaDoorA2
import Derived.Test.YtblpooddamkfdaaDoorA1
import Derived.Test.YtblpooddamkfdaaDoorB
/- Layer 7, the document's own One. -/
namespace Go.Proofs.YtblpooddamkfdaaDoor.R7One
open Go.ChangeShapes Go.WideShapes Go.ChangeAt Go.RowKit LexPure Bytes Ret Rows1 Texts FieldsPure Flds RAlike7 R7Get R7Has Mem
set_option maxRecDepth 20000
theorem fixed_short (k : Nat) (h : k < fixed.length) : fixed[k].length ≤ 1048576 := by
  have : fixed.all (fun f => decide (f.length ≤ 1048576)) = true := by decide
  have := List.all_eq_true.1 this _ (List.getElem_mem h)
  exact of_decide_eq_true this
set_option maxHeartbeats 1600000 in
theorem r7one_any (v : Value) (G : List HField) (n : ByteArray) (hn : n.size ≤ 1048576) (hG : Few G) (hle2 : G.length ≤ 1048576) (w : World) (hF : FL w v G) :
    Calls Tryd.prog 48 #[v, .string n] w fun e w' => e = .returned (.bool (one G (toL n))) ∧ Below w.heap.size w w' := by
  have hcells : ∀ j (hj : j < 7), (w.alloc (.cells #[.string ⟨#[99, 111, 110, 110, 101, 99, 116, 105, 111, 110]⟩, .string ⟨#[107, 101, 101, 112, 45, 97, 108, 105, 118, 101]⟩, .string ⟨#[112, 114, 111, 120, 121, 45, 99, 111, 110, 110, 101, 99, 116, 105, 111, 110]⟩, .string ⟨#[116, 101]⟩, .string ⟨#[116, 114, 97, 105, 108, 101, 114]⟩, .string ⟨#[116, 114, 97, 110, 115, 102, 101, 114, 45, 101, 110, 99, 111, 100, 105, 110, 103]⟩, .string ⟨#[117, 112, 103, 114, 97, 100, 101]⟩] 96)).cell? ⟨w.heap.size, j, none⟩ = some (.string (ofL (fixed[j]'hj))) := fun j hj => by
    have h := (Has.new w 96 #[.string ⟨#[99, 111, 110, 110, 101, 99, 116, 105, 111, 110]⟩, .string ⟨#[107, 101, 101, 112, 45, 97, 108, 105, 118, 101]⟩, .string ⟨#[112, 114, 111, 120, 121, 45, 99, 111, 110, 110, 101, 99, 116, 105, 111, 110]⟩, .string ⟨#[116, 101]⟩, .string ⟨#[116, 114, 97, 105, 108, 101, 114]⟩, .string ⟨#[116, 114, 97, 110, 115, 102, 101, 114, 45, 101, 110, 99, 111, 100, 105, 110, 103]⟩, .string ⟨#[117, 112, 103, 114, 97, 100, 101]⟩]).cell j
    rw [h]
    match j, hj with
    | 0, _ => rfl
    | 1, _ => rfl
    | 2, _ => rfl
    | 3, _ => rfl
    | 4, _ => rfl
    | 5, _ => rfl
    | 6, _ => rfl
  have hbl := (Below.refl w.heap.size w).alloc (Nat.le_refl _) (.cells #[.string ⟨#[99, 111, 110, 110, 101, 99, 116, 105, 111, 110]⟩, .string ⟨#[107, 101, 101, 112, 45, 97, 108, 105, 118, 101]⟩, .string ⟨#[112, 114, 111, 120, 121, 45, 99, 111, 110, 110, 101, 99, 116, 105, 111, 110]⟩, .string ⟨#[116, 101]⟩, .string ⟨#[116, 114, 97, 105, 108, 101, 114]⟩, .string ⟨#[116, 114, 97, 110, 115, 102, 101, 114, 45, 101, 110, 99, 111, 100, 105, 110, 103]⟩, .string ⟨#[117, 112, 103, 114, 97, 100, 101]⟩] 96)
  have hsz : w.heap.size < (w.alloc (.cells #[.string ⟨#[99, 111, 110, 110, 101, 99, 116, 105, 111, 110]⟩, .string ⟨#[107, 101, 101, 112, 45, 97, 108, 105, 118, 101]⟩, .string ⟨#[112, 114, 111, 120, 121, 45, 99, 111, 110, 110, 101, 99, 116, 105, 111, 110]⟩, .string ⟨#[116, 101]⟩, .string ⟨#[116, 114, 97, 105, 108, 101, 114]⟩, .string ⟨#[116, 114, 97, 110, 115, 102, 101, 114, 45, 101, 110, 99, 111, 100, 105, 110, 103]⟩, .string ⟨#[117, 112, 103, 114, 97, 100, 101]⟩] 96)).heap.size := by simp
  have HF := Lib.hid (hF.below hbl)
  replace hcells := Lib.hid hcells
  replace hbl := Lib.hid hbl
  replace hsz := Lib.hid hsz
  have HV : Hid (one G (toL n) = (fixed.any (fun x => alike x (toL n)) || hasE G CONNECTION (toL n))) := Lib.hid rfl
  have HH := Lib.hid (fun w hF => r7has_any v G ⟨#[99, 111, 110, 110, 101, 99, 116, 105, 111, 110]⟩ n (by decide) hn hG hle2 w hF)
  rw [show toL ⟨#[99, 111, 110, 110, 101, 99, 116, 105, 111, 110]⟩ = CONNECTION from rfl] at HH
  obtain ⟨b, hb⟩ : ∃ b, b = one G (toL n) := ⟨_, rfl⟩
  rw [← hb] at HV ⊢
  clear hb hF hG
  generalize hasE G CONNECTION (toL n) = c at *
  go_enter Tryd.func48, Tryd.ntmps48
  go_wp2_with fail
  generalize w.alloc (.cells #[.string ⟨#[99, 111, 110, 110, 101, 99, 116, 105, 111, 110]⟩, .string ⟨#[107, 101, 101, 112, 45, 97, 108, 105, 118, 101]⟩, .string ⟨#[112, 114, 111, 120, 121, 45, 99, 111, 110, 110, 101, 99, 116, 105, 111, 110]⟩, .string ⟨#[116, 101]⟩, .string ⟨#[116, 114, 97, 105, 108, 101, 114]⟩, .string ⟨#[116, 114, 97, 110, 115, 102, 101, 114, 45, 101, 110, 99, 111, 100, 105, 110, 103]⟩, .string ⟨#[117, 112, 103, 114, 97, 100, 101]⟩] 96) = W at HF hcells hbl hsz ⊢
  generalize w.heap.size = g at hcells hsz ⊢
  go_loopw [6] (fun i wr => ∃ k : Nat, k ≤ 7 ∧ i = .int .i64 k ∧ Hid ((fixed.take k).any (fun x => alike x (toL n)) = false) ∧ Hid (Below W.heap.size W wr)) (fun i _ => 7 - (intOf i).toNat)
  case atStart => exact ⟨0, by omega, rfl, Lib.hid rfl, Lib.hid (Below.refl _ _)⟩
  case round =>
    obtain ⟨k, hk, rfl, ha, HB⟩ := hrel
    by_cases hlt : k < 7
    · have hki : (k : Int) < 7 := by omega
      have hlf : k < fixed.length := hlt
      have c1 := (HB.out.cell (p := ⟨g, k, none⟩) hsz.out).trans (hcells.out k hlt)
      have hfl : (fixed[k]'hlf).length ≤ 1048576 := fixed_short k hlf
      have HA := Lib.hid (fun w => ralike7_any (ofL (fixed[k]'hlf)) n (by rw [ofL_size]; omega) (by omega) w)
      rw [toL_ofL] at HA
      cases hh : alike (fixed[k]'hlf) (toL n)
      · have HN : Hid ((fixed.take (k + 1)).any (fun x => alike x (toL n)) = false) := Lib.hid (by
          rw [List.take_add_one, List.getElem?_eq_getElem hlf, List.any_append, ha.out]
          simp [hh])
        rw [hh] at HA
        clear hh ha
        generalize ofL (fixed[k]'hlf) = F at *
        go_wp2_with fail
        refine (HA.out _).mono ?_
        rintro e w3 ⟨rfl, hb3⟩
        have HB3 := Lib.hid (below_chain HB.out hb3)
        clear hb3 c1
        go_wp2_with fail
        go_roundw
        case rel => exact ⟨k + 1, by omega, by go_num, HN, HB3⟩
        case measure => simp [intOf]; omega
      · have HV2 : Hid (b = true) := Lib.hid (by
          rw [HV.out, Bool.or_eq_true]
          left
          rw [List.any_eq_true]
          exact ⟨_, List.getElem_mem hlf, hh⟩)
        rw [hh] at HA
        clear hh ha
        generalize ofL (fixed[k]'hlf) = F at *
        go_wp2_with fail
        refine (HA.out _).mono ?_
        rintro e w3 ⟨rfl, hb3⟩
        have HB3 := Lib.hid (hbl.out.trans ((below_chain HB.out hb3).mono hbl.out.size))
        clear hb3 c1
        go_wp2_with fail
        go_ret
        exact ⟨ret_bool HV2.out.symm, HB3.out⟩
    · have HV2 : Hid (b = c) := Lib.hid (by
        have h := ha.out
        rw [List.take_of_length_le (by exact Nat.not_lt.1 hlt)] at h
        rw [HV.out, h, Bool.false_or])
      have HFL := Lib.hid (HF.out.below HB.out)
      clear ha
      go_wp2_with fail
      refine (HH.out _ HFL.out).mono ?_
      rintro e w3 ⟨rfl, hb3⟩
      have HB3 := Lib.hid (hbl.out.trans ((below_chain HB.out hb3).mono hbl.out.size))
      clear hb3
      go_wp2_with fail
      go_ret
      exact ⟨ret_bool HV2.out.symm, HB3.out⟩
end Go.Proofs.YtblpooddamkfdaaDoor.R7One

/- Layer 7, the document's own Strip. -/
namespace Go.Proofs.YtblpooddamkfdaaDoor.R7Strip
open Go.ChangeShapes Go.WideShapes Go.ChangeAt Go.RowKit LexPure Bytes Ret Rows1 FieldsPure Flds RAlike7 R7Get KeptRow R7One Mem
set_option maxRecDepth 20000
/-- the fields of l that by G don't concern one connection alone -/
def stripBy (G l : List HField) : List HField := l.filter (fun f => !one G f.1)
theorem strip_snoc (G l : List HField) (f : HField) : stripBy G (l ++ [f]) = if one G f.1 then stripBy G l else stripBy G l ++ [f] := by
  unfold stripBy
  rw [List.filter_append]
  cases h : one G f.1 <;> simp [h]
set_option maxHeartbeats 1600000 in
theorem r7strip_any (v : Value) (G : List HField) (hG : Few G) (hle2 : G.length ≤ 1048576) (w : World) (hF : FL w v G) :
    Calls Tryd.prog 37 #[v] w fun e w' => ∃ v', e = .returned v' ∧ w'.ownsRow w.heap.size 61 2 v' (strip G).length (encFs (strip G)) ∧ Below w.heap.size w w' := by
  obtain ⟨i0, hi, hz0, hz1, hz2⟩ := info_parts infoF
  obtain ⟨p, cap, rfl, hle, hc⟩ := hF
  have HOne := Lib.hid (fun (m : ByteArray) (hm : m.size ≤ 1048576) w hF => r7one_any (.slice p G.length cap) G m hm hG hle2 w hF)
  have HFL : Hid (FL w (.slice p G.length cap) G) := Lib.hid ⟨p, cap, rfl, hle, hc⟩
  replace hc := Lib.hid hc
  replace hG := Lib.hid hG
  have HK := Lib.hid (Kept.start w)
  go_enter Tryd.func37, Tryd.ntmps37
  go_wp2_with fail
  go_loopw [3, 4] (fun x i wr => ∃ k : Nat, k ≤ G.length ∧ i = .int .i64 k ∧ Hid (Kept w (stripBy G (G.take k)) x wr)) (fun _ i _ => G.length - (intOf i).toNat)
  case atStart => exact ⟨0, Nat.zero_le _, rfl, HK⟩
  case round =>
    obtain ⟨k, hk, rfl, HI⟩ := hrel
    clear HK
    by_cases hlt : k < G.length
    · obtain ⟨g, o, rfl, hgl, hcell⟩ := hc.out (by omega)
      obtain ⟨c1, c2⟩ := hcell k hlt
      have hki : (k : Int) < (G.length : Int) := by omega
      obtain ⟨s1, s2⟩ := hG.out k hlt
      have HA := Lib.hid (HOne.out (ofL G[k].1) (by rw [ofL_size]; omega) _ (HFL.out.below HI.out.below))
      rw [toL_ofL] at HA
      have HT : Hid (stripBy G (G.take (k + 1)) = if one G G[k].1 then stripBy G (G.take k) else stripBy G (G.take k) ++ [G[k]]) := Lib.hid (by rw [← strip_snoc, List.take_add_one, List.getElem?_eq_getElem hlt]; rfl)
      replace c1 := (HI.out.below.cell (p := ⟨g, o + k * 2, none⟩) hgl).trans c1
      replace c2 := (HI.out.below.cell (p := ⟨g, o + k * 2 + 1, none⟩) hgl).trans c2
      have hgl2 := Nat.lt_of_lt_of_le hgl HI.out.below.size
      clear hcell
      cases hh : one G G[k].1
      · rw [hh] at HT
        rw [hh] at HA
        clear hh
        go_wp2_with fail
        refine HA.out.mono ?_
        rintro e w2 ⟨rfl, hb2⟩
        have HK2 := (HI.out.call hb2).alloc (.cells #[.string (ofL G[k].1), .string (ofL G[k].2)] 61)
        have hlen : (stripBy G (G.take k)).length ≤ k := Nat.le_trans (List.length_filter_le _ _) (List.length_take_le _ _)
        replace c1 := (hb2.cell (p := ⟨g, o + k * 2, none⟩) hgl2).trans c1
        replace c2 := (hb2.cell (p := ⟨g, o + k * 2 + 1, none⟩) hgl2).trans c2
        have HN := Lib.hid (World.news_of_block (heap_alloc_new w2 (.cells #[.string (ofL G[k].1), .string (ofL G[k].2)] 61)))
        have HKH := Lib.hid HK2
        have hrow := HK2.row
        clear hb2 HK2
        go_wp2_with (at_builtin; refine wpList_append_own_at _ rfl (.tmp 19) (.tmp 24) 22 rfl w.heap.size 61 i0 _ 2 32 Tryd.underlying22 hi hz0 hz1 hz2 rfl (by omega) _ _ _ rfl hrow ⟨w2.heap.size, 0, none⟩ 1 1 (encF G[k]) rfl rfl HN.out (by simp [encF, Value.oneCell']) (by simp only [maxLen]; omega) (by omega) (by have := HKH.out.below.size; exact this) ?_; intro v4 w4 hown4 hg4 _ hat4)
        have HK3 : Hid (Kept w (stripBy G (G.take (k + 1))) v4 w4) := Lib.hid (by
          rw [HT.out]
          refine ⟨?_, Below.grown HKH.out.below hg4 HKH.out.below.size HKH.out.lt⟩
          rw [if_neg (by decide), encFs_append, List.length_append]
          exact hown4)
        clear hown4 hg4 hat4 hrow
        go_wp2_with fail
        go_roundw
        case rel => exact ⟨k + 1, by omega, by go_num, HK3⟩
        case measure => simp [intOf]; omega
      · rw [hh] at HT
        rw [hh] at HA
        clear hh
        go_wp2_with fail
        refine HA.out.mono ?_
        rintro e w2 ⟨rfl, hb2⟩
        have HK3 : Hid (Kept w (stripBy G (G.take (k + 1))) u3 w2) := Lib.hid (by
          rw [HT.out]
          exact HI.out.call hb2)
        clear hb2
        go_wp2_with fail
        go_roundw
        case rel => exact ⟨k + 1, by omega, by go_num, HK3⟩
        case measure => simp [intOf]; omega
    · have hall : G.take k = G := List.take_of_length_le (by omega)
      have HE := HI.out
      rw [hall] at HE
      have HEH := Lib.hid HE
      clear HE HI hall
      go_wp2_with fail
      go_ret
      exact ⟨_, rfl, HEH.out.row, HEH.out.below⟩
end Go.Proofs.YtblpooddamkfdaaDoor.R7Strip

/- The document's layer 13: on: what is told on, as lines. -/
namespace Go.Proofs.YtblpooddamkfdaaDoor.R13On
open Go.ChangeShapes Go.WideShapes Go.ChangeAt Go.RowKit Bytes LexPure FieldsPure EmitPure Flds Mem Ret
set_option maxRecDepth 100000
set_option linter.unusedVariables false
set_option linter.unusedSimpArgs false
theorem str_app (A l : List UInt8) : ofL A ++ ofL l = ofL (A ++ l) := by
  apply toL_inj
  rw [toL_append, toL_ofL, toL_ofL, toL_ofL]
theorem row_at {w : World} {base : Nat} {v : Value} {G : List HField} (h : w.ownsRow base 61 2 v G.length (encFs G)) :
    ∃ p cap, v = .slice p G.length cap ∧ (0 < G.length → ∃ g, p = some ⟨g, 0, none⟩ ∧ base ≤ g ∧ g < w.heap.size ∧ ∀ j (hj : j < G.length), w.cell? ⟨g, j * 2, none⟩ = some (.string (ofL G[j].1)) ∧ w.cell? ⟨g, j * 2 + 1, none⟩ = some (.string (ofL G[j].2))) := by
  rcases h.2 with ⟨hv, hn⟩ | ⟨g, cap, cur, hv, hb, hg, hcap, rest⟩
  · exact ⟨none, 0, by rw [hv, hn], fun h0 => by omega⟩
  · refine ⟨_, cap, hv, fun _ => ⟨g, rfl, hb, (Array.getElem?_eq_some_iff.1 hg).1, fun j hj => ?_⟩⟩
    have hc := h.cells (g := g) (by rw [hv]; rfl)
    obtain ⟨h1, h2⟩ := encFs_at G j G[j] (List.getElem?_eq_getElem hj)
    have a1 := hc _ _ h1
    have a2 := hc _ _ h2
    have e : ∀ i : Nat, (⟨g, 0, none⟩ : Addr).add i = ⟨g, i, none⟩ := fun i => by unfold Addr.add; split <;> simp_all
    rw [e] at a1 a2
    exact ⟨a1, a2⟩
theorem flat_len {α : Type} (f : α → List UInt8) (m : Nat) : ∀ l : List α, (∀ x ∈ l, (f x).length ≤ m) → (l.flatMap f).length ≤ l.length * m
  | [], _ => by simp
  | x :: l, h => by
    have h1 := h x List.mem_cons_self
    have h2 := flat_len f m l (fun y hy => h y (List.mem_cons_of_mem _ hy))
    rw [List.flatMap_cons, List.length_append, List.length_cons, Nat.add_mul]
    omega
/-- the lines of the first -/
def lines (req : Bool) (S : List HField) : List UInt8 := (S.filter (fun f => !skipE req f.1)).flatMap lineE
theorem lines_snoc (req : Bool) (S : List HField) (f : HField) : lines req (S ++ [f]) = if skipE req f.1 then lines req S else lines req S ++ lineE f := by
  unfold lines
  rw [List.filter_append, List.flatMap_append]
  cases h : skipE req f.1 <;> simp [h]
theorem take_lines {req : Bool} {S : List HField} {k : Nat} (hk : k < S.length) : lines req (S.take (k + 1)) = if skipE req S[k].1 then lines req (S.take k) else lines req (S.take k) ++ lineE S[k] := by
  rw [List.take_add_one, List.getElem?_eq_getElem hk]
  exact lines_snoc _ _ _
theorem lines_len {req : Bool} {S : List HField} (hS : Few S) (hle : S.length ≤ 1048576) (k : Nat) : (lines req (S.take k)).length ≤ 2199027449856 := by
  unfold lines
  have h1 := flat_len lineE 2097156 ((S.take k).filter (fun f => !skipE req f.1)) (fun f hf => by
    have hm := List.mem_of_mem_take (List.mem_filter.1 hf).1
    obtain ⟨j, hj, e⟩ := List.mem_iff_getElem.1 hm
    have := hS j hj
    rw [e] at this
    simp [lineE]
    omega)
  have h2 := List.length_filter_le (fun f : HField => !skipE req f.1) (S.take k)
  have h3 := List.length_take_le' k S
  have h4 := Nat.mul_le_mul_right 2097156 (show ((S.take k).filter (fun f => !skipE req f.1)).length ≤ 1048576 by omega)
  omega
theorem few_strip {G : List HField} (hG : Few G) : Few (strip G) := fun j hj => by
  have hmem := (List.mem_filter.1 (show (strip G)[j] ∈ G.filter _ from List.getElem_mem hj)).1
  obtain ⟨i, hi, e⟩ := List.mem_iff_getElem.1 hmem
  rw [← e]
  exact hG i hi
set_option maxHeartbeats 6400000 in
theorem on_any (v : Value) (G : List HField) (hG : Few G) (hle : G.length ≤ 1048576) (req : Bool) (w : World) (hF : FL w v G) :
    Calls Tryd.prog 28 #[v, .bool req] w fun e w' => e = .returned (.string (ofL ((onE req G).flatMap lineE))) ∧ Below w.heap.size w w' := by
  have HP := Lib.hid (R7Strip.r7strip_any v G hG hle w hF)
  have HS := Lib.hid (few_strip hG)
  have hSl : (strip G).length ≤ 1048576 := Nat.le_trans (List.length_filter_le _ _) hle
  have HE : Hid ((onE req G).flatMap lineE = lines req (strip G)) := Lib.hid rfl
  have HLn := Lib.hid (lines_len (req := req) HS.out hSl)
  have hSi : ((strip G).length : Int) ≤ 1048576 := by omega
  generalize (onE req G).flatMap lineE = RES at *
  clear hG hle hF
  generalize strip G = S at *
  go_enter Tryd.func28, Tryd.ntmps28
  go_wp2_with fail
  refine HP.out.mono ?_
  rintro e w2 ⟨vS, rfl, hrow, hb2⟩
  clear HP
  obtain ⟨p, cS, rfl, hc⟩ := row_at hrow
  have HC := Lib.hid hc
  have HB2 := Lib.hid hb2
  have HB : Hid (lines req (S.take 0) = [] ∧ Below w2.heap.size w2 w2) := Lib.hid ⟨rfl, Below.refl _ _⟩
  clear hrow hc hb2
  go_wp2_with fail
  go_loopw [6, 7] (fun o i wr => ∃ (k : Nat) (x : List UInt8), k ≤ S.length ∧ i = .int .i64 k ∧ o = .string (ofL x) ∧ Hid (lines req (S.take k) = x ∧ Below w2.heap.size w2 wr)) (fun _ i _ => S.length - (intOf i).toNat)
  case atStart => exact ⟨0, [], Nat.zero_le _, rfl, rfl, HB⟩
  case round =>
    obtain ⟨k, x, hk, rfl, rfl, HJ⟩ := hrel
    clear HB
    obtain ⟨hx, hbw⟩ := HJ.out
    by_cases hlt : k < S.length
    · obtain ⟨g, rfl, hbg, hgl, hcell⟩ := HC.out (by omega)
      obtain ⟨c1, c2⟩ := hcell k hlt
      replace c1 := (hbw.cell (p := ⟨g, k * 2, none⟩) hgl).trans c1
      replace c2 := (hbw.cell (p := ⟨g, k * 2 + 1, none⟩) hgl).trans c2
      have hki : (k : Int) < (S.length : Int) := by omega
      have hf1 := HS.out k hlt
      have hTk := take_lines (req := req) hlt
      have hlx := HLn.out k
      rw [hx] at hlx
      obtain ⟨f, hf⟩ : ∃ f, f = S[k] := ⟨_, rfl⟩
      rw [← hf] at c1 c2 hf1 hTk
      rw [hx] at hTk
      have HT := Lib.hid hTk
      have hA := RLower.rlower_any (ofL f.1) (by rw [ofL_size]; omega) wr
      rw [toL_ofL] at hA
      have HA := Lib.hid hA
      have HW := Lib.hid hbw
      have hgw : g < wr.heap.size := Nat.lt_of_lt_of_le hgl hbw.size
      have eN : (ofL (lower f.1)).toList = lower f.1 := by rw [ByteArray.toList_eq]; exact toL_ofL _
      have b1 : ((ofL (lower f.1)).toList == [99, 111, 110, 116, 101, 110, 116, 45, 108, 101, 110, 103, 116, 104]) = alike f.1 CLN := by rw [eN]; rfl
      have b2 : ((ofL (lower f.1)).toList == [118, 105, 97]) = alike f.1 VIAN := by rw [eN]; rfl
      have b3 : ((ofL (lower f.1)).toList == [104, 111, 115, 116]) = alike f.1 HOSTN := by rw [eN]; rfl
      have b4 : ((ofL (lower f.1)).toList == [101, 120, 112, 101, 99, 116]) = alike f.1 EXPN := by rw [eN]; rfl
      have b5 : ((ofL (lower f.1)).toList == [120, 45, 102, 111, 114, 119, 97, 114, 100, 101, 100, 45, 102, 111, 114]) = alike f.1 XFFN := by rw [eN]; rfl
      have hsk : skipE req f.1 = (alike f.1 CLN || alike f.1 VIAN || (req && (alike f.1 HOSTN || alike f.1 EXPN || alike f.1 XFFN))) := rfl
      have hl0 : (ofL x).size = x.length := ofL_size x
      have hl1 : (ofL f.1).size = f.1.length := ofL_size f.1
      have hl2 : (ofL f.2).size = f.2.length := ofL_size f.2
      have s1 : (ofL x).size + (ofL f.1).size ≤ 9223372036854775807 := by omega
      have s2 : (ofL x).size + (ofL f.1).size + 2 ≤ 9223372036854775807 := by omega
      have s3 : (ofL x).size + (ofL f.1).size + 2 + (ofL f.2).size ≤ 9223372036854775807 := by omega
      have s4 : (ofL x).size + (ofL f.1).size + 2 + (ofL f.2).size + 2 ≤ 9223372036854775807 := by omega
      have hap : Hid (ofL x ++ ofL f.1 ++ ⟨#[58, 32]⟩ ++ ofL f.2 ++ ⟨#[13, 10]⟩ = ofL (x ++ lineE f)) := Lib.hid (by
        rw [show (⟨#[58, 32]⟩ : ByteArray) = ofL [58, 32] from rfl, show (⟨#[13, 10]⟩ : ByteArray) = ofL [13, 10] from rfl, str_app, str_app, str_app, str_app]
        simp [lineE])
      have HSt : Hid (∀ wy, Below wr.heap.size wr wy → skipE req f.1 = true → lines req (S.take (k + 1)) = x ∧ Below w2.heap.size w2 wy) := Lib.hid (fun wy hb h => ⟨by rw [HT.out, if_pos h], below_chain HW.out hb⟩)
      have HSn : Hid (∀ wy, Below wr.heap.size wr wy → skipE req f.1 = false → lines req (S.take (k + 1)) = x ++ lineE f ∧ Below w2.heap.size w2 wy) := Lib.hid (fun wy hb h => ⟨by rw [HT.out, if_neg (by rw [h]; decide)], below_chain HW.out hb⟩)
      clear hcell hA hbw hf hTk hx eN hl0 hl1 hl2 hlx hf1 HT HW HJ
      generalize hN : ofL (lower f.1) = N at *
      replace hN := Lib.hid hN
      cases a1 : alike f.1 CLN with
      | true =>
        rw [a1] at b1 hsk
        have HK := HSt.out
        go_wp2_with fail
        refine HA.out.mono ?_
        rintro e w3 ⟨rfl, hb3⟩
        have HJ := Lib.hid (HK w3 hb3 (by rw [hsk]; rfl))
        clear HK hb3 HA HSt HSn
        go_wp2_with fail
        exact ⟨⟨k + 1, x, by omega, by simp, rfl, HJ⟩, by simp [intOf]; omega⟩
      | false =>
        rw [a1] at b1 hsk
        cases a2 : alike f.1 VIAN with
        | true =>
          rw [a2] at b2 hsk
          have HK := HSt.out
          go_wp2_with fail
          refine HA.out.mono ?_
          rintro e w3 ⟨rfl, hb3⟩
          have HJ := Lib.hid (HK w3 hb3 (by rw [hsk]; rfl))
          clear HK hb3 HA HSt HSn
          go_wp2_with fail
          exact ⟨⟨k + 1, x, by omega, by simp, rfl, HJ⟩, by simp [intOf]; omega⟩
        | false =>
          rw [a2] at b2 hsk
          cases req with
          | false =>
            have HK := HSn.out
            go_wp2_with fail
            refine HA.out.mono ?_
            rintro e w3 ⟨rfl, hb3⟩
            have HJ := Lib.hid (HK w3 hb3 (by rw [hsk]; rfl))
            replace c1 := (hb3.cell (p := ⟨g, k * 2, none⟩) hgw).trans c1
            replace c2 := (hb3.cell (p := ⟨g, k * 2 + 1, none⟩) hgw).trans c2
            clear HK hb3 HA HSt HSn
            go_wp2_with fail
            go_quiet (fail)
            go_wp2_with fail
            rw [hap.out]
            exact ⟨⟨k + 1, x ++ lineE f, by omega, by simp, rfl, Lib.hid ⟨HJ.out.1, ⟨HJ.out.2.os, HJ.out.2.tape, HJ.out.2.output, HJ.out.2.size, HJ.out.2.block⟩⟩⟩, by simp [intOf]; omega⟩
          | true =>
            cases a3 : alike f.1 HOSTN with
            | true =>
              rw [a3] at b3 hsk
              have HK := HSt.out
              go_wp2_with fail
              refine HA.out.mono ?_
              rintro e w3 ⟨rfl, hb3⟩
              have HJ := Lib.hid (HK w3 hb3 (by rw [hsk]; rfl))
              clear HK hb3 HA HSt HSn
              go_wp2_with fail
              exact ⟨⟨k + 1, x, by omega, by simp, rfl, HJ⟩, by simp [intOf]; omega⟩
            | false =>
              rw [a3] at b3 hsk
              cases a4 : alike f.1 EXPN with
              | true =>
                rw [a4] at b4 hsk
                have HK := HSt.out
                go_wp2_with fail
                refine HA.out.mono ?_
                rintro e w3 ⟨rfl, hb3⟩
                have HJ := Lib.hid (HK w3 hb3 (by rw [hsk]; rfl))
                clear HK hb3 HA HSt HSn
                go_wp2_with fail
                exact ⟨⟨k + 1, x, by omega, by simp, rfl, HJ⟩, by simp [intOf]; omega⟩
              | false =>
                rw [a4] at b4 hsk
                cases a5 : alike f.1 XFFN with
                | true =>
                  rw [a5] at b5 hsk
                  have HK := HSt.out
                  go_wp2_with fail
                  refine HA.out.mono ?_
                  rintro e w3 ⟨rfl, hb3⟩
                  have HJ := Lib.hid (HK w3 hb3 (by rw [hsk]; rfl))
                  clear HK hb3 HA HSt HSn
                  go_wp2_with fail
                  exact ⟨⟨k + 1, x, by omega, by simp, rfl, HJ⟩, by simp [intOf]; omega⟩
                | false =>
                  rw [a5] at b5 hsk
                  have HK := HSn.out
                  go_wp2_with fail
                  refine HA.out.mono ?_
                  rintro e w3 ⟨rfl, hb3⟩
                  have HJ := Lib.hid (HK w3 hb3 (by rw [hsk]; rfl))
                  replace c1 := (hb3.cell (p := ⟨g, k * 2, none⟩) hgw).trans c1
                  replace c2 := (hb3.cell (p := ⟨g, k * 2 + 1, none⟩) hgw).trans c2
                  clear HK hb3 HA HSt HSn
                  go_wp2_with fail
                  go_quiet (fail)
                  go_wp2_with fail
                  rw [hap.out]
                  exact ⟨⟨k + 1, x ++ lineE f, by omega, by simp, rfl, Lib.hid ⟨HJ.out.1, ⟨HJ.out.2.os, HJ.out.2.tape, HJ.out.2.output, HJ.out.2.size, HJ.out.2.block⟩⟩⟩, by simp [intOf]; omega⟩
    · have hall : S.take k = S := List.take_of_length_le (by omega)
      rw [hall] at hx
      have hki : ¬ (k : Int) < (S.length : Int) := by omega
      have HX : Hid (x = RES ∧ Below w.heap.size w wr) := Lib.hid ⟨by rw [HE.out, hx], below_chain HB2.out hbw⟩
      clear hx hbw HJ hall
      go_wp2_with fail
      go_ret
      exact ⟨ret_string (by rw [HX.out.1]), HX.out.2⟩
end Go.Proofs.YtblpooddamkfdaaDoor.R13On

/- The document's layer 13: joined, a line. -/
namespace Go.Proofs.YtblpooddamkfdaaDoor.R13Join
open Go.ChangeShapes Go.WideShapes Go.ChangeAt Go.RowKit Bytes LexPure FieldsPure EmitPure Flds Mem Ret R13On
set_option maxRecDepth 100000
set_option linter.unusedVariables false
set_option linter.unusedSimpArgs false
/-- what is put together of the first -/
def part (n : List UInt8) (S : List HField) : List UInt8 := n ++ [58, 32] ++ (S.filter (hit n)).flatMap (fun f => f.2 ++ [44, 32])
theorem part_snoc (n : List UInt8) (S : List HField) (f : HField) : part n (S ++ [f]) = if alike f.1 n then part n S ++ (f.2 ++ [44, 32]) else part n S := by
  unfold part
  rw [List.filter_append, List.flatMap_append]
  by_cases h : alike f.1 n = true
  · rw [if_pos h]; simp [hit, h]
  · rw [if_neg h]; simp [hit, h]
theorem take_part {n : List UInt8} {S : List HField} {k : Nat} (hk : k < S.length) : part n (S.take (k + 1)) = if alike S[k].1 n then part n (S.take k) ++ (S[k].2 ++ [44, 32]) else part n (S.take k) := by
  rw [List.take_add_one, List.getElem?_eq_getElem hk]
  exact part_snoc _ _ _
theorem part_len {n : List UInt8} {S : List HField} (hS : Few S) (hle : S.length ≤ 1048576) (hn : n.length ≤ 1048576) (k : Nat) : (part n (S.take k)).length ≤ 1099515822080 := by
  unfold part
  have h1 := flat_len (fun f : HField => f.2 ++ [44, 32]) 1048578 ((S.take k).filter (hit n)) (fun f hf => by
    have hm := List.mem_of_mem_take (List.mem_filter.1 hf).1
    obtain ⟨j, hj, e⟩ := List.mem_iff_getElem.1 hm
    have := (hS j hj).2
    rw [e] at this
    rw [List.length_append]
    show _ + 2 ≤ _
    omega)
  have h2 := List.length_filter_le (hit n) (S.take k)
  have h3 := List.length_take_le' k S
  have h4 := Nat.mul_le_mul_right 1048578 (show ((S.take k).filter (hit n)).length ≤ 1048576 by omega)
  rw [List.length_append, List.length_append, show [(58 : UInt8), 32].length = 2 from rfl]
  omega
theorem part_all (n s : List UInt8) (S : List HField) : part n S ++ s ++ [13, 10] = lineE (n, joinV S n s) := by
  unfold part joinV lineE
  simp
set_option maxHeartbeats 6400000 in
theorem joined_any (v : Value) (G : List HField) (hG : Few G) (hle : G.length ≤ 1048576) (n s : List UInt8) (hn : n.length ≤ 1048576) (hs : s.length ≤ 1048576) (w : World) (hF : FL w v G) :
    Calls Tryd.prog 29 #[v, .string (ofL n), .string (ofL s)] w fun e w' => e = .returned (.string (ofL (lineE (n, joinV G n s)))) ∧ Below w.heap.size w w' := by
  have hgi : (G.length : Int) ≤ 1048576 := by omega
  obtain ⟨p, cap, rfl, _, hc⟩ := hF
  have HC := Lib.hid hc
  have HG := Lib.hid hG
  have HE := Lib.hid (part_all n s G)
  have HLn := Lib.hid (part_len (n := n) hG hle hn)
  have z1 : (ofL n).size + 2 ≤ 9223372036854775807 := by rw [ofL_size]; omega
  have HB : Hid (part n (G.take 0) = n ++ [58, 32] ∧ Below w.heap.size w w) := Lib.hid ⟨by simp [part], Below.refl _ _⟩
  have hap0 : Hid (ofL n ++ ⟨#[58, 32]⟩ = ofL (n ++ [58, 32])) := Lib.hid (by rw [show (⟨#[58, 32]⟩ : ByteArray) = ofL [58, 32] from rfl, str_app])
  have hLn : Hid (∀ W, Calls Tryd.prog 38 #[.string (ofL n)] W fun e w' => e = .returned (.string (ofL (lower n))) ∧ Below W.heap.size W w') := Lib.hid (fun W => by
    have := RLower.rlower_any (ofL n) (by rw [ofL_size]; omega) W
    rw [toL_ofL] at this
    exact this)
  have hs2 := Lib.hid hs
  clear hc hG hle hs hn
  generalize lineE (n, joinV G n s) = RES at *
  go_enter Tryd.func29, Tryd.ntmps29
  go_wp2_with fail
  rw [hap0.out]
  clear hap0 z1
  go_loopw [7, 8] (fun o i wr => ∃ (k : Nat) (x : List UInt8), k ≤ G.length ∧ i = .int .i64 k ∧ o = .string (ofL x) ∧ Hid (part n (G.take k) = x ∧ Below w.heap.size w wr)) (fun _ i _ => G.length - (intOf i).toNat)
  case atStart => exact ⟨0, _, Nat.zero_le _, rfl, rfl, HB⟩
  case round =>
    obtain ⟨k, x, hk, rfl, rfl, HJ⟩ := hrel
    clear HB
    obtain ⟨hx, hbw⟩ := HJ.out
    have hlx := HLn.out k
    rw [hx] at hlx
    by_cases hlt : k < G.length
    · obtain ⟨g, o, rfl, hgl, hcell⟩ := HC.out (by omega)
      obtain ⟨c1, c2⟩ := hcell k hlt
      replace c1 := (hbw.cell (p := ⟨g, o + k * 2, none⟩) hgl).trans c1
      replace c2 := (hbw.cell (p := ⟨g, o + k * 2 + 1, none⟩) hgl).trans c2
      have hki : (k : Int) < (G.length : Int) := by omega
      have hf1 := HG.out k hlt
      have hTk := take_part (n := n) hlt
      obtain ⟨f, hf⟩ : ∃ f, f = G[k] := ⟨_, rfl⟩
      rw [← hf] at c1 c2 hf1 hTk
      rw [hx] at hTk
      have HT := Lib.hid hTk
      have hA := RLower.rlower_any (ofL f.1) (by rw [ofL_size]; omega) wr
      rw [toL_ofL] at hA
      have HA := Lib.hid hA
      have HW := Lib.hid hbw
      have hgw : g < wr.heap.size := Nat.lt_of_lt_of_le hgl hbw.size
      have eN : (ofL (lower f.1)).toList = lower f.1 := by rw [ByteArray.toList_eq]; exact toL_ofL _
      have eM : (ofL (lower n)).toList = lower n := by rw [ByteArray.toList_eq]; exact toL_ofL _
      have b1 : ((ofL (lower f.1)).toList == (ofL (lower n)).toList) = alike f.1 n := by rw [eN, eM]; rfl
      have hl0 : (ofL x).size = x.length := ofL_size x
      have hl2 : (ofL f.2).size = f.2.length := ofL_size f.2
      have s1 : (ofL x).size + (ofL f.2).size ≤ 9223372036854775807 := by omega
      have s2 : (ofL x).size + (ofL f.2).size + 2 ≤ 9223372036854775807 := by omega
      have hap : Hid (ofL x ++ ofL f.2 ++ ⟨#[44, 32]⟩ = ofL (x ++ (f.2 ++ [44, 32]))) := Lib.hid (by
        rw [show (⟨#[44, 32]⟩ : ByteArray) = ofL [44, 32] from rfl, str_app, str_app, List.append_assoc])
      have HSt : Hid (∀ wy, Below wr.heap.size wr wy → alike f.1 n = false → part n (G.take (k + 1)) = x ∧ Below w.heap.size w wy) := Lib.hid (fun wy hb h => ⟨by rw [HT.out, if_neg (by rw [h]; decide)], below_chain HW.out hb⟩)
      have HSn : Hid (∀ wy, Below wr.heap.size wr wy → alike f.1 n = true → part n (G.take (k + 1)) = x ++ (f.2 ++ [44, 32]) ∧ Below w.heap.size w wy) := Lib.hid (fun wy hb h => ⟨by rw [HT.out, if_pos h], below_chain HW.out hb⟩)
      clear hcell hA hbw hf hTk hx eN eM hl0 hl2 hlx hf1 HT HW HJ
      generalize hN : ofL (lower f.1) = N at *
      generalize hM : ofL (lower n) = M at *
      replace hN := Lib.hid hN
      replace hM := Lib.hid hM
      cases a1 : alike f.1 n with
      | false =>
        have HK := Lib.hid (fun wy hb => HSt.out wy hb a1)
        rw [a1] at b1
        clear HSt HSn a1
        go_wp2_with fail
        refine HA.out.mono ?_
        rintro e w3 ⟨rfl, hb3⟩
        have HL2 := Lib.hid (hLn.out w3)
        clear HA
        go_wp2_with fail
        refine HL2.out.mono ?_
        rintro e w4 ⟨rfl, hb4⟩
        have HJ := Lib.hid (HK.out w4 (below_chain hb3 hb4))
        clear hb3 hb4 HL2 HK c1 c2
        go_wp2_with fail
        exact ⟨⟨k + 1, x, by omega, by simp, rfl, HJ⟩, by simp [intOf]; omega⟩
      | true =>
        have HK := Lib.hid (fun wy hb => HSn.out wy hb a1)
        rw [a1] at b1
        clear HSt HSn a1
        go_wp2_with fail
        refine HA.out.mono ?_
        rintro e w3 ⟨rfl, hb3⟩
        have HL2 := Lib.hid (hLn.out w3)
        have hb34 : ∀ w4, Below w3.heap.size w3 w4 → Below wr.heap.size wr w4 := fun w4 hb4 => below_chain hb3 hb4
        clear HA hb3
        go_wp2_with fail
        refine HL2.out.mono ?_
        rintro e w4 ⟨rfl, hb4⟩
        have hb5 := hb34 w4 hb4
        have HJ := Lib.hid (HK.out w4 hb5)
        replace c2 := (hb5.cell (p := ⟨g, o + k * 2 + 1, none⟩) hgw).trans c2
        clear hb34 hb4 hb5 HL2 HK c1
        go_wp2_with fail
        rw [hap.out]
        exact ⟨⟨k + 1, x ++ (f.2 ++ [44, 32]), by omega, by simp, rfl, HJ⟩, by simp [intOf]; omega⟩
    · have hall : G.take k = G := List.take_of_length_le (by omega)
      rw [hall] at hx
      have hki : ¬ (k : Int) < (G.length : Int) := by omega
      have hl0 : (ofL x).size = x.length := ofL_size x
      have hl2 : (ofL s).size = s.length := ofL_size s
      have hs3 := hs2.out
      have s1 : (ofL x).size + (ofL s).size ≤ 9223372036854775807 := by omega
      have s2 : (ofL x).size + (ofL s).size + 2 ≤ 9223372036854775807 := by omega
      have HX : Hid (ofL x ++ ofL s ++ ⟨#[13, 10]⟩ = ofL RES ∧ Below w.heap.size w wr) := Lib.hid ⟨by
        rw [show (⟨#[13, 10]⟩ : ByteArray) = ofL [13, 10] from rfl, str_app, str_app, ← hx, HE.out], hbw⟩
      clear hx hbw HJ hall hl0 hl2 hs3 hlx
      go_wp2_with fail
      go_ret
      exact ⟨ret_string HX.out.1, HX.out.2⟩
end Go.Proofs.YtblpooddamkfdaaDoor.R13Join

/- The document's layer 13: Digits. -/
namespace Go.Proofs.YtblpooddamkfdaaDoor.R13Dig
open Go.ChangeShapes Go.WideShapes Go.ChangeAt Go.RowKit Bytes LexPure Ret DecN Mem EmitPure
set_option maxRecDepth 20000
theorem conv_one (W : World) (g : Nat) (c : UInt8) (x : Int) (hx : x = (c.toNat : Int)) (h : W.cell? ⟨g, 0, none⟩ = some (.int .u8 x)) :
    (Go.convert 43 9 (.slice (some ⟨g, 0, none⟩) 1 1)).run Tryd.prog W = .ok (.string (ofL [c])) W :=
  run_convert_bytes_back _ 43 9 5 ⟨g, 0, none⟩ 1 [c] Tryd.underlying43 Tryd.underlying5 Tryd.underlying9 (fun j hj => by
    match j, hj with
    | 0, _ =>
      rw [show (⟨g, 0, none⟩ : Addr).add 0 = ⟨g, 0, none⟩ by unfold Addr.add; simp, h, hx]
      rfl)
theorem decB_int {n : Nat} (h : n < 10) : ((decB n).toNat : Int) = 48 + (n : Int) := by
  have : ∀ n : Fin 10, ((decB n.1).toNat : Int) = 48 + (n.1 : Int) := by decide
  exact this ⟨n, h⟩
theorem lt_cell {W : World} {g : Nat} {v : Value} (h : W.cell? ⟨g, 0, none⟩ = some v) : g < W.heap.size := World.block_lt_of_cell? _ _ h
set_option maxHeartbeats 1600000 in
theorem digits_pos (n : Nat) : ∀ (_hn : n ≤ 9223372036854775807) (w : World),
    Calls Tryd.prog 27 #[.int .i64 n] w fun e w' => e = .returned (.string (ofL (decN n))) ∧ Below w.heap.size w w' := by
  induction n using Nat.strongRecOn with
  | ind n ih =>
    intro hn w
    by_cases h : n < 10
    · have hi : (n : Int) < 10 := by omega
      have h0 : (0 : Int) ≤ (n : Int) := by omega
      have HC := conv_one (w.alloc (.cells #[.int .u8 (48 + (n : Int))] 5)) w.heap.size (decB n) (48 + n) (decB_int h).symm ((Has.new w _ _).cell 0)
      have HV : Hid (decN n = [decB n]) := Lib.hid (decN_small h)
      clear ih
      go_enter Tryd.func27, Tryd.ntmps27
      go_wp2_with fail
      go_ret
      exact ⟨by rw [HV.out]; rfl, (Below.refl _ _).alloc (Nat.le_refl _) _⟩
    · have hi : ¬ (n : Int) < 10 := by omega
      have qe : IntKind.i64.wrap ((n : Int) / 10) = ((n / 10 : Nat) : Int) := by rw [IntWalk.i64_in _ (by omega)]; omega
      have HI := fun w => ih (n / 10) (by omega) (by omega) w
      rw [← qe] at HI
      replace HI := Lib.hid HI
      have HV : Hid (ofL (decN n) = ofL (decN (n / 10)) ++ ofL [decB (n % 10)]) := Lib.hid (by
        apply toL_inj
        rw [toL_append, toL_ofL, toL_ofL, toL_ofL, decN_more h])
      have hl : (ofL (decN (n / 10))).size ≤ 20 := by
        rw [ofL_size]
        have := decN_len 18 (n / 10) (by omega)
        omega
      clear qe
      have hsz : (ofL (decN (n / 10))).size + (ofL [decB (n % 10)]).size ≤ 9223372036854775807 := by rw [ofL_size [decB (n % 10)], List.length_singleton]; omega
      have q3 : IntKind.u8.wrap (IntKind.i64.wrap (48 + (n : Int).tmod 10)) = ((decB (n % 10)).toNat : Int) := by
        rw [Int.tmod_eq_emod_of_nonneg (by omega), decB_int (by omega), IntWalk.i64_in _ (by omega), IntKind.wrap_u8]
        omega
      have HCa := fun (W : World) => conv_one (W.alloc (.cells #[.int .u8 (IntKind.u8.wrap (IntKind.i64.wrap (48 + (n : Int).tmod 10)))] 5)) W.heap.size (decB (n % 10)) _ q3 ((Has.new W _ _).cell 0)
      have HCc := fun (W : World) (g : Nat) => conv_one W g (decB (n % 10)) _ q3
      clear q3
      go_enter Tryd.func27, Tryd.ntmps27
      go_wp2_with fail
      go_region_with (go_at_call 27; refine (HI.out _).mono ?_; rintro e w1 ⟨rfl, hb1⟩; have hcb := fun h => HCc w1 w.heap.size ((hb1.cell (p := ⟨w.heap.size, 0, none⟩) (lt_cell h)).trans h))
      all_goals
        replace hb1 := Lib.hid hb1
        clear HCa HCc hcb HI ih hsz
        go_wp2_with fail
        go_ret
        refine ⟨by rw [HV.out]; rfl, ?_⟩
        first
          | exact (below_chain (Below.drew (Below.refl _ _)) hb1.out).alloc (Nat.le_trans (Nat.le_refl _) hb1.out.size) _
          | exact below_chain (Below.alloc (Below.drew (Below.refl _ _)) (Nat.le_refl _) _) hb1.out
set_option maxHeartbeats 1600000 in
theorem digits_neg (m : Nat) : ∀ (_h1 : 1 ≤ m) (_hn : m ≤ 9223372036854775808) (z : Int) (_hz : Hid (z = -(m : Int))) (w : World),
    Calls Tryd.prog 27 #[.int .i64 z] w fun e w' => e = .returned (.string (ofL (45 :: decN m))) ∧ Below w.heap.size w w' := by
  induction m using Nat.strongRecOn with
  | ind m ih =>
    intro h1 hn z hz w
    have hz0 : z < 0 := by have := hz.out; omega
    by_cases h : m < 10
    · have hi : (-10 : Int) < z := by have := hz.out; omega
      have q3 : 48 - z = ((decB m).toNat : Int) := by
        have := hz.out
        rw [decB_int h]
        omega
      have HC := conv_one (w.alloc (.cells #[.int .u8 (48 - z)] 5)) w.heap.size (decB m) _ q3 ((Has.new w _ _).cell 0)
      have hsz : (1 : Nat) + (ofL [decB m]).size ≤ 9223372036854775807 := by rw [ofL_size, List.length_singleton]; omega
      have HV : Hid (decN m = [decB m]) := Lib.hid (decN_small h)
      clear ih q3
      go_enter Tryd.func27, Tryd.ntmps27
      go_wp2_with fail
      go_ret
      exact ⟨by rw [HV.out]; rfl, (Below.refl _ _).alloc (Nat.le_refl _) _⟩
    · have hi : ¬ (-10 : Int) < z := by have := hz.out; omega
      have qe : IntKind.i64.wrap (z.tdiv 10) = -((m / 10 : Nat) : Int) := by
        rw [hz.out, Int.neg_tdiv, Int.tdiv_eq_ediv_of_nonneg (by omega), IntWalk.i64_in _ (by omega)]
        omega
      have qm : z.tmod 10 = -((m % 10 : Nat) : Int) := by
        rw [hz.out, Int.neg_tmod, Int.tmod_eq_emod_of_nonneg (by omega)]
        omega
      have HI := Lib.hid (fun w => ih (m / 10) (by omega) (by omega) (by omega) _ (Lib.hid qe) w)
      have HV : Hid (ofL (45 :: decN m) = ofL (45 :: decN (m / 10)) ++ ofL [decB (m % 10)]) := Lib.hid (by
        apply toL_inj
        rw [toL_append, toL_ofL, toL_ofL, toL_ofL, decN_more h]
        rfl)
      have hl : (ofL (45 :: decN (m / 10))).size ≤ 21 := by
        rw [ofL_size, List.length_cons]
        have := decN_len 18 (m / 10) (by omega)
        omega
      have hsz : (ofL (45 :: decN (m / 10))).size + (ofL [decB (m % 10)]).size ≤ 9223372036854775807 := by rw [ofL_size [decB (m % 10)], List.length_singleton]; omega
      have q3 : IntKind.u8.wrap (IntKind.i64.wrap (48 - z.tmod 10)) = ((decB (m % 10)).toNat : Int) := by
        rw [qm, decB_int (by omega), IntWalk.i64_in _ (by omega), IntKind.wrap_u8]
        omega
      have HCa := fun (W : World) => conv_one (W.alloc (.cells #[.int .u8 (IntKind.u8.wrap (IntKind.i64.wrap (48 - z.tmod 10)))] 5)) W.heap.size (decB (m % 10)) _ q3 ((Has.new W _ _).cell 0)
      have HCc := fun (W : World) (g : Nat) => conv_one W g (decB (m % 10)) _ q3
      clear q3 qe qm ih
      go_enter Tryd.func27, Tryd.ntmps27
      go_wp2_with fail
      go_region_with (go_at_call 27; refine (HI.out _).mono ?_; rintro e w1 ⟨rfl, hb1⟩; have hcb := fun h => HCc w1 w.heap.size ((hb1.cell (p := ⟨w.heap.size, 0, none⟩) (lt_cell h)).trans h))
      all_goals
        replace hb1 := Lib.hid hb1
        clear HCa HCc hcb HI hsz
        go_wp2_with fail
        go_ret
        refine ⟨by rw [HV.out]; rfl, ?_⟩
        first
          | exact (below_chain (Below.drew (Below.refl _ _)) hb1.out).alloc (Nat.le_trans (Nat.le_refl _) hb1.out.size) _
          | exact below_chain (Below.alloc (Below.drew (Below.refl _ _)) (Nat.le_refl _) _) hb1.out
/-- Digits: a '-' where the number is negative -/
theorem digits_any (z : Int) (h0 : -9223372036854775808 ≤ z) (h1 : z ≤ 9223372036854775807) (w : World) :
    Calls Tryd.prog 27 #[.int .i64 z] w fun e w' => e = .returned (.string (ofL (decZ z))) ∧ Below w.heap.size w w' := by
  unfold decZ
  by_cases hz : z < 0
  · rw [if_pos hz]
    exact digits_neg z.natAbs (by omega) (by omega) z (Lib.hid (by omega)) w
  · rw [if_neg hz]
    have e : z = ((z.natAbs : Nat) : Int) := by omega
    have := digits_pos z.natAbs (by omega) w
    rw [← e] at this
    exact this
end Go.Proofs.YtblpooddamkfdaaDoor.R13Dig
