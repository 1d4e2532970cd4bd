/- Texts of this seat, one behind another: EmitAnswersW. -/
import Derived.Deep.LoopGhost
import Derived.Test.YtblpooddamkfdaaGreatDoorD1
import Derived.Test.YtblpooddamkfdaaGreatDoorD2
import Derived.Test.YtblpooddamkfdaaGreatDoorD3
import Derived.Test.YtblpooddamkfdaaGreatDoorD4
import Derived.Test.YtblpooddamkfdaaGreatDoorA1
/- A local reply, read by a client, is one whole response with this status and body and nothing behind it; to a HEAD it has no body: EmitAnswers returns true, whatever the arguments. -/
namespace Go.Proofs.YtblpooddamkfdaaGreatDoor.EmitAnswersW
open Go.ChangeShapes Go.WideShapes Go.ChangeAt Go.RowKit Bytes LexPure FieldsPure HeadPure FramePure EmitPure Flds HBox Mem Step PEmJoin PLib FRow KeptRow L13Base R12Box R12Next
set_option maxRecDepth 100000
set_option linter.unusedVariables false
set_option linter.unusedSimpArgs false
theorem check_right {G : List HField} (h : check G = 0) : ∀ f ∈ G, right f = true := by
  unfold check at h
  split at h
  · rename_i ha
    exact fun f hf => List.all_eq_true.1 ha f hf
  · cases h
theorem right_len {f : HField} (h : right f = true) : f.1.length + f.2.length ≤ 512 := by
  unfold right at h
  simp only [Bool.and_eq_true, decide_eq_true_eq] at h
  exact h.2
def Short (G : List HField) (k : Nat) : Prop := ∀ j (hj : j < G.length), j < k → G[j].1.length + G[j].2.length ≤ 200
/-! ### the reader's three tellings -/
section
variable {m A : ByteArray} {h : H8} {n0 : Nat} {K L : Int} {b : List UInt8}
theorem first (G : Whole12 m A h n0 K L b) {w : World} {g : Nat} (hR : Has w g RT (rcs m A false 0 false 0)) :
    Calls Tryz.prog 16 #[.pointer (some ⟨g, 0, none⟩)] w fun e w' => ∃ p n cap, Tells w w' e g (pcs 1 h (.slice p n cap) ⟨#[]⟩) (rcs m A true 0 false n0) :=
  R12Use.next_of hR 1 h ⟨#[]⟩ (fun W hW => (next_head G hW).mono fun e w' ⟨p, cap, x⟩ => ⟨p, _, cap, x⟩)
theorem second (G : Whole12 m A h n0 K L b) (hb : b ≠ []) {w : World} {g : Nat} (hR : Has w g RT (rcs m A true 0 false n0)) :
    Calls Tryz.prog 16 #[.pointer (some ⟨g, 0, none⟩)] w fun e w' => ∃ p n cap, Tells w w' e g (pcs 2 zero8 (.slice p n cap) (ofL b)) (rcs m A true ((ofL b).size : Int) false ((n0 : Int) + ((ofL b).size : Int))) :=
  R12Use.next_of hR 2 zero8 (ofL b) (fun W hW => (next_data G hb hW).mono fun e w' x => ⟨none, 0, 0, x⟩)
theorem third (G : Whole12 m A h n0 K L b) {w : World} {g : Nat} {us : Int} (hR : Has w g RT (rcs m A true ((ofL b).size : Int) false us)) :
    Calls Tryz.prog 16 #[.pointer (some ⟨g, 0, none⟩)] w fun e w' => ∃ p n cap, Tells w w' e g (pcs 3 zero8 (.slice p n cap) ⟨#[]⟩) (rcs m A true ((ofL b).size : Int) true ((n0 : Int) + ((ofL b).size : Int))) :=
  R12Use.next_of hR 3 zero8 ⟨#[]⟩ (fun W hW => (next_end G hW).mono fun e w' x => ⟨none, 0, 0, x⟩)
end
/-- the reader, and the piece beside it -/
structure Two (w : World) (gr gp : Nat) (rc pc : Array Value) (wr : World) : Prop where
  rd : Has wr gr RT rc
  pp : Has wr gp PT pc
  lo : w.heap.size ≤ gr
  ne : gr < gp
  below : Below w.heap.size w wr
theorem below_step {B : Nat} {w w1 w2 : World} {g : Nat} (h : Below B w w1) (hs : Step w1 w2 (fun k => k = g) (fun k => k = g)) (hg : B ≤ g) (hw : B ≤ w1.heap.size) : Below B w w2 :=
  ⟨hs.os.trans h.os, hs.tape.trans h.tape, hs.output.trans h.output, Nat.le_trans h.size hs.size, fun i hi => (hs.block i (Nat.lt_of_lt_of_le hi hw) (by omega)).trans (h.block i hi)⟩
theorem Two.told {w : World} {gr gp : Nat} {rc pc rc2 : Array Value} {wr w1 : World} (x : Two w gr gp rc pc wr) (hr : Has w1 gr RT rc2) (hs : Step wr w1 (fun k => k = gr) (fun k => k = gr)) : Two w gr gp rc2 pc w1 :=
  ⟨hr, hs.has x.pp (by have := x.ne; omega), x.lo, x.ne, below_step x.below hs x.lo x.below.size⟩
theorem Two.kept {w : World} {gr gp : Nat} {rc pc : Array Value} {wr : World} (x : Two w gr gp rc pc wr) (ps : Array Value) : Two w gr gp rc ps (wr.setRow gp ps) :=
  ⟨far_setRow x.rd (Nat.ne_of_lt x.ne) ps, has_setRow x.pp ps, x.lo, x.ne, below_setRow x.below (by have := x.lo; have := x.ne; omega) ps⟩
theorem Two.call {w : World} {gr gp : Nat} {rc pc : Array Value} {wr w1 : World} (x : Two w gr gp rc pc wr) (hb : Below wr.heap.size wr w1) : Two w gr gp rc pc w1 :=
  ⟨x.rd.below hb x.rd.lt, x.pp.below hb x.pp.lt, x.lo, x.ne, below_chain x.below hb⟩
/-- where the reading stands: how many tellings are still to come at most -/
def At (w : World) (gr gp : Nat) (m A B : ByteArray) (n0 : Nat) (c : Nat) (got : Value) (wr : World) : Prop :=
  (c = 2 ∧ got = .string ⟨#[]⟩ ∧ ∃ pc, Two w gr gp (rcs m A true 0 false n0) pc wr ∧ pc.size = 8) ∨
  (c = 1 ∧ got = .string B ∧ ∃ pc us, Two w gr gp (rcs m A true (B.size : Int) false us) pc wr ∧ pc.size = 8) ∨
  (c = 0 ∧ got = .string B ∧ ∃ pc, Two w gr gp (rcs m A true (B.size : Int) true (A.size : Int)) pc wr ∧ pc.size = 8)
set_option maxHeartbeats 3200000 in
theorem walkOut (status : Int) (G : List HField) (vl : Value) (z : ByteArray) (keep : Bool) (hout : status < 200 ∨ 599 < status ∨ status = 204 ∨ status = 304 ∨ 20 < G.length ∨ 5000 < z.size) (hle : G.length ≤ 4398046510976) (w : World) (hF : FL w vl G) (hm : MaxInt w) (hp : Pow w) :
    Calls Tryz.prog 4 #[.int .i64 status, vl, .string z, .bool keep] w fun e w' => e = .returned (.bool true) ∧ Below w.heap.size w w' := by
  obtain ⟨pl, cl, rfl, -, -⟩ := id hF
  have HAn := Lib.hid (anchor_any w hm hp)
  clear hm hp hF
  go_enter Tryz.func4, Tryz.ntmps4
  go_wp2_with fail
  refine HAn.out.mono ?_
  rintro e w1 ⟨rfl, hb1⟩
  have HB1 := Lib.hid hb1
  clear HAn hb1
  by_cases i1 : status < 200
  · clear hout
    go_wp2_with fail
    go_ret
    exact ⟨rfl, HB1.out⟩
  by_cases i2 : 599 < status
  · clear hout
    go_wp2_with fail
    go_ret
    exact ⟨rfl, HB1.out⟩
  by_cases i3 : status = 204
  · clear hout
    subst i3
    go_wp2_with fail
    go_ret
    exact ⟨rfl, HB1.out⟩
  by_cases i4 : status = 304
  · clear hout
    subst i4
    go_wp2_with fail
    go_ret
    exact ⟨rfl, HB1.out⟩
  have j3 : (status == 204) = false := beq_false_of_ne i3
  have j4 : (status == 304) = false := beq_false_of_ne i4
  by_cases i5 : 20 < G.length
  · have j5 : (20 : Int) < (G.length : Int) := by omega
    clear hout i5
    go_wp2_with fail
    go_ret
    exact ⟨rfl, HB1.out⟩
  have i6 : (5000 : Int) < (z.size : Int) := by omega
  have j5 : ¬ (20 : Int) < (G.length : Int) := by omega
  clear hout i5
  go_wp2_with fail
  go_ret
  exact ⟨rfl, HB1.out⟩
set_option maxHeartbeats 12800000 in
theorem walkIn (status : Int) (G : List HField) (vl : Value) (z : ByteArray) (keep : Bool) (s1 : 200 ≤ status) (s2 : status ≤ 599) (s3 : ¬ status = 204) (s4 : ¬ status = 304) (h20 : G.length ≤ 20) (hz : z.size ≤ 5000) (hG : Far G) (hy : Nice vl G.length) (w : World) (hF : FL w vl G) (hm : MaxInt w) (hp : Pow w) :
    Calls Tryz.prog 4 #[.int .i64 status, vl, .string z, .bool keep] w fun e w' => e = .returned (.bool true) ∧ Below w.heap.size w w' := by
  obtain ⟨pl, cl, rfl, -, -⟩ := id hF
  have HAn := Lib.hid (anchor_any w hm hp)
  have HCk := Lib.hid (fun w' h => R7Check.r7check_far (.slice pl G.length cl) G hG w' h)
  have HCp := Lib.hid (fun w' h => copied_any (.slice pl G.length cl) G (by omega) hy w' h)
  have HM := Lib.hid hm
  have HP := Lib.hid hp
  have HF := Lib.hid hF
  have S0 : Hid (-9223372036854775808 ≤ status ∧ status ≤ 9223372036854775807) := Lib.hid ⟨by omega, by omega⟩
  have S1 : Hid (200 ≤ status ∧ status ≤ 599 ∧ ¬ status = 204 ∧ ¬ status = 304) := Lib.hid ⟨s1, s2, s3, s4⟩
  have i1 : decide (status < 200) = false := decide_eq_false (by omega)
  have i2 : decide (599 < status) = false := decide_eq_false (by omega)
  have i3 : (status == 204) = false := beq_false_of_ne s3
  have i4 : (status == 304) = false := beq_false_of_ne s4
  have i5 : decide ((20 : Int) < (G.length : Int)) = false := decide_eq_false (by omega)
  have i6 : decide ((5000 : Int) < (z.size : Int)) = false := decide_eq_false (by omega)
  clear hm hp hF hG hy s1 s2 s3 s4
  go_enter Tryz.func4, Tryz.ntmps4
  go_wp2_with fail
  refine HAn.out.mono ?_
  rintro e w1 ⟨rfl, hb1⟩
  have HB1 := Lib.hid hb1
  have HC1 := Lib.hid (HCk.out w1 (HF.out.below hb1))
  clear HAn hb1 HCk
  go_wp2_with fail
  refine HC1.out.mono ?_
  rintro e w2 ⟨rfl, hb2⟩
  have HB2 := Lib.hid (below_chain HB1.out hb2)
  clear HC1 HB1 hb2
  by_cases hck : check G = 0
  case neg =>
    have hcb : (check G != 0) = true := bne_iff_ne.2 hck
    generalize check G = c at *
    go_wp2_with fail
    go_ret
    exact ⟨rfl, HB2.out⟩
  rw [hck]
  have HR := Lib.hid (check_right hck)
  have HFew := Lib.hid (EmitAnsP.few_right (check_right hck))
  have HV := Lib.hid (R7Get.rget_any (.slice pl G.length cl) G ⟨#[118, 105, 97]⟩ (by decide) HFew.out w2 (HF.out.below HB2.out))
  rw [show toL ⟨#[118, 105, 97]⟩ = [118, 105, 97] from rfl] at HV
  obtain ⟨nv, hnv⟩ : ∃ nv, nv = getN G [118, 105, 97] := ⟨_, rfl⟩
  rw [← hnv] at HV
  have HNv := Lib.hid hnv
  clear hck i1 i2 i3 i4 i5 i6 hnv
  go_wp2_with fail
  refine HV.out.mono ?_
  rintro e w3 ⟨rfl, hb3⟩
  have HB3 := Lib.hid (below_chain HB2.out hb3)
  clear HV HB2 hb3
  by_cases hv1 : 1 < nv
  · have hvi : (1 : Int) < (nv : Int) := by omega
    go_wp2_with fail
    go_ret
    exact ⟨rfl, HB3.out⟩
  have hvi : ¬ (1 : Int) < (nv : Int) := by omega
  have HV1 : Hid (getN G [118, 105, 97] ≤ 1) := Lib.hid (by rw [← HNv.out]; omega)
  obtain ⟨_, _, heq, -, hcell⟩ := HF.out
  injection heq with e1 e2 e3
  subst e1
  subst e3
  have HC := Lib.hid hcell
  clear hcell e2 HNv
  go_wp2_with fail
  clear hv1 hvi
  go_loopw [61] (fun i wr => ∃ k : Nat, k ≤ G.length ∧ i = .int .i64 k ∧ Hid (Short G k ∧ Below w.heap.size w wr)) (fun i _ => G.length - (intOf i).toNat)
  case atStart => exact ⟨0, Nat.zero_le _, rfl, Lib.hid ⟨fun j _ h => absurd h (by omega), HB3.out⟩⟩
  case round =>
    obtain ⟨k, hk, rfl, HJ⟩ := hrel
    clear HB3
    by_cases hlt : k < G.length
    · obtain ⟨g, o, rfl, hgl, hcell⟩ := HC.out (by omega)
      obtain ⟨c1, c2⟩ := hcell k hlt
      replace c1 := (HJ.out.2.cell (p := ⟨g, o + k * 2, none⟩) hgl).trans c1
      replace c2 := (HJ.out.2.cell (p := ⟨g, o + k * 2 + 1, none⟩) hgl).trans c2
      have hki : (k : Int) < (G.length : Int) := by omega
      have hrl := right_len (HR.out G[k] (List.getElem_mem hlt))
      obtain ⟨f, hf⟩ : ∃ f, f = G[k] := ⟨_, rfl⟩
      rw [← hf] at c1 c2 hrl
      have z1 : (ofL f.1).size = f.1.length := ofL_size _
      have z2 : (ofL f.2).size = f.2.length := ofL_size _
      have HO := Lib.hid (R7One.r7one_any (.slice (some ⟨g, o, none⟩) G.length cl) G (ofL f.1) (by omega) HFew.out (by omega) (wr.alloc (.cells #[.string (ofL f.1), .string (ofL f.2)] 36)) (HF.out.below (HJ.out.2.alloc HJ.out.2.size _)))
      have HN : Hid (Has (wr.alloc (.cells #[.string (ofL f.1), .string (ofL f.2)] 36)) wr.heap.size 36 #[.string (ofL f.1), .string (ofL f.2)]) := Lib.hid (Has.new wr _ _)
      have HZ : Hid ((ofL f.1).size = f.1.length ∧ (ofL f.2).size = f.2.length ∧ f = G[k]) := Lib.hid ⟨z1, z2, hf⟩
      have b1 : (ofL f.1).size + (ofL f.2).size ≤ 512 := by omega
      have d0 := HN.out.cell 0
      generalize one G (toL (ofL f.1)) = o1 at *
      clear hcell hf hrl z1 z2
      go_wp2_with fail
      refine HO.out.mono ?_
      rintro e w4 ⟨rfl, hb4⟩
      have x0 := HN.out.below hb4 HN.out.lt
      have a0 : w4.cell? ⟨wr.heap.size, 0, none⟩ = some (.string (ofL f.1)) := x0.cell 0
      have a1 : w4.cell? ⟨wr.heap.size, 1, none⟩ = some (.string (ofL f.2)) := x0.cell 1
      have HB4 := Lib.hid (below_chain (HJ.out.2.alloc HJ.out.2.size _) hb4)
      clear hb4 HO x0 d0 c1 c2
      cases o1 with
      | true =>
        go_wp2_with fail
        go_ret
        exact ⟨rfl, HB4.out⟩
      | false =>
        by_cases h2 : 200 < (ofL f.1).size + (ofL f.2).size
        · have h2i : (200 : Int) < ((ofL f.1).size : Int) + ((ofL f.2).size : Int) := by omega
          go_wp2_with fail
          go_ret
          exact ⟨rfl, HB4.out⟩
        have h2i : ¬ (200 : Int) < ((ofL f.1).size : Int) + ((ofL f.2).size : Int) := by omega
        have HK : Hid (Short G (k + 1) ∧ Below w.heap.size w w4) := Lib.hid ⟨fun j hj hjk => by
          rcases Nat.lt_or_ge j k with h | h
          · exact HJ.out.1 j hj h
          · obtain rfl : j = k := by omega
            obtain ⟨y1, y2, y3⟩ := HZ.out
            rw [← y3]
            omega, HB4.out⟩
        clear HB4 HJ HZ HN h2
        go_wp2_with fail
        exact ⟨⟨k + 1, by omega, by simp, HK⟩, by simp [intOf]; omega⟩
    · have hki : ¬ (k : Int) < (G.length : Int) := by omega
      have HL : Hid (∀ f ∈ G, f.1.length + f.2.length ≤ 200) := Lib.hid (fun f hf => by
        obtain ⟨j, hj, rfl⟩ := List.getElem_of_mem hf
        exact HJ.out.1 j hj (by omega))
      have HB := Lib.hid HJ.out.2
      have HWhole0 := Lib.hid (EmitAnsP.whole_get S1.out.1 S1.out.2.1 S1.out.2.2.1 S1.out.2.2.2 h20 HV1.out HR.out HL.out (body := toL z) (by rw [toL_length]; exact hz) keep)
      have HWhole1 := Lib.hid (EmitAnsP.whole_head S1.out.1 S1.out.2.1 S1.out.2.2.1 S1.out.2.2.2 h20 HV1.out HR.out HL.out (body := toL z) (by rw [toL_length]; exact hz) keep)
      clear HJ HL HC hlt HV1 HR S1
      go_wp2_with fail
      clear hki
      go_loopw [13] (fun i wr => (i = .int .i64 0 ∨ i = .int .i64 1 ∨ i = .int .i64 2) ∧ Hid (Below w.heap.size w wr)) (fun i _ => 2 - (intOf i).toNat)
      case atStart => exact ⟨.inl rfl, HB⟩
      case round =>
        clear HB
        rcases hrel with ⟨rfl | rfl | rfl, HJ⟩
        · obtain ⟨h, n0, GW, hst, hkp⟩ := HWhole0.out
          have HLo := Lib.hid (fun v w' m p f => PEmLocal.local_any status v G (toL z) keep false S0.out.1 S0.out.2 HFew.out (by omega) (by rw [toL_length]; omega) w' m p f)
          rw [ofL_toL] at HLo
          obtain ⟨A, hA⟩ : ∃ A, A = ofL (localE status G (toL z) keep false) := ⟨_, rfl⟩
          rw [← hA] at GW HLo
          have HN1 := Lib.hid (fun w' g h => first GW (w := w') (g := g) h)
          have HN2 := Lib.hid (fun hb w' g h => second GW hb (w := w') (g := g) h)
          have HN3 := Lib.hid (fun us w' g h => third GW (w := w') (g := g) (us := us) h)
          have hby := GW.bytes
          have hAs := GW.size
          have HRe := Lib.hid (fun w' g h => R12Use.reusable_any GW (w := w') (g := g) (hd := true) (told := ((z : ByteArray).size : Int)) h)
          rw [hkp] at HRe
          have HLe := Lib.hid (fun w' g h => R12Use.left_any (m := ⟨#[71, 69, 84]⟩) (A := A) hAs (w := w') (g := g) (hd := true) (dn := true) (told := ((z : ByteArray).size : Int)) h)
          have hus : (n0 : Int) + ((z : ByteArray).size : Int) = (A.size : Int) := by (rw [toL_length] at hby; omega)
          rw [ofL_toL] at HN2 HN3
          have HUS := Lib.hid hus
          have HST := Lib.hid hst
          clear hst hkp hA GW hby hAs hus
          go_wp2_with fail
          refine (HCp.out wr (HF.out.below HJ.out)).mono ?_
          rintro e w3 ⟨v2, rfl, hrow, hb3⟩
          obtain ⟨p2, c2, rfl, -, -⟩ := id (fl_of hrow (by omega))
          have HX1 := Lib.hid (HLo.out _ w3 (HM.out.below (below_chain HJ.out hb3)) (HP.out.below (below_chain HJ.out hb3)) (fl_of hrow (by omega)))
          have HB3 := Lib.hid (below_chain HJ.out hb3)
          clear hrow hb3 HLo HJ
          go_wp2_with fail
          refine HX1.out.mono ?_
          rintro e w4 ⟨rfl, hb4⟩
          have HB4 := Lib.hid (below_chain HB3.out hb4)
          clear hb4 HX1 HB3
          have HX2 := Lib.hid (HN1.out _ _ (Has.new w4 RT (rcs ⟨#[71, 69, 84]⟩ A false 0 false 0)))
          clear HN1
          go_wp2_with fail
          refine HX2.out.mono ?_
          rintro e w5 ⟨p, n, cap, rfl, hr5, hs5⟩
          have hb5 : Below w.heap.size w w5 := below_step (HB4.out.alloc HB4.out.size _) hs5 HB4.out.size (Nat.le_trans HB4.out.size (by simp))
          have h45 : w4.heap.size < w5.heap.size := Nat.lt_of_lt_of_le (by simp) hs5.size
          have HT : Hid (Two w w4.heap.size w5.heap.size (rcs ⟨#[71, 69, 84]⟩ A true 0 false n0) (pcs 1 h (.slice p n cap) ⟨#[]⟩) (w5.alloc (.cells (pcs 1 h (.slice p n cap) ⟨#[]⟩) PT))) := Lib.hid
            ⟨hr5.alloc _, Has.new w5 _ _, HB4.out.size, h45, hb5.alloc hb5.size _⟩
          clear hr5 hs5 hb5 HX2 HB4 h45
          unfold pcs at HT ⊢
          rw [HST.out] at HT ⊢
          dsimp only
          iterate 21 go_step
          generalize w5.alloc (.cells #[.int .i64 1, .string (ofL h.method), .string (ofL h.target), .int .i64 status, .string (ofL h.reason), .int .i64 h.minor, .slice p n cap, .string ⟨#[]⟩] PT) = W5 at HT ⊢
          generalize w5.heap.size = gp at HT ⊢
          generalize w4.heap.size = gr at HT ⊢
          have d3 : W5.cell? ⟨gp, 3, none⟩ = some (.int .i64 status) := HT.out.pp.cell 3
          have hss : (status != status) = false := by simp
          have HA0 : Hid (At w gr gp ⟨#[71, 69, 84]⟩ A z n0 2 (.string ⟨#[]⟩) W5) := Lib.hid (.inl ⟨rfl, rfl, _, HT.out, rfl⟩)
          clear HT HST
          go_wp2_with fail
          clear d3
          go_loopg [20] 2 (fun g got wr => Hid (At w gr gp ⟨#[71, 69, 84]⟩ A z n0 g got wr))
          case atStart => exact HA0
          case round =>
            rcases hrel.out with ⟨rfl, rfl, pc, X, hps⟩ | ⟨rfl, rfl, pc, us, X, hps⟩ | ⟨rfl, rfl, pc, X, hps⟩
            · by_cases hb : toL z = []
              · obtain rfl : z = ⟨#[]⟩ := toL_inj hb
                clear hb
                have HX := Lib.hid (HN3.out _ wr gr X.rd)
                have HP2 := Lib.hid X
                clear HN2 HN3 HLe HRe X
                go_wp2_with fail
                refine HX.out.mono ?_
                rintro e w6 ⟨p6, n6, cap6, rfl, hr6, hs6⟩
                rw [HUS.out] at hr6
                have X6 := HP2.out.told hr6 hs6
                have hat := X6.pp.at_
                have X7 := Lib.hid (X6.kept (pcs 3 zero8 (.slice p6 n6 cap6) ⟨#[]⟩))
                have d7 : (w6.setRow gp (pcs 3 zero8 (.slice p6 n6 cap6) ⟨#[]⟩)).cell? ⟨gp, 7, none⟩ = some (.string ⟨#[]⟩) := X7.out.pp.cell 7
                clear hr6 hs6 X6 HX HP2
                go_wp2_with (refine wpList_store_row rfl PT _ _ rfl gp (pcs 3 zero8 (.slice p6 n6 cap6) ⟨#[]⟩) rfl rfl PT _ hat (by kernel_rfl) hps (by simp [pcs, Value.oneCell']) ?_)
                go_roundg 0
                case measure => omega
                case rel => exact Lib.hid (.inr (.inr ⟨rfl, by first | (simp; done) | rfl, _, X7.out, rfl⟩))
              · have hcat : (⟨#[]⟩ : ByteArray) ++ z = z := (by simp : ByteArray.empty ++ z = z)
                have HX := Lib.hid (HN2.out hb wr gr X.rd)
                have HP2 := Lib.hid X
                clear HN2 HN3 HLe HRe X
                go_wp2_with fail
                refine HX.out.mono ?_
                rintro e w6 ⟨p6, n6, cap6, rfl, hr6, hs6⟩
                have X6 := HP2.out.told hr6 hs6
                have hat := X6.pp.at_
                have X7 := Lib.hid (X6.kept (pcs 2 zero8 (.slice p6 n6 cap6) z))
                have d7 : (w6.setRow gp (pcs 2 zero8 (.slice p6 n6 cap6) z)).cell? ⟨gp, 7, none⟩ = some (.string z) := X7.out.pp.cell 7
                clear hr6 hs6 X6 HX HP2
                go_wp2_with (refine wpList_store_row rfl PT _ _ rfl gp (pcs 2 zero8 (.slice p6 n6 cap6) z) rfl rfl PT _ hat (by kernel_rfl) hps (by simp [pcs, Value.oneCell']) ?_)
                go_roundg 1
                case measure => omega
                case rel => exact Lib.hid (.inr (.inl ⟨rfl, by simp, _, _, X7.out, rfl⟩))
            · have hcat : z ++ (⟨#[]⟩ : ByteArray) = z := (by simp : z ++ ByteArray.empty = z)
              have HX := Lib.hid (HN3.out _ wr gr X.rd)
              have HP2 := Lib.hid X
              clear HN2 HN3 HLe HRe X
              go_wp2_with fail
              refine HX.out.mono ?_
              rintro e w6 ⟨p6, n6, cap6, rfl, hr6, hs6⟩
              rw [HUS.out] at hr6
              have X6 := HP2.out.told hr6 hs6
              have hat := X6.pp.at_
              have X7 := Lib.hid (X6.kept (pcs 3 zero8 (.slice p6 n6 cap6) ⟨#[]⟩))
              have d7 : (w6.setRow gp (pcs 3 zero8 (.slice p6 n6 cap6) ⟨#[]⟩)).cell? ⟨gp, 7, none⟩ = some (.string ⟨#[]⟩) := X7.out.pp.cell 7
              clear hr6 hs6 X6 HX HP2
              go_wp2_with (refine wpList_store_row rfl PT _ _ rfl gp (pcs 3 zero8 (.slice p6 n6 cap6) ⟨#[]⟩) rfl rfl PT _ hat (by kernel_rfl) hps (by simp [pcs, Value.oneCell']) ?_)
              go_roundg 0
              case measure => omega
              case rel => exact Lib.hid (.inr (.inr ⟨rfl, by first | (simp; done) | rfl, _, X7.out, rfl⟩))
            · have HX := Lib.hid (R12Use.next_done X.rd)
              have HP2 := Lib.hid X
              clear HN2 HN3 X
              go_wp2_with fail
              refine HX.out.mono ?_
              rintro e w6 ⟨rfl, hb6⟩
              have X6 := HP2.out.call hb6
              have hat := X6.pp.at_
              have X7 := Lib.hid (X6.kept zp)
              have d5 : (w6.setRow gp zp).cell? ⟨gr, 5, none⟩ = some (.bool true) := X7.out.rd.cell 5
              have HX2 := Lib.hid (HLe.out _ _ X7.out.rd)
              have hzz : ((z : ByteArray).toList != (z : ByteArray).toList) = false := by rw [bne, beq_self_eq_true]; rfl
              have hkk : (keep != keep) = false := by simp
              clear hb6 X6 HX HP2 HLe
              go_wp2_with (refine wpList_store_row rfl PT _ _ rfl gp zp rfl rfl PT _ hat (by kernel_rfl) hps (by simp [zp, Value.oneCell']) ?_)
              refine HX2.out.mono ?_
              rintro e w7 ⟨rfl, hb7⟩
              have X8 := Lib.hid (X7.out.call hb7)
              have HX3 := Lib.hid (HRe.out _ _ X8.out.rd)
              clear hb7 HX2 X7 HRe d5
              go_wp2_with fail
              refine HX3.out.mono ?_
              rintro e w8 ⟨rfl, hb8⟩
              have HB9 := Lib.hid (below_chain X8.out.below hb8)
              clear hb8 HX3 X8
              go_wp2_with fail
              go_roundw
              case rel => exact ⟨.inr (.inl (by go_num)), HB9⟩
              case measure => simp [intOf]
        · obtain ⟨h, n0, GW, hst, hkp⟩ := HWhole1.out
          have HLo := Lib.hid (fun v w' m p f => PEmLocal.local_any status v G (toL z) keep true S0.out.1 S0.out.2 HFew.out (by omega) (by rw [toL_length]; omega) w' m p f)
          rw [ofL_toL] at HLo
          obtain ⟨A, hA⟩ : ∃ A, A = ofL (localE status G (toL z) keep true) := ⟨_, rfl⟩
          rw [← hA] at GW HLo
          have HN1 := Lib.hid (fun w' g h => first GW (w := w') (g := g) h)
          have HN2 := Lib.hid (fun hb w' g h => second GW hb (w := w') (g := g) h)
          have HN3 := Lib.hid (fun us w' g h => third GW (w := w') (g := g) (us := us) h)
          have hby := GW.bytes
          have hAs := GW.size
          have HRe := Lib.hid (fun w' g h => R12Use.reusable_any GW (w := w') (g := g) (hd := true) (told := ((⟨#[]⟩ : ByteArray).size : Int)) h)
          rw [hkp] at HRe
          have HLe := Lib.hid (fun w' g h => R12Use.left_any (m := ⟨#[72, 69, 65, 68]⟩) (A := A) hAs (w := w') (g := g) (hd := true) (dn := true) (told := ((⟨#[]⟩ : ByteArray).size : Int)) h)
          have hus : (n0 : Int) + ((⟨#[]⟩ : ByteArray).size : Int) = (A.size : Int) := by (have : (⟨#[]⟩ : ByteArray).size = 0 := rfl; rw [this]; simp only [List.length_nil] at hby; omega)
          rw [show ofL [] = (⟨#[]⟩ : ByteArray) from rfl] at HN2 HN3
          have HUS := Lib.hid hus
          have HST := Lib.hid hst
          clear hst hkp hA GW hby hAs hus
          go_wp2_with fail
          refine (HCp.out wr (HF.out.below HJ.out)).mono ?_
          rintro e w3 ⟨v2, rfl, hrow, hb3⟩
          obtain ⟨p2, c2, rfl, -, -⟩ := id (fl_of hrow (by omega))
          have HX1 := Lib.hid (HLo.out _ w3 (HM.out.below (below_chain HJ.out hb3)) (HP.out.below (below_chain HJ.out hb3)) (fl_of hrow (by omega)))
          have HB3 := Lib.hid (below_chain HJ.out hb3)
          clear hrow hb3 HLo HJ
          go_wp2_with fail
          refine HX1.out.mono ?_
          rintro e w4 ⟨rfl, hb4⟩
          have HB4 := Lib.hid (below_chain HB3.out hb4)
          clear hb4 HX1 HB3
          have HX2 := Lib.hid (HN1.out _ _ (Has.new w4 RT (rcs ⟨#[72, 69, 65, 68]⟩ A false 0 false 0)))
          clear HN1
          go_wp2_with fail
          refine HX2.out.mono ?_
          rintro e w5 ⟨p, n, cap, rfl, hr5, hs5⟩
          have hb5 : Below w.heap.size w w5 := below_step (HB4.out.alloc HB4.out.size _) hs5 HB4.out.size (Nat.le_trans HB4.out.size (by simp))
          have h45 : w4.heap.size < w5.heap.size := Nat.lt_of_lt_of_le (by simp) hs5.size
          have HT : Hid (Two w w4.heap.size w5.heap.size (rcs ⟨#[72, 69, 65, 68]⟩ A true 0 false n0) (pcs 1 h (.slice p n cap) ⟨#[]⟩) (w5.alloc (.cells (pcs 1 h (.slice p n cap) ⟨#[]⟩) PT))) := Lib.hid
            ⟨hr5.alloc _, Has.new w5 _ _, HB4.out.size, h45, hb5.alloc hb5.size _⟩
          clear hr5 hs5 hb5 HX2 HB4 h45
          unfold pcs at HT ⊢
          rw [HST.out] at HT ⊢
          dsimp only
          iterate 21 go_step
          generalize w5.alloc (.cells #[.int .i64 1, .string (ofL h.method), .string (ofL h.target), .int .i64 status, .string (ofL h.reason), .int .i64 h.minor, .slice p n cap, .string ⟨#[]⟩] PT) = W5 at HT ⊢
          generalize w5.heap.size = gp at HT ⊢
          generalize w4.heap.size = gr at HT ⊢
          have d3 : W5.cell? ⟨gp, 3, none⟩ = some (.int .i64 status) := HT.out.pp.cell 3
          have hss : (status != status) = false := by simp
          have HA0 : Hid (At w gr gp ⟨#[72, 69, 65, 68]⟩ A ⟨#[]⟩ n0 2 (.string ⟨#[]⟩) W5) := Lib.hid (.inl ⟨rfl, rfl, _, HT.out, rfl⟩)
          clear HT HST
          go_wp2_with fail
          clear d3
          go_loopg [20] 2 (fun g got wr => Hid (At w gr gp ⟨#[72, 69, 65, 68]⟩ A ⟨#[]⟩ n0 g got wr))
          case atStart => exact HA0
          case round =>
            rcases hrel.out with ⟨rfl, rfl, pc, X, hps⟩ | ⟨rfl, rfl, pc, us, X, hps⟩ | ⟨rfl, rfl, pc, X, hps⟩
            · skip
              have HX := Lib.hid (HN3.out _ wr gr X.rd)
              have HP2 := Lib.hid X
              clear HN2 HN3 HLe HRe X
              go_wp2_with fail
              refine HX.out.mono ?_
              rintro e w6 ⟨p6, n6, cap6, rfl, hr6, hs6⟩
              rw [HUS.out] at hr6
              have X6 := HP2.out.told hr6 hs6
              have hat := X6.pp.at_
              have X7 := Lib.hid (X6.kept (pcs 3 zero8 (.slice p6 n6 cap6) ⟨#[]⟩))
              have d7 : (w6.setRow gp (pcs 3 zero8 (.slice p6 n6 cap6) ⟨#[]⟩)).cell? ⟨gp, 7, none⟩ = some (.string ⟨#[]⟩) := X7.out.pp.cell 7
              clear hr6 hs6 X6 HX HP2
              go_wp2_with (refine wpList_store_row rfl PT _ _ rfl gp (pcs 3 zero8 (.slice p6 n6 cap6) ⟨#[]⟩) rfl rfl PT _ hat (by kernel_rfl) hps (by simp [pcs, Value.oneCell']) ?_)
              go_roundg 0
              case measure => omega
              case rel => exact Lib.hid (.inr (.inr ⟨rfl, by first | (simp; done) | rfl, _, X7.out, rfl⟩))
            · skip
              have HX := Lib.hid (HN3.out _ wr gr X.rd)
              have HP2 := Lib.hid X
              clear HN2 HN3 HLe HRe X
              go_wp2_with fail
              refine HX.out.mono ?_
              rintro e w6 ⟨p6, n6, cap6, rfl, hr6, hs6⟩
              rw [HUS.out] at hr6
              have X6 := HP2.out.told hr6 hs6
              have hat := X6.pp.at_
              have X7 := Lib.hid (X6.kept (pcs 3 zero8 (.slice p6 n6 cap6) ⟨#[]⟩))
              have d7 : (w6.setRow gp (pcs 3 zero8 (.slice p6 n6 cap6) ⟨#[]⟩)).cell? ⟨gp, 7, none⟩ = some (.string ⟨#[]⟩) := X7.out.pp.cell 7
              clear hr6 hs6 X6 HX HP2
              go_wp2_with (refine wpList_store_row rfl PT _ _ rfl gp (pcs 3 zero8 (.slice p6 n6 cap6) ⟨#[]⟩) rfl rfl PT _ hat (by kernel_rfl) hps (by simp [pcs, Value.oneCell']) ?_)
              go_roundg 0
              case measure => omega
              case rel => exact Lib.hid (.inr (.inr ⟨rfl, by first | (simp; done) | rfl, _, X7.out, rfl⟩))
            · have HX := Lib.hid (R12Use.next_done X.rd)
              have HP2 := Lib.hid X
              clear HN2 HN3 X
              go_wp2_with fail
              refine HX.out.mono ?_
              rintro e w6 ⟨rfl, hb6⟩
              have X6 := HP2.out.call hb6
              have hat := X6.pp.at_
              have X7 := Lib.hid (X6.kept zp)
              have d5 : (w6.setRow gp zp).cell? ⟨gr, 5, none⟩ = some (.bool true) := X7.out.rd.cell 5
              have HX2 := Lib.hid (HLe.out _ _ X7.out.rd)
              have hzz : ((⟨#[]⟩ : ByteArray).toList != (⟨#[]⟩ : ByteArray).toList) = false := by rw [bne, beq_self_eq_true]; rfl
              have hkk : (keep != keep) = false := by simp
              clear hb6 X6 HX HP2 HLe
              go_wp2_with (refine wpList_store_row rfl PT _ _ rfl gp zp rfl rfl PT _ hat (by kernel_rfl) hps (by simp [zp, Value.oneCell']) ?_)
              refine HX2.out.mono ?_
              rintro e w7 ⟨rfl, hb7⟩
              have X8 := Lib.hid (X7.out.call hb7)
              have HX3 := Lib.hid (HRe.out _ _ X8.out.rd)
              clear hb7 HX2 X7 HRe d5
              go_wp2_with fail
              refine HX3.out.mono ?_
              rintro e w8 ⟨rfl, hb8⟩
              have HB9 := Lib.hid (below_chain X8.out.below hb8)
              clear hb8 HX3 X8
              go_wp2_with fail
              go_roundw
              case rel => exact ⟨.inr (.inr (by go_num)), HB9⟩
              case measure => simp [intOf]
        · go_wp2_with fail
          go_ret
          exact ⟨rfl, HJ.out⟩
theorem walk {H : Type} {enc : TypeId × Value → H} {W : World} {base : Nat} (status : Int) (ws : (Lit.int .i64 status).wf = true) (v : Value) (d : DataW H) (p : List MemPlace) (hv : Value.okWide Tryz.prog W .any base 23 v)
    (hd : DataW.Trod enc Tryz.prog W 0 (fun _ => true) true 23 v d p) (hl : ∀ x ∈ p, x.block < W.heap.size) (hb : (d.weights Tryz.prog 23).all (· ≤ reachBytes) = true) (z : ByteArray) (wz : z.size ≤ maxLen) (zz : z.size ≤ 140737488351232) (keep : Bool)
    (hsh : W.ShapedOpen Tryz.prog) (hlaid : laidMetH Tryz.prog Rows.emitAnswersRow.laid W) :
    Calls Tryz.prog 4 #[.int .i64 status, v, .string z, .bool keep] W fun e w' => e = .returned (.bool true) ∧ Below W.heap.size W w' := by
  obtain ⟨G, hF, hG, hle, hy⟩ := FArg.fields_arg_reach hv hd hb
  by_cases hout : status < 200 ∨ 599 < status ∨ status = 204 ∨ status = 304 ∨ 20 < G.length ∨ 5000 < z.size
  · exact walkOut status G v z keep hout hle W hF (MaxInt.of_shape hsh) (pow_of_laid rfl hlaid)
  · simp only [not_or] at hout
    obtain ⟨h1, h2, h3, h4, h5, h6⟩ := hout
    exact walkIn status G v z keep (by omega) (by omega) h3 h4 (by omega) (by omega) hG hy W hF (MaxInt.of_shape hsh) (pow_of_laid rfl hlaid)
end Go.Proofs.YtblpooddamkfdaaGreatDoor.EmitAnswersW
