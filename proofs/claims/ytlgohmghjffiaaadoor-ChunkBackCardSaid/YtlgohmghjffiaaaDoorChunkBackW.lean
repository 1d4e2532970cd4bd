/- What is written in chunks is read back as one body: ChunkBack returns true. -/
import Derived.Test.YtlgohmghjffiaaaDoorChAnchor
import Derived.Test.YtlgohmghjffiaaaDoorSArg
import Derived.Test.YtlgohmghjffiaaaDoorTabLaid
import Derived.Test.YtlgohmghjffiaaaDoorR10Enc
import Derived.Deep.QuietTactic
import Derived.BigQuiet
import Derived.Laws.DeepStrings4
namespace Go.Proofs.YtlgohmghjffiaaaDoor.ChunkBackW
open Go.ChangeShapes Go.WideShapes Go.ChangeAt Go.RowKit Bytes LexPure Ret Rows1 Texts ChunkPure ChunkHex ChunkText ChunkObj Held10 ChAnchor SArg R10Enc Mem Step
set_option maxRecDepth 100000
/-- how long the texts' body may be -/
def lim : Nat := 268535456
/-- what is written so far -/
structure Wr (T : List (List UInt8)) (A B : ByteArray) : Prop where
  enc_ : toL A = T.flatMap enc
  body : toL B = T.flatten
  small : ∀ t ∈ T, t.length < 268435456
theorem Wr.start : Wr [] ⟨#[]⟩ ⟨#[]⟩ := ⟨rfl, rfl, fun t ht => by cases ht⟩
theorem Wr.more {T : List (List UInt8)} {A B : ByteArray} (h : Wr T A B) (t : List UInt8) (ht : t.length < 268435456) : Wr (T ++ [t]) (A ++ ofL (enc t)) (B ++ ofL t) :=
  ⟨by rw [toL_append, toL_ofL, h.enc_, List.flatMap_append, List.flatMap_singleton], by rw [toL_append, toL_ofL, h.body, List.flatten_append]; simp, fun x hx => by
    rcases List.mem_append.1 hx with hx | hx
    · exact h.small x hx
    · rw [List.mem_singleton] at hx
      rw [hx]
      exact ht⟩
theorem Wr.size {T : List (List UInt8)} {A B : ByteArray} (h : Wr T A B) : A.size ≤ 13 * B.size := by
  rw [← toL_length A, ← toL_length B, h.enc_, h.body]
  have key : ∀ T : List (List UInt8), (∀ t ∈ T, t.length < 268435456) → (T.flatMap enc).length ≤ 13 * T.flatten.length := by
    intro T
    induction T with
    | nil => intro _; exact Nat.le_refl _
    | cons t T ih =>
      intro hs
      rw [List.flatMap_cons, List.flatten_cons, List.length_append, List.length_append]
      have h1 := enc_len t (by have := hs t List.mem_cons_self; omega)
      have h2 := ih (fun x hx => hs x (List.mem_cons_of_mem _ hx))
      omega
  exact key T h.small
set_option maxHeartbeats 3200000 in
theorem walkIn (v : Value) (T : List (List UInt8)) (hT : ∀ t ∈ T, t.length ≤ 140737488351232) (tail : ByteArray) (ht : tail.size ≤ 140737488351232) (w : World) (hV : Texts w v T) (hm : Fit w) (hTab : PHexF.Tab w) :
    Calls Tryd.prog 4 #[v, .string tail] w fun e w' => e = .returned (.bool true) ∧ Below w.heap.size w w' := by
  have HA := Lib.hid (anchor_any w hm)
  have HM := Lib.hid hm
  have HTb := Lib.hid hTab
  obtain ⟨p, cap, rfl, hle, hcl⟩ := hV
  replace hcl := Lib.hid hcl
  replace hT := Lib.hid hT
  clear hm hTab
  go_enter Tryd.func4, Tryd.ntmps4
  go_wp2_with fail
  refine HA.out.mono ?_
  rintro e w1 ⟨rfl, hb1⟩
  have HX : Hid (Wr (T.take 0) ⟨#[]⟩ ⟨#[]⟩ ∧ Below w.heap.size w w1 ∧ (⟨#[]⟩ : ByteArray).size ≤ lim) := Lib.hid ⟨Wr.start, hb1, Nat.zero_le _⟩
  clear HA hb1
  go_wp2_with fail
  go_loopw [5, 6, 24] (fun a b i wr => ∃ (k : Nat) (A B : ByteArray), k ≤ T.length ∧ i = .int .i64 k ∧ a = .string A ∧ b = .string B ∧ Hid (Wr (T.take k) A B ∧ Below w.heap.size w wr ∧ B.size ≤ lim)) (fun _ _ i _ => T.length - (intOf i).toNat)
  case atStart => exact ⟨0, ⟨#[]⟩, ⟨#[]⟩, Nat.zero_le _, rfl, rfl, rfl, HX⟩
  case round =>
    obtain ⟨k, A, B, hk, rfl, rfl, rfl, HI⟩ := hrel
    clear HX
    by_cases hlt : k < T.length
    · obtain ⟨gp, o, rfl, hgl, hcell⟩ := hcl.out (by omega)
      have hki : (k : Int) < (T.length : Int) := by omega
      have htk := hT.out T[k] (List.getElem_mem hlt)
      obtain ⟨hW, hbw, hB⟩ := HI.out
      unfold lim at hB
      have d1 := (hbw.cell (p := ⟨gp, o + k, none⟩) hgl).trans (hcell k hlt)
      obtain ⟨V, hV⟩ : ∃ V, V = ofL T[k] := ⟨_, rfl⟩
      have tV : toL V = T[k] := by rw [hV, toL_ofL]
      have sV : V.size = T[k].length := by rw [hV, ofL_size]
      have HE := Lib.hid (pencode_any V (by omega) wr (HTb.out.below hbw))
      rw [tV] at HE
      rw [← hV] at d1
      have hsz := hW.size
      have HB := Lib.hid hbw
      have HN := fun (h : T[k].length < 268435456) => hW.more T[k] h
      rw [← hV, show T.take k ++ [T[k]] = T.take (k + 1) by rw [List.take_add_one, List.getElem?_eq_getElem hlt]; rfl] at HN
      obtain ⟨C, hC⟩ : ∃ C, C = ofL (enc T[k]) := ⟨_, rfl⟩
      rw [← hC] at HE HN
      by_cases hb : 100000 < B.size
      · have hbi : (100000 : Int) < (B.size : Int) := by omega
        clear hcell HI hW hV tV HN hC hsz hb hbw sV htk hB
        go_wp2_with fail
        refine HE.out.mono ?_
        rintro e w2 ⟨rfl, hb2⟩
        have HB2 := Lib.hid (below_chain HB.out hb2)
        clear hb2 HE d1
        go_wp2_with fail
        go_ret
        exact ⟨rfl, HB2.out⟩
      have hbi : ¬ (100000 : Int) < (B.size : Int) := by omega
      by_cases ht8 : 268435456 ≤ V.size
      · have hti : (268435456 : Int) ≤ (V.size : Int) := by omega
        clear hcell HI hW hV tV HN hC hsz hb hbw sV htk hB ht8
        go_wp2_with fail
        refine HE.out.mono ?_
        rintro e w2 ⟨rfl, hb2⟩
        have HB2 := Lib.hid (below_chain HB.out hb2)
        clear hb2 HE d1
        go_wp2_with fail
        go_ret
        exact ⟨rfl, HB2.out⟩
      have hti : ¬ (268435456 : Int) ≤ (V.size : Int) := by omega
      have HR := Lib.hid (fun w => r10enc_any V (by omega) w)
      rw [tV] at HR
      have hel := enc_len T[k] (by omega)
      have sC : C.size ≤ 13 * V.size := by rw [hC, ofL_size, sV]; exact hel
      have HN2 := Lib.hid (HN (by omega))
      have HS : Hid (∀ (w' : World) (b : Nat) (v : Value), w'.ownsRow b 5 1 v (enc T[k]).length (bvs (enc T[k])) → (Go.convert 31 9 v).run Tryd.prog w' = .ok (.string C) w') := Lib.hid (fun w' b v h => by rw [hC]; exact own_string (P := Tryd.prog) h 31 9 Tryd.underlying31 Tryd.underlying5 Tryd.underlying9)
      have q2 : (C.toList == C.toList) = true := beq_self_eq_true _
      have q3 : (C.toList != C.toList) = false := by rw [bne, q2]; rfl
      have z1 : A.size + C.size ≤ 9223372036854775807 := by omega
      have z2 : B.size + V.size ≤ 9223372036854775807 := by omega
      have z3 : (B ++ V).size ≤ lim := by unfold lim; rw [ByteArray.size_append]; omega
      have zB : Hid ((B.size : Int) ≤ 140737488351232) := Lib.hid (by omega)
      replace z3 := Lib.hid z3
      have hbd : decide ((100000 : Int) < (B.size : Int)) = false := decide_eq_false hbi
      have htd : decide ((268435456 : Int) ≤ (V.size : Int)) = false := decide_eq_false hti
      clear hcell HI hW hV tV HN hC hel hsz hb ht8 hbw sV htk hB sC hbi hti
      go_wp2_with fail
      refine HE.out.mono ?_
      rintro e w2 ⟨rfl, hb2⟩
      have HB2 := Lib.hid (below_chain HB.out hb2)
      clear hb2 HE d1 HB
      go_wp2_with fail
      refine (HR.out _).mono ?_
      rintro e w3 ⟨v2, rfl, hrow, hb3⟩
      have hconv := HS.out _ _ _ hrow
      have HJ : Hid (Wr (T.take (k + 1)) (A ++ C) (B ++ V) ∧ Below w.heap.size w w3 ∧ (B ++ V).size ≤ lim) := Lib.hid ⟨HN2.out, below_chain HB2.out hb3, z3.out⟩
      clear hrow hb3 HR HS HN2 HB2 z3
      go_wp2_with fail
      go_roundw
      case rel => exact ⟨k + 1, A ++ C, B ++ V, by omega, by go_num, rfl, rfl, HJ⟩
      case measure => simp [intOf]; omega
    · have hki : ¬ (k : Int) < (T.length : Int) := by omega
      obtain ⟨hW, hbw, hB⟩ := HI.out
      unfold lim at hB
      rw [List.take_of_length_le (by omega)] at hW
      have hsz := hW.size
      obtain ⟨Lt, hLt⟩ : ∃ Lt, Lt = ofL lastL := ⟨_, rfl⟩
      have HL := Lib.hid (fun w => plast_any w)
      rw [← hLt] at HL
      have HB := Lib.hid hbw
      have hsm : ∀ t ∈ T, t.length < 4294967296 := fun t ht => by have := hW.small t ht; omega
      have hback := back_say T (toL tail) hsm
      obtain ⟨S, hS⟩ : ∃ S, A ++ Lt = S := ⟨_, rfl⟩
      have tS : toL S = T.flatMap enc ++ lastL := by rw [← hS, toL_append, hLt, toL_ofL, hW.enc_]
      have tR : toL (S ++ tail) = T.flatMap enc ++ lastL ++ toL tail := by rw [toL_append, tS]
      have lS : S.size = (T.flatMap enc ++ lastL).length := by rw [← toL_length, tS]
      have lB : (B.size : Int) = (T.flatten.length : Int) := by rw [← toL_length, hW.body]
      rw [← tR, ← lS] at hback
      have tB : ofL T.flatten = B := by rw [← hW.body]; exact ofL_toL B
      have hover : 0 < B.size → (ans (begin_ ((B.size : Int) - 1)) (toL S)).2.2.2 = 101 := fun h => by
        have h0 : B.size = T.flatten.length := by omega
        have := over_say T lastL hsm (by omega)
        rw [tS, lB]
        exact this
      rw [← lB] at hback
      have lL : Lt.size = 5 := by rw [hLt, ofL_size]; rfl
      have sS : S.size = A.size + 5 := by rw [← hS, ByteArray.size_append, lL]
      have z1 : A.size + Lt.size ≤ 9223372036854775807 := by omega
      have z2 : (S ++ tail).size ≤ 211106232532992 := by rw [ByteArray.size_append]; omega
      have z3 : S.size ≤ 211106232532992 := by omega
      have z4 : S.size + tail.size ≤ 9223372036854775807 := by omega
      have z5 : (B.size : Int) ≤ 268535456 := by omega
      replace z2 := Lib.hid z2
      have zB : Hid ((B.size : Int) ≤ 140737488351232) := Lib.hid (by omega)
      replace z3 := Lib.hid z3
      replace hback := Lib.hid hback
      replace hover := Lib.hid hover
      replace tB := Lib.hid tB
      replace hS := Lib.hid hS
      replace hLt := Lib.hid hLt
      clear hW hbw hsz hsm tS tR lS lB lL sS HI hB hcl hT
      go_wp2_with fail
      refine (HL.out _).mono ?_
      rintro e w2 ⟨rfl, hb2⟩
      have HB2 := Lib.hid (below_chain HB.out hb2)
      have HN := Lib.hid (pnew_any (B.size : Int) (by unfold ChObj.InR; have := zB.out; omega) w2 (HM.out.below HB2.out))
      clear hb2 HB
      go_wp2_with fail
      rw [hS.out]
      refine HN.out.mono ?_
      rintro e w3 ⟨⟨g, F, rfl, hD, hlo⟩, hb⟩
      have P := Lib.hid (DB.new hD hlo hb HB2.out)
      have HF := Lib.hid (P.out.feed (S ++ tail) z2.out (.inr zB.out) (Ok.start _) HM.out)
      rw [hback.out] at HF
      unfold ansV at HF
      dsimp only at HF
      rw [tB.out] at HF
      clear HN hD hlo hb HB2
      go_wp2_with fail
      refine HF.out.mono ?_
      rintro e w4 ⟨rfl, F4, P4⟩
      have q1 : (B.toList == B.toList) = true := beq_self_eq_true _
      have q2 : ((S.size : Int) == (S.size : Int)) = true := beq_self_eq_true _
      by_cases h0 : 0 < B.size
      · have h0i : (0 : Int) < (B.size : Int) := by omega
        have HN2 := Lib.hid (pnew_any ((B.size : Int) - 1) (by unfold ChObj.InR; have := zB.out; omega) w4 (HM.out.below P4.below))
        have HB4 := Lib.hid P4.below
        have hov := Lib.hid (hover.out h0)
        clear HF P P4 h0 hover hback z4 z1 hS hLt HL
        go_wp2_with fail
        refine HN2.out.mono ?_
        rintro e w5 ⟨⟨g2, F2, rfl, hD, hlo⟩, hb⟩
        have P := Lib.hid (DB.new hD hlo hb HB4.out)
        have HF := Lib.hid (P.out.feed S z3.out (.inr (Int.le_trans (by show (B.size : Int) - 1 ≤ (B.size : Int); omega) zB.out)) (Ok.start _) HM.out)
        generalize ans (begin_ ((B.size : Int) - 1)) (toL S) = r at *
        obtain ⟨r1, r2, r3, r4⟩ := r
        obtain rfl : r4 = 101 := hov.out
        unfold ansV at HF
        dsimp only at HF
        clear HN2 hD hlo hb HB4 hov P
        go_wp2_with fail
        refine HF.out.mono ?_
        rintro e w6 ⟨rfl, F6, P6⟩
        have HB6 := Lib.hid P6.below
        clear HF P6
        go_wp2_with fail
        go_ret
        exact ⟨rfl, HB6.out⟩
      · have h0i : (B.size : Int) = 0 := by omega
        have HB4 := Lib.hid P4.below
        have hl : Lt.toList = [48, 13, 10, 13, 10] := by rw [hLt.out, ByteArray.toList_eq]; rfl
        have q3 : (Lt.toList == [48, 13, 10, 13, 10]) = true := by rw [hl]; rfl
        clear HF P P4 h0 hover hback z4 z1 hS hLt hl
        go_wp2_with fail
        refine (HL.out _).mono ?_
        rintro e w5 ⟨rfl, hb5⟩
        have HB5 := Lib.hid (below_chain HB4.out hb5)
        clear hb5 HB4 HL
        go_wp2_with fail
        go_ret
        exact ⟨rfl, HB5.out⟩
theorem walk {H : Type} {enc : TypeId × Value → H} {W : World} {base : Nat} (v : Value) (d : DataW H) (p : List MemPlace) (hv : Value.okWide Tryd.prog W .any base 29 v)
    (hd : DataW.Trod enc Tryd.prog W 0 (fun _ => true) true 29 v d p) (_hl : ∀ x ∈ p, x.block < W.heap.size) (hb : (d.weights Tryd.prog 29).all (· ≤ reachBytes) = true) (tail : ByteArray) (_w : tail.size ≤ maxLen) (ht : tail.size ≤ 140737488351232) (hsh : W.ShapedOpen Tryd.prog) (hlaid : laidMetH Tryd.prog Rows.chunkBackRow.laid W) :
    Calls Tryd.prog 4 #[v, .string tail] W fun e w' => e = .returned (.bool true) ∧ Below W.heap.size W w' := by
  obtain ⟨T, hT, hlen, _⟩ := texts_reach hv hd hb
  exact walkIn v T hlen tail ht W hT (Fit.of_shape hsh) (TabLaid.tab_of_laid hlaid)
end Go.Proofs.YtlgohmghjffiaaaDoor.ChunkBackW
