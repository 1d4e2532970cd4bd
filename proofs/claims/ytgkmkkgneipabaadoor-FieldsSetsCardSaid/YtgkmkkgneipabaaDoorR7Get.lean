/- Layer 7, the document's own Get. -/
import Derived.Test.YtgkmkkgneipabaaDoorFlds
import Derived.Test.YtgkmkkgneipabaaDoorRAlike7
import Derived.Outline
import Derived.LoopTactic
import Derived.Handy
namespace Go.Proofs.YtgkmkkgneipabaaDoor.R7Get
open Go.ChangeShapes Go.WideShapes Go.ChangeAt Go.RowKit LexPure Bytes Ret FieldsPure Flds RAlike7 Mem
set_option maxRecDepth 20000
theorem getV_cons (f : HField) (l : List HField) (n : List UInt8) : getV (f :: l) n = if hit n f then f.2 else getV l n := by
  unfold getV
  rw [List.find?_cons]
  cases hit n f <;> rfl
theorem getN_cons (f : HField) (l : List HField) (n : List UInt8) : getN (f :: l) n = if hit n f then getN l n + 1 else getN l n := by
  unfold getN
  rw [List.countP_cons]
  cases hit n f <;> simp
/-- every name and value has so many bytes at most -/
def Few (G : List HField) : Prop := ∀ (j : Nat) (h : j < G.length), G[j].1.length ≤ 1048576 ∧ G[j].2.length ≤ 1048576
set_option maxHeartbeats 1600000 in
theorem rget_any (v : Value) (G : List HField) (n : ByteArray) (hn : n.size ≤ 1048576) (hG : Few G) (w : World) (hF : FL w v G) :
    Calls Tryd.prog 11 #[v, .string n] w fun e w' => e = .returned (.tuple #[.string (ofL (getV G (toL n))), .int .i64 (getN G (toL n))]) ∧ Below w.heap.size w w' := by
  obtain ⟨p, cap, rfl, hle, hc⟩ := hF
  replace hc := Lib.hid hc
  replace hG := Lib.hid hG
  go_enter Tryd.func11, Tryd.ntmps11
  go_wp2_with fail
  have HB0 := Lib.hid (Below.refl w.heap.size w)
  have HS : Hid (G.drop G.length = []) := Lib.hid List.drop_length
  go_loopw [6, 7, 8] (fun x c i wr => ∃ k : Nat, k ≤ G.length ∧ i = .int .i64 ((k : Int) - 1) ∧ x = .string (ofL (getV (G.drop k) (toL n))) ∧ c = .int .i64 (getN (G.drop k) (toL n) : Nat) ∧ Hid (Below w.heap.size w wr)) (fun _ _ i _ => (intOf i + 1).toNat)
  case atStart => exact ⟨G.length, Nat.le_refl _, rfl, by rw [HS.out]; rfl, by rw [HS.out]; rfl, HB0⟩
  case round =>
    obtain ⟨k, hk, rfl, rfl, rfl, HB⟩ := hrel
    clear HB0 HS
    cases k with
    | zero =>
      rw [List.drop_zero]
      go_wp2_with fail
      go_ret2
      exact ⟨rfl, HB.out⟩
    | succ j =>
      have hj : j < G.length := by omega
      obtain ⟨g, o, rfl, hlt, hcell⟩ := hc.out (by omega)
      obtain ⟨c1, c2⟩ := hcell j hj
      replace c1 := (HB.out.cell (p := ⟨g, o + j * 2, none⟩) hlt).trans c1
      replace c2 := (HB.out.cell (p := ⟨g, o + j * 2 + 1, none⟩) hlt).trans c2
      have hji : (j : Int) < (G.length : Int) := by omega
      obtain ⟨s1, s2⟩ := hG.out j hj
      have HA := Lib.hid (fun w => ralike7_any (ofL G[j].1) n (by rw [ofL_size]; omega) (by omega) w)
      rw [toL_ofL] at HA
      have HV := Lib.hid (getV_cons G[j] (G.drop (j + 1)) (toL n))
      have HN := Lib.hid (getN_cons G[j] (G.drop (j + 1)) (toL n))
      rw [← List.drop_eq_getElem_cons hj] at HV HN
      have hcn : (getN (G.drop (j + 1)) (toL n) : Int) ≤ 4398046511104 := by
        have := List.countP_le_length (p := hit (toL n)) (l := G.drop (j + 1))
        rw [List.length_drop] at this
        unfold getN
        omega
      rw [show (((j + 1 : Nat) : Int) - 1) = (j : Int) by omega]
      have hpos : (0 : Int) ≤ (j : Int) := by omega
      clear hcell
      cases hh : hit (toL n) G[j]
      · rw [hh] at HV HN
        rw [show alike G[j].1 (toL n) = false from hh] at HA
        clear hh
        go_wp2_with fail
        refine (HA.out _).mono ?_
        rintro e w2 ⟨rfl, hb2⟩
        have HB2 := Lib.hid (below_chain HB.out hb2)
        clear hb2 c1 c2
        go_wp2_with fail
        go_roundw
        case rel => exact ⟨j, by omega, rfl, by rw [HV.out]; rfl, by rw [HN.out]; rfl, HB2⟩
        case measure => simp [intOf]
      · rw [hh] at HV HN
        rw [show alike G[j].1 (toL n) = true from hh] at HA
        clear hh
        have hlt2 := Nat.lt_of_lt_of_le hlt HB.out.size
        go_wp2_with fail
        refine (HA.out _).mono ?_
        rintro e w2 ⟨rfl, hb2⟩
        have HB2 := Lib.hid (below_chain HB.out hb2)
        replace c2 := (hb2.cell (p := ⟨g, o + j * 2 + 1, none⟩) hlt2).trans c2
        clear hb2 c1
        go_wp2_with fail
        go_roundw
        case rel => exact ⟨j, by omega, rfl, by rw [HV.out]; rfl, by rw [HN.out]; push_cast; rfl, HB2⟩
        case measure => simp [intOf]
end Go.Proofs.YtgkmkkgneipabaaDoor.R7Get
