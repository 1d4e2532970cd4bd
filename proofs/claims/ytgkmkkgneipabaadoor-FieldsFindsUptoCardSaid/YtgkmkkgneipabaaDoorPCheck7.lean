/- Layer 7 of the program: Check. -/
import Derived.Test.YtgkmkkgneipabaaDoorPFindF
import Derived.Test.YtgkmkkgneipabaaDoorPToken
import Derived.Test.YtgkmkkgneipabaaDoorPText
import Derived.IntWalk
namespace Go.Proofs.YtgkmkkgneipabaaDoor.PCheck7
open Go.ChangeShapes Go.WideShapes Go.ChangeAt Go.RowKit LexPure Bytes Ret Rows1 FieldsPure Flds R7Get R7Remove PFindF PToken PText Mem Go.Shelf
set_option maxRecDepth 20000
set_option maxHeartbeats 1600000 in
theorem pwrong_any (a b : ByteArray) (ha : a.size ≤ 1048576) (hb : b.size ≤ 1048576) (w : World) :
    Calls Tryd.prog 30 #[.agg #[.string a, .string b]] w fun e w' => e = .returned (.bool (!right (toL a, toL b))) ∧ Below w.heap.size w w' := by
  have HTk := Lib.hid (fun w => ptoken_any a (by unfold maxLen; omega) w)
  have HVl := Lib.hid (fun w => pvalue_any b (by unfold maxLen; omega) w)
  have hsum : IntKind.i64.wrap ((a.size : Int) + (b.size : Int)) = (a.size : Int) + (b.size : Int) := IntWalk.i64_in _ (by omega)
  have hr : right (toL a, toL b) = (token (toL a) && value (toL b) && decide (a.size + b.size ≤ 512)) := by
    unfold right
    rw [toL_length, toL_length]
  rw [hr]
  clear hr
  have hbox := (Has.new w 38 #[.string a, .string b]).cell
  have d0 := hbox 0
  have d1 := hbox 1
  have HB := Lib.hid ((Below.refl w.heap.size w).alloc (Nat.le_refl _) (.cells #[.string a, .string b] 38))
  have hsz : w.heap.size < (w.alloc (.cells #[.string a, .string b] 38)).heap.size := by simp
  clear hbox
  go_enter Tryd.func30, Tryd.ntmps30
  cases h1 : token (toL a)
  · rw [h1] at HTk
    go_wp2_with fail
    refine (HTk.out _).mono ?_
    rintro e w2 ⟨rfl, rfl⟩
    go_wp2_with fail
    go_ret
    exact ⟨rfl, HB.out⟩
  · rw [h1] at HTk
    go_wp2_with fail
    refine (HTk.out _).mono ?_
    rintro e w2 ⟨rfl, rfl⟩
    cases h2 : value (toL b)
    · rw [h2] at HVl
      go_wp2_with fail
      refine (HVl.out _).mono ?_
      rintro e w3 ⟨rfl, hb3⟩
      have HB3 := Lib.hid (below_chain HB.out hb3)
      clear hb3
      go_wp2_with fail
      go_ret
      exact ⟨ret_bool (by rw [h2]; rfl), HB3.out⟩
    · rw [h2] at HVl
      go_wp2_with fail
      refine (HVl.out _).mono ?_
      rintro e w3 ⟨rfl, hb3⟩
      have HB3 := Lib.hid (below_chain HB.out hb3)
      have e0 := (hb3.cell (p := ⟨w.heap.size, 0, none⟩) hsz).trans d0
      have e1 := (hb3.cell (p := ⟨w.heap.size, 1, none⟩) hsz).trans d1
      clear hb3
      by_cases h3 : a.size + b.size ≤ 512
      · have h4 : decide ((512 : Int) < (a.size : Int) + (b.size : Int)) = false := decide_eq_false (by omega)
        have h5 : Hid ((!(true && value (toL b) && decide (a.size + b.size ≤ 512))) = false) := Lib.hid (by rw [h2, decide_eq_true h3]; rfl)
        clear h3 h2 h1
        go_wp2_with fail
        go_ret
        exact ⟨ret_bool h5.out.symm, HB3.out⟩
      · have h4 : decide ((512 : Int) < (a.size : Int) + (b.size : Int)) = true := decide_eq_true (by omega)
        have h5 : Hid ((!(true && value (toL b) && decide (a.size + b.size ≤ 512))) = true) := Lib.hid (by rw [h2, decide_eq_false h3]; rfl)
        clear h3 h2 h1
        go_wp2_with fail
        go_ret
        exact ⟨ret_bool h5.out.symm, HB3.out⟩
set_option maxHeartbeats 1600000 in
theorem pcheck_any (v : Value) (G : List HField) (hG : Few G) (hle2 : G.length ≤ 1048576) (w : World) (hF : FL w v G) :
    Calls Tryd.prog 12 #[v] w fun e w' => e = .returned (.int .i64 (check G)) ∧ Below w.heap.size w w' := by
  have HC := Lib.hid (contains_any 30 (enters_of Tryd.func30 (by kernel_rfl) rfl) (fun f => !right f) v G (by omega) w hF (fun j hj W hW => by
    have h := pwrong_any (ofL G[j].1) (ofL G[j].2) (by rw [ofL_size]; exact (hG j hj).1) (by rw [ofL_size]; exact (hG j hj).2) W
    rw [toL_ofL, toL_ofL] at h
    exact h))
  obtain ⟨p, cap, rfl, hle, hc⟩ := hF
  have hany : G.any (fun f => !right f) = !G.all right := by
    rw [List.not_all_eq_any_not]
  have hck : check G = if G.all right then (if G.length ≤ 32 then 0 else 71) else 70 := rfl
  rw [hany] at HC
  rw [hck]
  clear hc hG hany hck
  generalize G.all right = b at *
  generalize hn : G.length = n at *
  clear hn
  go_enter Tryd.func12, Tryd.ntmps12
  cases b
  · go_wp2_with fail
    refine HC.out.mono ?_
    rintro e w2 ⟨rfl, hb2⟩
    have HB := Lib.hid hb2
    clear hb2
    go_wp2_with fail
    go_ret
    exact ⟨rfl, HB.out⟩
  · by_cases h : n ≤ 32
    · have h2 : ¬ ((32 : Int) < (n : Int)) := by omega
      rw [if_pos rfl, if_pos h]
      go_wp2_with fail
      refine HC.out.mono ?_
      rintro e w2 ⟨rfl, hb2⟩
      have HB := Lib.hid hb2
      clear hb2
      go_wp2_with fail
      go_ret
      exact ⟨rfl, HB.out⟩
    · have h2 : (32 : Int) < (n : Int) := by omega
      rw [if_pos rfl, if_neg h]
      go_wp2_with fail
      refine HC.out.mono ?_
      rintro e w2 ⟨rfl, hb2⟩
      have HB := Lib.hid hb2
      clear hb2
      go_wp2_with fail
      go_ret
      exact ⟨rfl, HB.out⟩
end Go.Proofs.YtgkmkkgneipabaaDoor.PCheck7
