/- Layer 5, the document's own Under. -/
import Derived.Test.YtlhpjinajaociaaDoorPathPure
import Derived.Test.YtlhpjinajaociaaDoorLawBase
import Derived.Test.YtlhpjinajaociaaDoorRet
import Derived.Lib.Hide
import Derived.Below
import Derived.Outline
import Derived.Laws.DeepStrings4
namespace Go.Proofs.YtlhpjinajaociaaDoor.RUnder
open Go.ChangeShapes Go.WideShapes Go.ChangeAt Go.RowKit LexPure Bytes Ret PathPure
theorem slash_true {c : UInt8} : ((c.toNat : Int) == 47) = (c == 47) := by
  have := all_bytes (p := fun b => (((b.toNat : Int) == 47) == (b == 47))) (by decide +kernel) c
  rwa [beq_iff_eq] at this
theorem runder_any (p q : ByteArray) (hq : q.size ≤ 140737488355328) (w : World) :
    Calls Tryd.prog 18 #[.string p, .string q] w fun e w' => e = .returned (.bool (under (toL p) (toL q))) ∧ w = w' := by
  by_cases hl : p.size < q.size
  · have hli : (p.size : Int) < (q.size : Int) := by omega
    have hv : under (toL p) (toL q) = false := by
      unfold under
      rw [Bool.and_eq_false_iff]
      left
      rw [beq_eq_false_iff_ne]
      intro h
      have := congrArg List.length h
      rw [List.length_take, toL_length, toL_length] at this
      omega
    rw [hv]
    clear hv
    go_enter Tryd.func18, Tryd.ntmps18
    go_wp2_with fail
    go_ret
    exact ⟨rfl, rfl⟩
  · have hli : ¬ (p.size : Int) < (q.size : Int) := by omega
    have hli2 : (q.size : Int) ≤ (p.size : Int) := by omega
    have hE : (p.extract 0 q.size).toList = (toL p).take q.size := by
      rw [ByteArray.toList_eq]
      have := toL_extract p 0 q.size
      rw [List.drop_zero] at this
      exact this
    have hQ : q.toList = toL q := ByteArray.toList_eq q
    by_cases hpre : (toL p).take q.size = toL q
    · have ht : ((p.extract 0 q.size).toList == q.toList) = true := by rw [hE, hQ, hpre]; exact beq_self_eq_true _
      have hu : under (toL p) (toL q) = (((p.size : Int) == (q.size : Int)) || ((toL p)[q.size]? == some 47) || ((toL q).getLast? == some 47)) := by
        unfold under
        rw [toL_length, toL_length, hpre, beq_self_eq_true, Bool.true_and]
        congr 2
        rw [Bool.eq_iff_iff, beq_iff_eq, beq_iff_eq]
        omega
      have HU := Lib.hid hu
      by_cases hs : p.size = q.size
      · have hsi : ((p.size : Int) == (q.size : Int)) = true := by rw [hs]; exact beq_self_eq_true _
        have HV : Hid (under (toL p) (toL q) = true) := Lib.hid (by rw [hu, hsi]; rfl)
        clear hE hQ hpre hu HU
        go_enter Tryd.func18, Tryd.ntmps18
        go_wp2_with fail
        go_ret
        exact ⟨ret_bool HV.out.symm, rfl⟩
      · have hsi : ((p.size : Int) == (q.size : Int)) = false := beq_eq_false_iff_ne.2 (by omega)
        have hlt : q.size < p.size := by omega
        have hlti : (q.size : Int) < (p.size : Int) := by omega
        have hg := toL_get p q.size hlt
        by_cases h47 : p[q.size] = 47
        · have hq1 : ((p[q.size].toNat : Int) == 47) = true := by rw [slash_true, h47]; rfl
          have HV : Hid (under (toL p) (toL q) = true) := Lib.hid (by rw [hu, hg, h47]; simp)
          clear hE hQ hpre hu HU hg h47
          go_enter Tryd.func18, Tryd.ntmps18
          go_wp2_with fail
          go_ret
          exact ⟨ret_bool HV.out.symm, rfl⟩
        · have hq1 : ((p[q.size].toNat : Int) == 47) = false := by rw [slash_true, beq_eq_false_iff_ne]; exact h47
          have hg2 : ((toL p)[q.size]? == some 47) = false := by
            rw [hg, beq_eq_false_iff_ne]
            intro h
            injection h with h
            exact h47 h
          by_cases h0 : q.size = 0
          · have hqn : toL q = [] := List.length_eq_zero_iff.1 (by rw [toL_length]; exact h0)
            have HV : Hid (under (toL p) (toL q) = false) := Lib.hid (by rw [hu, hsi, hg2, hqn]; rfl)
            have hz : ¬ 0 < (q.size : Int) := by omega
            clear hE hQ hpre hu HU hg h47 hg2 hqn h0
            go_enter Tryd.func18, Tryd.ntmps18
            go_wp2_with fail
            go_ret
            exact ⟨ret_bool HV.out.symm, rfl⟩
          · obtain ⟨j, hj⟩ : ∃ j, q.size = j + 1 := ⟨q.size - 1, by omega⟩
            have hz : 0 < (q.size : Int) := by omega
            have hz2 : (0 : Int) < (j : Int) + 1 := by omega
            have ht2 : ((p.extract 0 (j + 1)).toList == q.toList) = true := by rw [← hj]; exact ht
            have hsi2 : ((p.size : Int) == (j : Int) + 1) = false := beq_eq_false_iff_ne.2 (by omega)
            have hl3 : ¬ (p.size : Int) < (j : Int) + 1 := by omega
            have hq3 : (((p[j + 1]'(by omega)).toNat : Int) == 47) = false := by
              have h := hg2
              rw [hj, toL_get p (j + 1) (by omega)] at h
              rw [slash_true, beq_eq_false_iff_ne]
              intro h2
              rw [h2] at h
              exact absurd h (by decide)
            have hlast : (toL q).getLast? = some (q[j]'(by omega)) := by
              rw [List.getLast?_eq_getElem?, toL_length, show q.size - 1 = j by omega]
              exact toL_get q j (by omega)
            by_cases hj47 : (q[j]'(by omega)) = 47
            · have hq2 : (((q[j]'(by omega)).toNat : Int) == 47) = true := by rw [slash_true, hj47]; rfl
              have HV : Hid (under (toL p) (toL q) = true) := Lib.hid (by rw [hu, hlast, hj47]; simp)
              clear hE hQ hpre hu HU hg h47 hg2 hlast hj47
              go_enter Tryd.func18, Tryd.ntmps18
              go_wp2_with fail
              go_ret
              exact ⟨ret_bool HV.out.symm, rfl⟩
            · have hq2 : (((q[j]'(by omega)).toNat : Int) == 47) = false := by rw [slash_true, beq_eq_false_iff_ne]; exact hj47
              have HV : Hid (under (toL p) (toL q) = false) := Lib.hid (by
                rw [hu, hsi, hg2, hlast]
                have : (some (q[j]'(by omega)) == some (47 : UInt8)) = false := by
                  rw [beq_eq_false_iff_ne]
                  intro h
                  injection h with h
                  exact hj47 h
                rw [this]
                rfl)
              clear hE hQ hpre hu HU hg h47 hg2 hlast hj47
              go_enter Tryd.func18, Tryd.ntmps18
              go_wp2_with fail
              go_ret
              exact ⟨ret_bool HV.out.symm, rfl⟩
    · have ht : ((p.extract 0 q.size).toList == q.toList) = false := by rw [hE, hQ, beq_eq_false_iff_ne]; exact hpre
      have HV : Hid (under (toL p) (toL q) = false) := Lib.hid (by
        unfold under
        rw [toL_length, Bool.and_eq_false_iff]
        left
        rw [beq_eq_false_iff_ne]
        exact hpre)
      clear hE hQ hpre
      go_enter Tryd.func18, Tryd.ntmps18
      go_wp2_with fail
      go_ret
      exact ⟨ret_bool HV.out.symm, rfl⟩
end Go.Proofs.YtlhpjinajaociaaDoor.RUnder
