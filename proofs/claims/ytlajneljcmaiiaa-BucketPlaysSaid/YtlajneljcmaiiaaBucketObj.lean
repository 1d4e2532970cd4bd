/- Layer 3's bucket: what each call of the program's does to its state. -/
import Derived.Test.YtlajneljcmaiiaaBucketPure
import Derived.Test.YtlajneljcmaiiaaMem
import Derived.Test.YtlajneljcmaiiaaLawBase
import Derived.Lib.Hide
import Derived.Deep.QuietTactic
import Derived.BigQuiet
namespace Go.Proofs.Ytlajneljcmaiiaa.BucketObj
open Go.ChangeShapes Go.WideShapes Go.ChangeAt Go.RowKit BucketPure Mem

/-- block g is the bucket b -/
def Bk (w : World) (g : Nat) (t : TypeId) (b : B) : Prop := Has w g t #[.int .i64 b.most, .int .i64 b.fill, .int .i64 b.every, .int .i64 b.tokens, .int .i64 b.filled, .int .i64 b.told]

theorem bounded_any (n : Int) (w : World) :
    Calls Try.prog 17 #[.int .i64 n] w fun e w' => e = .returned (.bool (fits n)) ∧ w = w' := by
  unfold fits
  by_cases h1 : 1 ≤ n
  · by_cases h2 : n ≤ 1073741824
    · rw [decide_eq_true ⟨h1, h2⟩]
      go_enter Try.func17, Try.ntmps17
      go_wp2_with fail
      go_ret
      exact ⟨rfl, rfl⟩
    · rw [decide_eq_false (by omega)]
      go_enter Try.func17, Try.ntmps17
      go_wp2_with fail
      go_ret
      exact ⟨rfl, rfl⟩
  · rw [decide_eq_false (by omega)]
    go_enter Try.func17, Try.ntmps17
    go_wp2_with fail
    go_ret
    exact ⟨rfl, rfl⟩
theorem missing_any (g : Nat) (b : B) (n : Int) (hf1 : 1 ≤ b.fill) (hf2 : b.fill ≤ 1073741824) (ht1 : 0 ≤ b.tokens) (hn1 : b.tokens ≤ n) (hn2 : n ≤ 1073741824) (w : World) (h : Bk w g 51 b) :
    Calls Try.prog 20 #[.pointer (some ⟨g, 0, none⟩), .int .i64 n] w fun e w' => e = .returned (.int .i64 (missing b n)) ∧ ∃ m, w' = w.drewN m := by
  have c1 := h.cell 1
  have c3 := h.cell 3
  have hz : ¬ b.fill = 0 := by omega
  have hq : (n - b.tokens + b.fill - 1) / b.fill ≤ n - b.tokens := (missing_bd hf1 hn1).2
  have hq0 : 0 ≤ (n - b.tokens + b.fill - 1) / b.fill := (missing_bd hf1 hn1).1
  go_enter Try.func20, Try.ntmps20
  go_wp2_with fail
  go_quiet (fail)
  go_wp2_with fail
  go_ret
  exact ⟨rfl, _, rfl⟩
/-- is a time refused? -/
def late (b : B) (now : Int) : Prop := now < b.told ∨ 1099511627776 < now
instance (b : B) (now : Int) : Decidable (late b now) := by unfold late; infer_instance
def passE (b : B) (now : Int) : Int := if late b now then 20 else 0
def passB (b : B) (now : Int) : B := if late b now then b else pass b now
theorem passB_ok {b : B} (h : Ok b) (now : Int) : Ok (passB b now) := by
  unfold passB
  split
  · exact h
  · rename_i hl
    unfold late at hl
    exact pass_ok h (by omega) (by omega)
theorem pass_any (g : Nat) (b : B) (now : Int) (ok : Ok b) (w : World) (h : Bk w g 51 b) :
    Calls Try.prog 18 #[.pointer (some ⟨g, 0, none⟩), .int .i64 now] w fun e w' => e = .returned (.int .i64 (passE b now)) ∧ Bk w' g 51 (passB b now) ∧ w.grownBy w' (some g) := by
  have c0 := h.cell 0
  have c1 := h.cell 1
  have c2 := h.cell 2
  have c3 := h.cell 3
  have c4 := h.cell 4
  have c5 := h.cell 5
  have f0 := h.free 0
  have f3 := h.free 3
  have f4 := h.free 4
  have f5 := h.free 5
  unfold passE passB
  by_cases hl : late b now
  · rw [if_pos hl, if_pos hl]
    have hx : now < b.told ∨ (¬ now < b.told ∧ 1099511627776 < now) := by unfold late at hl; omega
    clear hl
    rcases hx with hx | ⟨h1, hx⟩
    all_goals
      go_enter Try.func18, Try.ntmps18
      go_wp2_with fail
      go_ret
      exact ⟨rfl, h, World.grownBy.refl w _⟩
  · rw [if_neg hl, if_neg hl]
    have h1 : ¬ now < b.told := by unfold late at hl; omega
    have h2 : ¬ 1099511627776 < now := by unfold late at hl; omega
    clear hl
    have hl1 := ok.l1
    have hl2 := ok.l2
    have he1 := ok.e1
    have hz : ¬ b.every = 0 := by omega
    have hk0 : 0 ≤ (now - b.filled) / b.every := fillings_nonneg he1 (by omega)
    have hk1 : (now - b.filled) / b.every ≤ now - b.filled := fillings_le (by omega)
    have hs := fillings_spec he1 now
    have hP : pass b now = after b ((now - b.filled) / b.every) now := rfl
    unfold fillings at hs
    have HP := Lib.hid hP
    have HS := Lib.hid hs
    clear hP hs
    go_enter Try.func18, Try.ntmps18
    go_wp2_with fail
    have H1 : Bk (w.setCell ⟨g, 5, none⟩ (.int .i64 now)) g 51 { b with told := now } := h.set_ 5 _
    have G1 := own_set (World.grownBy.refl w (some g)) 5 (.int .i64 now)
    clear c0 c1 c2 c3 c4 c5 f0 f3 f4 f5 h
    generalize (w.setCell _ _) = w1 at *
    have c2 := H1.cell 2
    have c4 := H1.cell 4
    go_quiet (fail)
    have G2 := own_drewN G1 nq
    have H2 := H1.drewN nq
    clear H1 G1 c2 c4
    generalize (w1.drewN nq) = w2 at *
    have HK := Lib.hid hk1
    generalize (now - b.filled) / b.every = k at *
    have hs : k * b.every ≤ now - b.filled := HS.out.1
    have hs0 : 0 ≤ k * b.every := Int.mul_nonneg hk0 (by omega)
    have c2 := H2.cell 2
    have c4 := H2.cell 4
    have f4 := H2.free 4
    go_wp2_with fail
    go_region
    have H3 : Bk (w2.setCell ⟨g, 4, none⟩ (.int .i64 (b.filled + k * b.every))).drew g 51 { b with filled := b.filled + k * b.every, told := now } := (H2.set_ 4 _).drew
    have G3 := own_drew (own_set G2 4 (.int .i64 (b.filled + k * b.every)))
    clear c2 c4 f4 H2 G2
    generalize (w2.setCell _ _).drew = w3 at *
    have c0 := H3.cell 0
    have hm : missing { b with filled := b.filled + k * b.every, told := now } b.most = missing b b.most := rfl
    have hi := missing_iff ok.f1 b.most k
    have HI := Lib.hid hi
    have HM := Lib.hid hm
    clear hi hm hs0 hs hk1 hl1 hl2 hz he1 h2 h1
    go_wp2_with fail
    refine (missing_any g { b with filled := b.filled + k * b.every, told := now } _ ok.f1 ok.f2 ok.t1 ok.t2 ok.m2 _ H3).mono ?_
    rintro e w' ⟨rfl, nq, rfl⟩
    rw [HM.out]
    have G4 := own_drewN G3 nq
    have H4 := H3.drewN nq
    clear H3 G3 c0
    generalize (w3.drewN nq) = w4 at *
    have c0 := H4.cell 0
    have c1 := H4.cell 1
    have c3 := H4.cell 3
    have f3 := H4.free 3
    have hT := ok.t1
    have hM := ok.m2
    by_cases hc : missing b b.most ≤ k
    · have hx := HI.out.1 hc
      have e : pass b now = { b with tokens := b.most, filled := b.filled + k * b.every, told := now } := by
        rw [HP.out]
        unfold after
        congr 1
        omega
      have HE := Lib.hid e
      clear e hx
      go_wp2_with fail
      go_ret
      rw [HE.out]
      exact ⟨rfl, H4.set_ 3 _, own_set G4 3 _⟩
    · have hx : ¬ b.most ≤ b.tokens + k * b.fill := fun h => hc (HI.out.2 h)
      have hy : b.tokens + k * b.fill < b.most := by omega
      have hk : 0 ≤ k * b.fill := Int.mul_nonneg hk0 (by have := ok.f1; omega)
      have e : pass b now = { b with tokens := b.tokens + k * b.fill, filled := b.filled + k * b.every, told := now } := by
        rw [HP.out]
        unfold after
        congr 1
        omega
      have HE := Lib.hid e
      clear e hx
      go_wp2_with fail
      go_region
      go_wp2_with fail
      go_ret
      rw [HE.out]
      exact ⟨rfl, (H4.set_ 3 _).drew, own_drew (own_set G4 3 _)⟩
end Go.Proofs.Ytlajneljcmaiiaa.BucketObj
