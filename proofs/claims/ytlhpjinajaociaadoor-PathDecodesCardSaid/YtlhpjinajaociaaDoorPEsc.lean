/- Layer 5 of the program: what one round of its loops over a text takes off the front. No program is named. -/
import Derived.Test.YtlhpjinajaociaaDoorPathPure
namespace Go.Proofs.YtlhpjinajaociaaDoor.PEsc
open LexPure Bytes PathPure
/-- whether an escape stands at the front -/
def escO : List UInt8 → Bool
  | _ :: a :: b :: _ => isHex a && isHex b
  | _ => false
/-- the byte of the escape at the front, else 0 -/
def escN : List UInt8 → Nat
  | _ :: a :: b :: _ => if isHex a && isHex b then two a b else 0
  | _ => 0
theorem escN_lt (s : List UInt8) : escN s < 256 := by
  unfold escN
  split
  · split
    · rename_i h
      rw [Bool.and_eq_true] at h
      exact two_lt h.1 h.2
    · decide
  · decide
theorem esc_three {s : List UInt8} (h : escO s = true) : 3 ≤ s.length := by
  unfold escO at h
  split at h
  · simp
  · cases h
theorem dec_yes {t : List UInt8} (h : escO (37 :: t) = true) : dec (37 :: t) = (dec ((37 :: t).drop 3)).map (UInt8.ofNat (escN (37 :: t)) :: ·) := by
  rw [dec_cons, if_pos (by decide)]
  match t with
  | [] => cases h
  | [_] => cases h
  | a :: b :: r =>
    have hh : (isHex a && isHex b) = true := h
    have e : escN (37 :: a :: b :: r) = two a b := by unfold escN; simp only; rw [if_pos hh]
    simp only [hh, if_true, e]
    rfl
theorem dec_no {t : List UInt8} (h : escO (37 :: t) = false) : dec (37 :: t) = none := by
  rw [dec_cons, if_pos (by decide)]
  match t with
  | [] => rfl
  | [_] => rfl
  | a :: b :: r =>
    have hh : (isHex a && isHex b) = false := h
    simp only [hh]
    rfl
theorem dec_other {c : UInt8} {t : List UInt8} (h : ¬ c = 37) : dec (c :: t) = (dec t).map (c :: ·) := by
  rw [dec_cons, if_neg (by simpa using h)]
theorem esc_bad {c : UInt8} {t : List UInt8} (h : okc c = false) : esc (c :: t) = none := by
  rw [esc_cons, if_neg (by simp [h])]
theorem esc_other {c : UInt8} {t : List UInt8} (h0 : okc c = true) (h : ¬ c = 37) : esc (c :: t) = (esc t).map (c :: ·) := by
  rw [esc_cons, if_pos h0, if_neg (by simpa using h)]
theorem esc_yes {t : List UInt8} (h : escO (37 :: t) = true) : esc (37 :: t) = (esc ((37 :: t).drop 3)).map (wr (escN (37 :: t)) ++ ·) := by
  rw [esc_cons, if_pos (by decide), if_pos (by decide)]
  match t with
  | [] => cases h
  | [_] => cases h
  | a :: b :: r =>
    have hh : (isHex a && isHex b) = true := h
    have e : escN (37 :: a :: b :: r) = two a b := by unfold escN; simp only; rw [if_pos hh]
    simp only [hh, if_true, e]
    rfl
theorem esc_no {t : List UInt8} (h : escO (37 :: t) = false) : esc (37 :: t) = none := by
  rw [esc_cons, if_pos (by decide), if_pos (by decide)]
  match t with
  | [] => rfl
  | [_] => rfl
  | a :: b :: r =>
    have hh : (isHex a && isHex b) = false := h
    simp only [hh]
    rfl
theorem wr_le (n : Nat) : (wr n).length ≤ 3 := by unfold wr; split <;> simp
theorem map_map {o : Option (List UInt8)} (acc x : List UInt8) : (o.map (x ++ ·)).map (acc ++ ·) = o.map ((acc ++ x) ++ ·) := by
  cases o <;> simp
theorem map_cons {o : Option (List UInt8)} (acc : List UInt8) (c : UInt8) : (o.map (c :: ·)).map (acc ++ ·) = o.map ((acc ++ [c]) ++ ·) := by
  cases o <;> simp
end Go.Proofs.YtlhpjinajaociaaDoor.PEsc
