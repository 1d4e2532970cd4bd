/- Texts as lists of bytes, and facts on all bytes by reckoning. No program is named. -/
import Derived.ProofKit
import Derived.Laws.Strings
namespace Go.Proofs.YtlgohmghjffiaaaDoor.Bytes

/-- a text's bytes, and the text of bytes -/
abbrev toL (s : ByteArray) : List UInt8 := s.data.toList
def ofL (l : List UInt8) : ByteArray := ⟨l.toArray⟩
theorem toL_ofL (l : List UInt8) : toL (ofL l) = l := by simp [toL, ofL]
theorem ofL_toL (s : ByteArray) : ofL (toL s) = s := by cases s; simp [toL, ofL]
theorem ofL_inj {l m : List UInt8} (h : ofL l = ofL m) : l = m := by
  have := congrArg toL h
  rwa [toL_ofL, toL_ofL] at this
theorem toL_inj {s t : ByteArray} (h : toL s = toL t) : s = t := by
  rw [← ofL_toL s, ← ofL_toL t, h]
theorem toL_length (s : ByteArray) : (toL s).length = s.size := by simp [toL]
theorem ofL_size (l : List UInt8) : (ofL l).size = l.length := by simp [ofL, ByteArray.size]
theorem toL_get (s : ByteArray) (k : Nat) (h : k < s.size) : (toL s)[k]? = some s[k] := by
  rw [List.getElem?_eq_getElem (by rw [toL_length]; exact h)]
  simp [toL, ByteArray.getElem_eq_getElem_data]
theorem toL_take_succ (s : ByteArray) (k : Nat) (h : k < s.size) : (toL s).take (k + 1) = (toL s).take k ++ [s[k]] := by
  rw [List.take_add_one, toL_get s k h]
  rfl
theorem toL_drop (s : ByteArray) (k : Nat) (h : k < s.size) : (toL s).drop k = s[k] :: (toL s).drop (k + 1) := by
  rw [List.drop_eq_getElem_cons (by rw [toL_length]; exact h)]
  have := toL_get s k h
  rw [List.getElem?_eq_getElem (by rw [toL_length]; exact h)] at this
  rw [Option.some.inj this]
theorem toL_take_all (s : ByteArray) {k : Nat} (h : s.size ≤ k) : (toL s).take k = toL s := List.take_of_length_le (by rw [toL_length]; exact h)
theorem toL_extract (s : ByteArray) (a b : Nat) : toL (s.extract a b) = ((toL s).take b).drop a := by
  simp [toL, ByteArray.data_extract, Array.toList_extract, List.drop_take]
theorem toL_append (s t : ByteArray) : toL (s ++ t) = toL s ++ toL t := by simp [toL, ByteArray.data_append]
/-- texts held against each other, in the walk's form -/
theorem same_text (s t : ByteArray) : (s.toList == t.toList) = (toL s == toL t) := by rw [ByteArray.toList_eq, ByteArray.toList_eq]
theorem same_ofL (l m : List UInt8) : ((ofL l).toList == (ofL m).toList) = (l == m) := by rw [same_text, toL_ofL, toL_ofL]
/-- a fact on all bytes, by reckoning -/
theorem all_bytes {p : UInt8 → Bool} (h : (List.range 256).all (fun n => p (UInt8.ofNat n)) = true) (b : UInt8) : p b = true := by
  have := List.all_eq_true.1 h b.toNat (List.mem_range.2 b.toNat_lt)
  simpa using this
end Go.Proofs.YtlgohmghjffiaaaDoor.Bytes
