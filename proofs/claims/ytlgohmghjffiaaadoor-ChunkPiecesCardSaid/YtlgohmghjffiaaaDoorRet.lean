/- Results that are equal. No program is named. -/
import Derived.WalkKit
namespace Go.Proofs.YtlgohmghjffiaaaDoor.Ret
theorem ret_bool {a b : Bool} (h : a = b) : Ending.returned (.bool a) = .returned (.bool b) := by rw [h]
theorem ret_string {a b : ByteArray} (h : a = b) : Ending.returned (.string a) = .returned (.string b) := by rw [h]
theorem ret_num {a b : Int} {p q : Bool} (h : a = b) (k : p = q) : Ending.returned (.tuple #[.int .i64 a, .bool p]) = .returned (.tuple #[.int .i64 b, .bool q]) := by rw [h, k]
end Go.Proofs.YtlgohmghjffiaaaDoor.Ret
