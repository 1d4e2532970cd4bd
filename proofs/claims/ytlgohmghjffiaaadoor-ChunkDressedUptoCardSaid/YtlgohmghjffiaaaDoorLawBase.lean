/- Two closed facts on the loaded program, laid once for all laws of the seat. -/
import Derived.Test.YtlgohmghjffiaaaDoorLawKit
import Derived.Test.YtlgohmghjffiaaaDoorRows
import Derived.WalkKit
import Derived.ProofKit
import Derived.OpenShut
import Derived.ChangeMaps5
import Derived.SizedLaws
namespace Go.Proofs.YtlgohmghjffiaaaDoor.LawBase
theorem own : ownKnob Tryd.prog.godebug = none := by kernel_rfl
theorem laidOut : laidOutB Tryd.prog = true := by kernel_rfl
end Go.Proofs.YtlgohmghjffiaaaDoor.LawBase
