/- Two closed facts on the loaded program, laid once for all laws of the seat. -/
import Derived.Test.YtlhpjinajaociaaDoorLawKit
import Derived.Test.YtlhpjinajaociaaDoorRows
import Derived.WalkKit
import Derived.ProofKit
import Derived.OpenShut
import Derived.ChangeMaps5
import Derived.SizedLaws
namespace Go.Proofs.YtlhpjinajaociaaDoor.LawBase
theorem own : ownKnob Tryd.prog.godebug = none := by kernel_rfl
theorem laidOut : laidOutB Tryd.prog = true := by kernel_rfl
end Go.Proofs.YtlhpjinajaociaaDoor.LawBase
