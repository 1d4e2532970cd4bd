/- Two closed facts on the loaded program, laid once for all laws of the seat. -/
import Derived.Test.YtpmhllkdbjfkoaaDoorLawKit
import Derived.Test.YtpmhllkdbjfkoaaDoorRows
import Derived.WalkKit
import Derived.ProofKit
import Derived.OpenShut
import Derived.ChangeMaps5
import Derived.SizedLaws
namespace Go.Proofs.YtpmhllkdbjfkoaaDoor.LawBase
theorem own : ownKnob Tryd.prog.godebug = none := by kernel_rfl
theorem laidOut : laidOutB Tryd.prog = true := by kernel_rfl
end Go.Proofs.YtpmhllkdbjfkoaaDoor.LawBase
