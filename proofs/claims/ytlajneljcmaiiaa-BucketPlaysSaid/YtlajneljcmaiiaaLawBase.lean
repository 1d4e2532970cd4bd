/- Two closed facts on the loaded program, laid once for all laws of the seat. -/
import Derived.Test.YtlajneljcmaiiaaLawKit
import Derived.Test.YtlajneljcmaiiaaRows
import Derived.WalkKit
import Derived.ProofKit
import Derived.OpenShut
import Derived.ChangeMaps5
import Derived.SizedLaws
namespace Go.Proofs.Ytlajneljcmaiiaa.LawBase
theorem own : ownKnob Try.prog.godebug = none := by kernel_rfl
theorem laidOut : laidOutB Try.prog = true := by kernel_rfl
end Go.Proofs.Ytlajneljcmaiiaa.LawBase
