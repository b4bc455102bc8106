/- The walk of Mul at two finite ones. -/
import Derived.Test.YtajgoooejobngaaW8
namespace Go.Proofs.Ytajgoooejobngaa
open Go.RowKit

end Go.Proofs.Ytajgoooejobngaa
