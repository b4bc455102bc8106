/- The walks of the laws of word that ask the program alone: alive, WordOnce, WordWholes, WordMakes. -/
import Derived.Test.YtfhdmglfpkmjbaaV2
namespace Go.Proofs.Ytfhdmglfpkmjbaa
open Go.RowKit
set_option linter.unusedVariables false