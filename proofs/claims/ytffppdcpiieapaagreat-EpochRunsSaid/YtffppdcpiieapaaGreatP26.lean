/- A part of the proof. -/
import Derived.Test.YtffppdcpiieapaaGreatP20
namespace Go.Proofs.YtffppdcpiieapaaGreat.Machc
open Go.RowKit Memc Newc Refc Drivec Procc Wordc Arenac
set_option linter.unusedVariables false
set_option maxRecDepth 100000

end Go.Proofs.YtffppdcpiieapaaGreat.Machc
