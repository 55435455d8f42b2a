/- EpochFrees' runs of 3 threads, by the kernel. · EpochFrees' runs of 4 threads, by the kernel. -/
import Derived.Test.YtffppdcpiieapaaQ21
namespace Go.Proofs.Ytffppdcpiieapaa.Machc
open Go.RowKit Go.Proofs.Ytffppdcpiieapaa.Memc Go.Proofs.Ytffppdcpiieapaa.Newc Go.Proofs.Ytffppdcpiieapaa.Drivec Go.Proofs.Ytffppdcpiieapaa.Procc Go.Proofs.Ytffppdcpiieapaa.Arenac
set_option maxRecDepth 100000
theorem fr_3 (K : Nat) : ((List.range 65).all fun M => decide (M < 3) || endB (frR K 3 M) 3) = true := by kernel_rfl
end Go.Proofs.Ytffppdcpiieapaa.Machc

namespace Go.Proofs.Ytffppdcpiieapaa.Machc
open Go.RowKit Go.Proofs.Ytffppdcpiieapaa.Memc Go.Proofs.Ytffppdcpiieapaa.Newc Go.Proofs.Ytffppdcpiieapaa.Drivec Go.Proofs.Ytffppdcpiieapaa.Procc Go.Proofs.Ytffppdcpiieapaa.Arenac
set_option maxRecDepth 100000
theorem fr_4 (K : Nat) : ((List.range 65).all fun M => decide (M < 4) || endB (frR K 4 M) 4) = true := by kernel_rfl
end Go.Proofs.Ytffppdcpiieapaa.Machc
