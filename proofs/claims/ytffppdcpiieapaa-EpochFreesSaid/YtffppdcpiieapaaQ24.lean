/- EpochFrees' runs of 5 threads, by the kernel. · EpochFrees' runs of 6 threads, by the kernel. -/
import Derived.Test.YtffppdcpiieapaaQ21
namespace Go.Proofs.Ytffppdcpiieapaa.Machc
open Go.RowKit Go.Proofs.Ytffppdcpiieapaa.Memc Go.Proofs.Ytffppdcpiieapaa.Newc Go.Proofs.Ytffppdcpiieapaa.Drivec Go.Proofs.Ytffppdcpiieapaa.Procc Go.Proofs.Ytffppdcpiieapaa.Arenac
set_option maxRecDepth 100000
theorem fr_5 (K : Nat) : ((List.range 65).all fun M => decide (M < 5) || endB (frR K 5 M) 5) = true := by kernel_rfl
end Go.Proofs.Ytffppdcpiieapaa.Machc

namespace Go.Proofs.Ytffppdcpiieapaa.Machc
open Go.RowKit Go.Proofs.Ytffppdcpiieapaa.Memc Go.Proofs.Ytffppdcpiieapaa.Newc Go.Proofs.Ytffppdcpiieapaa.Drivec Go.Proofs.Ytffppdcpiieapaa.Procc Go.Proofs.Ytffppdcpiieapaa.Arenac
set_option maxRecDepth 100000
theorem fr_6 (K : Nat) : ((List.range 65).all fun M => decide (M < 6) || endB (frR K 6 M) 6) = true := by kernel_rfl
end Go.Proofs.Ytffppdcpiieapaa.Machc
