/- EpochFrees' runs of 1 threads, by the kernel. · EpochFrees' runs of 2 threads, by the kernel. -/
import Derived.Test.YtffppdcpiieapaaQ21
namespace Go.Proofs.Ytffppdcpiieapaa.Machc
open Go.RowKit Go.Proofs.Ytffppdcpiieapaa.Memc Go.Proofs.Ytffppdcpiieapaa.Newc Go.Proofs.Ytffppdcpiieapaa.Drivec Go.Proofs.Ytffppdcpiieapaa.Procc Go.Proofs.Ytffppdcpiieapaa.Arenac
set_option maxRecDepth 100000
theorem fr_1 (K : Nat) : ((List.range 65).all fun M => decide (M < 1) || endB (frR K 1 M) 1) = true := by kernel_rfl
end Go.Proofs.Ytffppdcpiieapaa.Machc

namespace Go.Proofs.Ytffppdcpiieapaa.Machc
open Go.RowKit Go.Proofs.Ytffppdcpiieapaa.Memc Go.Proofs.Ytffppdcpiieapaa.Newc Go.Proofs.Ytffppdcpiieapaa.Drivec Go.Proofs.Ytffppdcpiieapaa.Procc Go.Proofs.Ytffppdcpiieapaa.Arenac
set_option maxRecDepth 100000
theorem fr_2 (K : Nat) : ((List.range 65).all fun M => decide (M < 2) || endB (frR K 2 M) 2) = true := by kernel_rfl
end Go.Proofs.Ytffppdcpiieapaa.Machc
