/- EpochFrees' runs of 7 threads, by the kernel. · EpochFrees' runs of 8 threads, by the kernel. -/
import Derived.Test.YtffppdcpiieapaaQ21
namespace Go.Proofs.Ytffppdcpiieapaa.Machc
open Go.RowKit Go.Proofs.Ytffppdcpiieapaa.Memc Go.Proofs.Ytffppdcpiieapaa.Newc Go.Proofs.Ytffppdcpiieapaa.Drivec Go.Proofs.Ytffppdcpiieapaa.Procc Go.Proofs.Ytffppdcpiieapaa.Arenac
set_option maxRecDepth 100000
theorem fr_7 (K : Nat) : ((List.range 65).all fun M => decide (M < 7) || endB (frR K 7 M) 7) = true := by kernel_rfl
end Go.Proofs.Ytffppdcpiieapaa.Machc

namespace Go.Proofs.Ytffppdcpiieapaa.Machc
open Go.RowKit Go.Proofs.Ytffppdcpiieapaa.Memc Go.Proofs.Ytffppdcpiieapaa.Newc Go.Proofs.Ytffppdcpiieapaa.Drivec Go.Proofs.Ytffppdcpiieapaa.Procc Go.Proofs.Ytffppdcpiieapaa.Arenac
set_option maxRecDepth 100000
theorem fr_8 (K : Nat) : ((List.range 65).all fun M => decide (M < 8) || endB (frR K 8 M) 8) = true := by kernel_rfl
end Go.Proofs.Ytffppdcpiieapaa.Machc
