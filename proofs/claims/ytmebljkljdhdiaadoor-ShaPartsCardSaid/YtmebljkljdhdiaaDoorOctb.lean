/-
  THE CONTRACTS of octet's other functions, and of the document's own.
-/
import Derived.Test.YtmebljkljdhdiaaDoorOct
namespace Go.Proofs.YtmebljkljdhdiaaDoor.Oct
open Go.RowKit
open Go.Proofs.YtmebljkljdhdiaaDoor.Kit
set_option linter.unusedVariables false

theorem info5 : (Tryd.prog.info? 5).map (fun i => (i.zero, i.size, i.bytes)) = some (some (.int .u8 0), 1, 1) := by kernel_rfl

end Go.Proofs.YtmebljkljdhdiaaDoor.Oct
