/- The statements' own Plain, over any world. -/
import Derived.Test.YtaijldcfoaeogaaRcEq
import Derived.Handy
namespace Go.Proofs.Ytaijldcfoaeogaa
open Go.RowKit
set_option linter.unusedSimpArgs false

end Go.Proofs.Ytaijldcfoaeogaa
