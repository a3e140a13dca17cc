/- The contract of a reader's Bytes, with what room there is, over any world. -/
import Derived.Test.YtkfnjekeegebaaaVRdrBytes
namespace Go.Proofs.Ytkfnjekeegebaaa
open Go.RowKit

end Go.Proofs.Ytkfnjekeegebaaa
