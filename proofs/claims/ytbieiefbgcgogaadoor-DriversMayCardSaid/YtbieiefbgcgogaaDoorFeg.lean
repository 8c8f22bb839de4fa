/- The reference's FeesFault. -/
import Derived.Test.YtbieiefbgcgogaaDoorFee
namespace Go.Proofs.YtbieiefbgcgogaaDoor
open Go.RowKit

end Go.Proofs.YtbieiefbgcgogaaDoor
