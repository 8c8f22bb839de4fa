/- The reference's StationsFault; one station alone. -/
import Derived.Test.YtbieiefbgcgogaaSta
namespace Go.Proofs.Ytbieiefbgcgogaa
open Go.RowKit

end Go.Proofs.Ytbieiefbgcgogaa
