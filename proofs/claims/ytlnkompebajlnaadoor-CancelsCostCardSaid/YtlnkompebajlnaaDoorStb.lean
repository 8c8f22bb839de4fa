/- The reference's StationsFault; one station alone. -/
import Derived.Test.YtlnkompebajlnaaDoorSta
namespace Go.Proofs.YtlnkompebajlnaaDoor
open Go.RowKit

end Go.Proofs.YtlnkompebajlnaaDoor
