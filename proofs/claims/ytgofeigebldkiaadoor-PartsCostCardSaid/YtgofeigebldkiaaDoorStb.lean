/- The reference's StationsFault; one station alone. -/
import Derived.Test.YtgofeigebldkiaaDoorSta
namespace Go.Proofs.YtgofeigebldkiaaDoor
open Go.RowKit

end Go.Proofs.YtgofeigebldkiaaDoor
