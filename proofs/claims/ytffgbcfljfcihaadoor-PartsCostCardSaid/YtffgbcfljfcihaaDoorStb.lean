/- The reference's StationsFault; one station alone. -/
import Derived.Test.YtffgbcfljfcihaaDoorSta
namespace Go.Proofs.YtffgbcfljfcihaaDoor
open Go.RowKit

end Go.Proofs.YtffgbcfljfcihaaDoor
