/- Contracts, and what they rest on. Conditions: the theorems' premises. -/
import Derived.Test.YtaebnkeddcbmkaaGreatYab
import Derived.BigQuiet
set_option maxHeartbeats 4000000
set_option maxRecDepth 100000
namespace Go.Proofs.YtaebnkeddcbmkaaGreat
open Go.RowKit
end Go.Proofs.YtaebnkeddcbmkaaGreat
