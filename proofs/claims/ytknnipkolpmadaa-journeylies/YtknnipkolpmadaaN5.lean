import Derived.Test.YtknnipkolpmadaaN4
/- Lists of records, written. -/
namespace Go.Proofs.Ytknnipkolpmadaa
open Go.RowKit

end Go.Proofs.Ytknnipkolpmadaa

