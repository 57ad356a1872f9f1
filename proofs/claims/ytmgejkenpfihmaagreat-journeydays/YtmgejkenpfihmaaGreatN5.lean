import Derived.Test.YtmgejkenpfihmaaGreatN4
/- Lists of records, written. -/
namespace Go.Proofs.YtmgejkenpfihmaaGreat
open Go.RowKit

end Go.Proofs.YtmgejkenpfihmaaGreat

