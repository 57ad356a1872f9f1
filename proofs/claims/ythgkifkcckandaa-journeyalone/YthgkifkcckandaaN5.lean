import Derived.Test.YthgkifkcckandaaN4
/- Lists of records, written. -/
namespace Go.Proofs.Ythgkifkcckandaa
open Go.RowKit

end Go.Proofs.Ythgkifkcckandaa

