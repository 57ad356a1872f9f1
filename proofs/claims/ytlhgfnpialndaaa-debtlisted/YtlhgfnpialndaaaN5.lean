import Derived.Test.YtlhgfnpialndaaaN4
/- Lists of records, written. -/
namespace Go.Proofs.Ytlhgfnpialndaaa
open Go.RowKit

end Go.Proofs.Ytlhgfnpialndaaa

