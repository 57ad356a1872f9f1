/- The tables of a law that lists all four. -/
import Derived.Test.YtgklgbomfipagaaDoorO1
import Derived.Test.YtgklgbomfipagaaDoorR5
namespace Go.Proofs.YtgklgbomfipagaaDoor
open Go.RowKit

theorem tab4_of {W : World} (h : laidMetH Tryd.prog [("farebox/fareboxref03.first", Rows.laid_farebox_fareboxref03_first), ("farebox/fareboxref03.k", Rows.laid_farebox_fareboxref03_k), ("farebox/hash.firstWords", Rows.laid_farebox_hash_firstWords), ("farebox/hash.roundWords", Rows.laid_farebox_hash_roundWords)] W) : TabP W ∧ TabR W := by
  have h' : laidMet Tryd.prog [("farebox/fareboxref03.first", Rows.laid_farebox_fareboxref03_first), ("farebox/fareboxref03.k", Rows.laid_farebox_fareboxref03_k), ("farebox/hash.firstWords", Rows.laid_farebox_hash_firstWords), ("farebox/hash.roundWords", Rows.laid_farebox_hash_roundWords)] W := h
  exact ⟨⟨tabF_of (met_tail (met_tail h')), tabR_of (met_tail (met_tail (met_tail h')))⟩, ⟨tabf_of h', tabk_of (met_tail h')⟩⟩

end Go.Proofs.YtgklgbomfipagaaDoor
