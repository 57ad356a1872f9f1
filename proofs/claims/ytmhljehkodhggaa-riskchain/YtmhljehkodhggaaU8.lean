import Derived.Test.YtmhljehkodhggaaU7
/- Package risk: two deltas as one. -/
namespace Go.Proofs.Ytmhljehkodhggaa
open Go.RowKit

def joinA (a b : Dl) : List ByteArray := eiL (woL a.add b.gone) (woL b.add a.gone)
def joinG (a b : Dl) : List ByteArray := eiL (woL a.gone b.add) (woL b.gone a.add)
/-- One delta for two, or what is wrong. -/
def joinR (a b : Dl) : Dl × Int := if joinE a b ≠ 0 then (dl0, joinE a b) else if 1000 < (joinA a b).length ∨ 1000 < (joinG a b).length then (dl0, 2) else (⟨b.ver, joinA a b, joinG a b⟩, 0)

theorem joinE_ok {a b : Dl} (h : joinE a b = 0) : deltaOk a = true ∧ deltaOk b = true ∧ b.ver - 1 = a.ver ∧ coL a.add b.add = [] ∧ coL a.gone b.gone = [] := by
  unfold joinE at h
  split at h
  · omega
  · rename_i h1
    split at h
    · omega
    · rename_i h2
      split at h
      · omega
      · rename_i h3
        split at h
        · omega
        · rename_i h4
          split at h
          · omega
          · rename_i h5
            exact ⟨by simpa using h1, by simpa using h2, by simpa using h3, List.eq_nil_of_length_eq_zero (by omega), List.eq_nil_of_length_eq_zero (by omega)⟩

end Go.Proofs.Ytmhljehkodhggaa

