import Derived.Test.YtabhfeocelljdaaDoorZG7
import Derived.Test.YtabhfeocelljdaaDoorZG8
import Derived.Test.YtabhfeocelljdaaDoorZG9
/- The document's examples of layer 12: awake. -/
namespace Go.Proofs.YtabhfeocelljdaaDoor
open Go.RowKit Go.Maps

def awIts : List Itm := [⟨5, [97]⟩, ⟨6, [98]⟩, ⟨7, [99]⟩, ⟨8, [100]⟩]
def awF1 : Fm := ⟨1, 5, 5, [[97], [98]], []⟩
def awF2 : Fm := ⟨1, 5, 7, [[99]], []⟩
theorem aw_t1 : tickF ⟨3, 2, 2, 0, []⟩ awIts = (⟨3, 2, 2, 1, [(5, 1), (6, 1), (7, 1)]⟩, [awF1, awF2]) := by kernel_rfl
theorem aw_t2 : tickF ⟨3, 2, 2, 1, [(5, 1), (6, 1), (7, 1)]⟩ awIts = (⟨3, 2, 2, 2, [(5, 1), (6, 1), (7, 1)]⟩, []) := by kernel_rfl
theorem aw_m1 : awF1.may = true := by kernel_rfl
theorem aw_m2 : awF2.may = true := by kernel_rfl
theorem aw_g1 : gotF 0 awF2 = (5, []) := by unfold gotF; rw [if_pos ⟨rfl, aw_m2⟩]; rfl
theorem aw_g2 : gotF 5 awF1 = (5, [⟨5, [97]⟩, ⟨6, [98]⟩]) := by unfold gotF; rw [if_pos ⟨rfl, aw_m1⟩]; rfl
theorem aw_r1 : readOk awF1.raw = true := by kernel_rfl
theorem aw_r2 : (readF awF1.raw).1 = awF1 := by kernel_rfl
theorem aw_mk : makeF [107] awF1 = (sealed [107] awF1.raw, 0) := by unfold makeF; rw [aw_m1]; rfl
theorem parse_sealed (s b : List UInt8) (hs : s.length ≤ 200) (hr : readOk b = true) : parseF s (sealed s b) = ((readF b).1, 0) := by
  have hl := sealed_length s b
  have h1 : (sealed s b).length - 16 = b.length := by omega
  have h2 : (sealed s b).take b.length = b := by unfold sealed; rw [List.take_left]
  have h3 : (sealed s b).drop b.length = (hmac s b).take 16 := by unfold sealed; rw [List.drop_left]
  unfold parseF
  rw [if_neg (by omega), h1, h2, h3, if_neg (by rintro (t | t); omega; exact t rfl), hr]
  rfl
theorem aw_p1 : parseF [107] (sealed [107] awF1.raw) = (awF1, 0) := by rw [parse_sealed _ _ (by decide) aw_r1, aw_r2]
theorem aw_p2 : parseF [111, 116, 104, 101, 114] [] = (zeroFm, 121) := by
  unfold parseF
  rw [if_neg (by decide), if_pos (.inl (by decide))]

end Go.Proofs.YtabhfeocelljdaaDoor

