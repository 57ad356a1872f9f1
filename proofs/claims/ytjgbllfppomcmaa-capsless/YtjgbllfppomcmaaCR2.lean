import Derived.Test.YtjgbllfppomcmaaCP7
import Derived.Test.YtjgbllfppomcmaaCM1
import Derived.Test.YtjgbllfppomcmaaQVY
import Derived.Test.YtjgbllfppomcmaaQV7
/- The document's Week. -/
namespace Go.Proofs.Ytjgbllfppomcmaa
open Go.RowKit

theorem zonB_in {t : Tf} (hr : rightE t = 0) {lo hi : Int} (h : zonB t lo hi = true) : (lo = 0 ∧ hi = 0) ∨ (1 ≤ lo ∧ lo ≤ hi ∧ hi ≤ Zt t) := by
  unfold zonB at h
  split at h
  · left; assumption
  · right
    simp only [Bool.and_eq_true, decide_eq_true_eq] at h
    have := span_in hr h.1 h.2
    omega
theorem ZIn.week {t : Tf} (hr : rightE t = 0) {s d : Dy} (h : ZIn t s) (hd : dayRE t d = 0) : ZIn t (addW s d) := by
  obtain ⟨_, _, _, _, _, hz⟩ := dayRE_zero hd
  exact ZIn.widen (d := ⟨s.day, s.rail + (d.cap - d.bus), s.bus + d.bus, s.cap, s.most + d.most, s.low, s.high⟩) h (zonB_in hr hz)

/-- Between two days. -/
def WInv (t : Tf) (A : Ad) (l : List Dy) (w : World) (B i : Nat) (u : World) : Prop :=
  Fr (fun _ => False) w u ∧ TB u B A t ∧ DyIn (sumW (l.take i)) ((i : Nat) * 1099511627776) ∧ firstW t (prevW l i) (l.drop i) = firstW t none l ∧ ZIn t (sumW (l.take i))

end Go.Proofs.Ytjgbllfppomcmaa

