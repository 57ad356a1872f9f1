/- The document's sums: Right, Add, Sub, Sum. -/
import Derived.Test.YthgkdpepgnoepaaS1
namespace Go.Proofs.Ythgkdpepgnoepaa
open Go.RowKit

theorem rright_any (w : World) (n : Int) : Calls Try.prog 66 #[.int .i64 n] w fun e w' => e = .returned (.bool (right n)) ∧ w' = w := by
  by_cases h1 : -9007199254740992 ≤ n
  · by_cases h2 : n ≤ 9007199254740992
    · have hr : right n = true := (right_iff n).2 ⟨h1, h2⟩
      go_enter Try.func66, Try.ntmps66
      go_wp2
      go_ret
      exact ⟨by first | rfl | (rw [hr]; rfl), rfl⟩
    · have hr : right n = false := (right_not n).2 (fun h => h2 h.2)
      go_enter Try.func66, Try.ntmps66
      go_wp2
      go_ret
      exact ⟨by first | rfl | (rw [hr]; rfl), rfl⟩
  · have hr : right n = false := (right_not n).2 (fun h => h1 h.1)
    go_enter Try.func66, Try.ntmps66
    go_wp2
    go_ret
    exact ⟨by first | rfl | (rw [hr]; rfl), rfl⟩

end Go.Proofs.Ythgkdpepgnoepaa
