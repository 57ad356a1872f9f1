import Derived.Test.YtjgbllfppomcmaaQUX
import Derived.Test.YtjgbllfppomcmaaQY
import Derived.Test.YtjgbllfppomcmaaQRX
import Derived.Deep.QuietTactic
import Derived.BigQuiet
/- The document's own Same: the same tariff in two places is the same. -/
namespace Go.Proofs.Ytjgbllfppomcmaa
open Go.RowKit

theorem ordN_self (a : Nat) : ordN a a = 0 := by simp [ordN, cmpN]

theorem neq35 (w : World) (a b c : Int) : (binOp .neq 60 (.agg #[.int .i64 a, .int .i64 b, .int .i64 c]) (.agg #[.int .i64 a, .int .i64 b, .int .i64 c])).run Try.prog w = .ok (.bool false) w := by
  rw [run_neq_struct, eq35]
  simp [Result.andThen]
theorem neq39 (w : World) (a b c d e : Int) : (binOp .neq 57 (.agg #[.int .i64 a, .int .i64 b, .int .i64 c, .int .i64 d, .int .i64 e]) (.agg #[.int .i64 a, .int .i64 b, .int .i64 c, .int .i64 d, .int .i64 e])).run Try.prog w = .ok (.bool false) w := by
  rw [run_neq_struct, eq39]
  simp [Result.andThen]
theorem neq46 (w : World) (a b : Int) : (binOp .neq 87 (.agg #[.int .i64 a, .int .i64 b]) (.agg #[.int .i64 a, .int .i64 b])).run Try.prog w = .ok (.bool false) w := by
  rw [run_neq_struct, eq46]
  simp [Result.andThen]

end Go.Proofs.Ytjgbllfppomcmaa

