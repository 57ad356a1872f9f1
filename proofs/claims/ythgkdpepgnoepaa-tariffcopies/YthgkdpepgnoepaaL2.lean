/- Steps of the regions of Lent. -/
import Derived.Test.YthgkdpepgnoepaaL0
namespace Go.Proofs.Ythgkdpepgnoepaa
open Go.RowKit

section
variable {ev : Operand → Value} {o : Oper} {w : World}

theorem exec_add1 {x : Operand} {n : Nat} (hn : n + 1 ≤ 140737488355328) (hc : ev (.const (.int .i64 1)) = .int .i64 1) (ho : o.op = .binOp .add 3 x (.const (.int .i64 1)) 3) (hx : ev x = .int .i64 (n : Int)) : (execOp ev o).run Try.prog w = .ok (.value (.int .i64 ((n : Int) + 1))) w := by
  have h1 : IntKind.i64.wrap ((n : Int) + 1) = (n : Int) + 1 := by rw [IntKind.wrap_i64]; omega
  simp [execOp, ho, hx, hc, go_sem, h1]

theorem exec_len0 {x : Operand} {ao : Option Addr} {n cap : Nat} (ho : o.op = .call { callee := .builtin .len, args := #[x], argTypes := #[22] }) (hx : ev x = .slice ao n cap) : (execOp ev o).run Try.prog w = .ok (.value (.int .i64 (n : Int))) w := by
  simp [execOp, ho, hx, resolve, invoke, builtin, go_sem]

theorem exec_field0 {x : Operand} {B : Nat} (ho : o.op = .fieldAddr 27 x 0) (hx : ev x = .pointer (some ⟨B, 0, none⟩)) : (execOp ev o).run Try.prog w = .ok (.value (.pointer (some ⟨B, 0, none⟩))) w := by
  simp [execOp, ho, hx, go_sem]

theorem exec_load0 {x : Operand} {B : Nat} {ao : Option Addr} {n cap : Nat} (ho : o.op = .load 22 x) (hx : ev x = .pointer (some ⟨B, 0, none⟩)) (hc : w.cell? ⟨B, 0, none⟩ = some (.slice ao n cap)) : (execOp ev o).run Try.prog w = .ok (.value (.slice ao n cap)) w := by
  simp [execOp, ho, hx, go_sem, hc]

theorem exec_build0 (hc : ev (.const (.int .i64 (-7))) = .int .i64 (-7)) (ho : o.op = .build 35 #[(0, .const (.int .i64 (-7)))]) : (execOp ev o).run Try.prog w = .ok (.value (.agg #[.int .i64 (-7), .int .i64 0, .int .i64 0])) w := by
  simp [execOp, ho, hc, go_sem]

theorem exec_slice10 {x : Operand} (ho : o.op = .buildSlice 22 1 #[(0, x)]) (hx : ev x = .agg #[.int .i64 (-7), .int .i64 0, .int .i64 0]) : (execOp ev o).run Try.prog w = .ok (.value (.slice (some ⟨w.heap.size, 0, none⟩) 1 1)) (w.alloc (.cells #[.int .i64 (-7), .int .i64 0, .int .i64 0] 35)) := by
  simp [execOp, ho, hx, go_sem]

theorem exec_cut0 {x y : Operand} {ao : Option Addr} {n m cap g : Nat} (hnm : n ≤ m) (hm : m ≤ cap) (hao : ao = some ⟨g, 0, none⟩) (ho : o.op = .slice 22 x none (some y) none) (hx : ev x = .slice ao m cap) (hy : ev y = .int .i64 (n : Int)) : (execOp ev o).run Try.prog w = .ok (.value (.slice ao n cap)) w := by
  subst hao
  have h0 : (0 : Int) ≤ (n : Int) := by omega
  have h1 : (n : Int) ≤ (cap : Int) := by omega
  simp [execOp, ho, hx, hy, go_sem]
  intro h
  omega

theorem exec_store0 {x y : Operand} {B : Nat} {v : Value} {ao : Option Addr} {n cap : Nat} (ho : o.op = .store 22 x y) (hx : ev x = .pointer (some ⟨B, 0, none⟩)) (hy : ev y = .slice ao n cap) (hc : w.cell? ⟨B, 0, none⟩ = some v) (hf : w.frozen? ⟨B, 0, none⟩ = false) : (execOp ev o).run Try.prog w = .ok .skip (w.setCell ⟨B, 0, none⟩ (.slice ao n cap)) := by
  simp [execOp, ho, hx, hy, go_sem, hc, hf]

theorem exec_len1 {x : Operand} {ao : Option Addr} {n cap : Nat} (ho : o.op = .call { callee := .builtin .len, args := #[x], argTypes := #[23] }) (hx : ev x = .slice ao n cap) : (execOp ev o).run Try.prog w = .ok (.value (.int .i64 (n : Int))) w := by
  simp [execOp, ho, hx, resolve, invoke, builtin, go_sem]

theorem exec_field1 {x : Operand} {B : Nat} (ho : o.op = .fieldAddr 27 x 1) (hx : ev x = .pointer (some ⟨B, 0, none⟩)) : (execOp ev o).run Try.prog w = .ok (.value (.pointer (some ⟨B, 1, none⟩))) w := by
  simp [execOp, ho, hx, go_sem]

theorem exec_load1 {x : Operand} {B : Nat} {ao : Option Addr} {n cap : Nat} (ho : o.op = .load 23 x) (hx : ev x = .pointer (some ⟨B, 1, none⟩)) (hc : w.cell? ⟨B, 1, none⟩ = some (.slice ao n cap)) : (execOp ev o).run Try.prog w = .ok (.value (.slice ao n cap)) w := by
  simp [execOp, ho, hx, go_sem, hc]

theorem exec_build1 (hc : ev (.const (.int .i64 (-7))) = .int .i64 (-7)) (ho : o.op = .build 39 #[(0, .const (.int .i64 (-7)))]) : (execOp ev o).run Try.prog w = .ok (.value (.agg #[.int .i64 (-7), .int .i64 0, .int .i64 0, .int .i64 0, .int .i64 0])) w := by
  simp [execOp, ho, hc, go_sem]

theorem exec_slice11 {x : Operand} (ho : o.op = .buildSlice 23 1 #[(0, x)]) (hx : ev x = .agg #[.int .i64 (-7), .int .i64 0, .int .i64 0, .int .i64 0, .int .i64 0]) : (execOp ev o).run Try.prog w = .ok (.value (.slice (some ⟨w.heap.size, 0, none⟩) 1 1)) (w.alloc (.cells #[.int .i64 (-7), .int .i64 0, .int .i64 0, .int .i64 0, .int .i64 0] 39)) := by
  simp [execOp, ho, hx, go_sem]

theorem exec_cut1 {x y : Operand} {ao : Option Addr} {n m cap g : Nat} (hnm : n ≤ m) (hm : m ≤ cap) (hao : ao = some ⟨g, 0, none⟩) (ho : o.op = .slice 23 x none (some y) none) (hx : ev x = .slice ao m cap) (hy : ev y = .int .i64 (n : Int)) : (execOp ev o).run Try.prog w = .ok (.value (.slice ao n cap)) w := by
  subst hao
  have h0 : (0 : Int) ≤ (n : Int) := by omega
  have h1 : (n : Int) ≤ (cap : Int) := by omega
  simp [execOp, ho, hx, hy, go_sem]
  intro h
  omega

theorem exec_store1 {x y : Operand} {B : Nat} {v : Value} {ao : Option Addr} {n cap : Nat} (ho : o.op = .store 23 x y) (hx : ev x = .pointer (some ⟨B, 1, none⟩)) (hy : ev y = .slice ao n cap) (hc : w.cell? ⟨B, 1, none⟩ = some v) (hf : w.frozen? ⟨B, 1, none⟩ = false) : (execOp ev o).run Try.prog w = .ok .skip (w.setCell ⟨B, 1, none⟩ (.slice ao n cap)) := by
  simp [execOp, ho, hx, hy, go_sem, hc, hf]

theorem exec_len2 {x : Operand} {ao : Option Addr} {n cap : Nat} (ho : o.op = .call { callee := .builtin .len, args := #[x], argTypes := #[24] }) (hx : ev x = .slice ao n cap) : (execOp ev o).run Try.prog w = .ok (.value (.int .i64 (n : Int))) w := by
  simp [execOp, ho, hx, resolve, invoke, builtin, go_sem]

theorem exec_field2 {x : Operand} {B : Nat} (ho : o.op = .fieldAddr 27 x 2) (hx : ev x = .pointer (some ⟨B, 0, none⟩)) : (execOp ev o).run Try.prog w = .ok (.value (.pointer (some ⟨B, 2, none⟩))) w := by
  simp [execOp, ho, hx, go_sem]

theorem exec_load2 {x : Operand} {B : Nat} {ao : Option Addr} {n cap : Nat} (ho : o.op = .load 24 x) (hx : ev x = .pointer (some ⟨B, 2, none⟩)) (hc : w.cell? ⟨B, 2, none⟩ = some (.slice ao n cap)) : (execOp ev o).run Try.prog w = .ok (.value (.slice ao n cap)) w := by
  simp [execOp, ho, hx, go_sem, hc]

theorem exec_build2 (hc : ev (.const (.int .i64 (-7))) = .int .i64 (-7)) (ho : o.op = .build 46 #[(0, .const (.int .i64 (-7)))]) : (execOp ev o).run Try.prog w = .ok (.value (.agg #[.int .i64 (-7), .int .i64 0])) w := by
  simp [execOp, ho, hc, go_sem]

theorem exec_slice12 {x : Operand} (ho : o.op = .buildSlice 24 1 #[(0, x)]) (hx : ev x = .agg #[.int .i64 (-7), .int .i64 0]) : (execOp ev o).run Try.prog w = .ok (.value (.slice (some ⟨w.heap.size, 0, none⟩) 1 1)) (w.alloc (.cells #[.int .i64 (-7), .int .i64 0] 46)) := by
  simp [execOp, ho, hx, go_sem]

theorem exec_cut2 {x y : Operand} {ao : Option Addr} {n m cap g : Nat} (hnm : n ≤ m) (hm : m ≤ cap) (hao : ao = some ⟨g, 0, none⟩) (ho : o.op = .slice 24 x none (some y) none) (hx : ev x = .slice ao m cap) (hy : ev y = .int .i64 (n : Int)) : (execOp ev o).run Try.prog w = .ok (.value (.slice ao n cap)) w := by
  subst hao
  have h0 : (0 : Int) ≤ (n : Int) := by omega
  have h1 : (n : Int) ≤ (cap : Int) := by omega
  simp [execOp, ho, hx, hy, go_sem]
  intro h
  omega

theorem exec_store2 {x y : Operand} {B : Nat} {v : Value} {ao : Option Addr} {n cap : Nat} (ho : o.op = .store 24 x y) (hx : ev x = .pointer (some ⟨B, 2, none⟩)) (hy : ev y = .slice ao n cap) (hc : w.cell? ⟨B, 2, none⟩ = some v) (hf : w.frozen? ⟨B, 2, none⟩ = false) : (execOp ev o).run Try.prog w = .ok .skip (w.setCell ⟨B, 2, none⟩ (.slice ao n cap)) := by
  simp [execOp, ho, hx, hy, go_sem, hc, hf]

end
end Go.Proofs.Ythgkdpepgnoepaa
