import Derived.Test.YtjkghgcdkfkekaaGreatDoorYWB
import Derived.LaidEql
import Derived.Defers
import Derived.Stop.Asserts
import Derived.RowKitTokens
/- Contracts: errors.Is at the disk's refusal, and notice. -/
namespace Go.Proofs.YtjkghgcdkfkekaaGreatDoor
open Go.RowKit Go.Extern.Stop Go.Stop Go.Extern

theorem Tryz.isTypeOf (v : Value) (w : World) : (Extern.ReflectliteType.typeOf #[.iface 67 v]).run Tryz.prog w = .ok (.iface 181 (.agg #[.pointer (some ⟨2, 67, none⟩)])) w := by kernel_rfl
/-- The model's own entry. -/
theorem Tryz.cmpx : ∃ e, Extern.find Tryz.f183 = some e ∧ ∀ w, (e #[.agg #[.pointer (some ⟨2, 67, none⟩)]]).run Tryz.prog w = .ok (.bool true) w :=
  ⟨(Extern.find Tryz.f183).getD fun _ => pure .nilIface, by kernel_rfl, fun w => by kernel_rfl⟩
theorem Tryz.isMethodComparable (v : Value) (w : World) : (Go.method 369 181 v "Comparable").run Tryz.prog w = .ok (183, v) w := by kernel_rfl
theorem Tryz.isComp : (Tryz.prog.info? 67).map (·.comparable) = some true := by kernel_rfl
theorem Tryz.noIsE (v : Value) (xT : TypeId) (w : World) : (Instr.typeAssert (.iface 67 v) xT 192 true).run Tryz.prog w = .ok (.tuple #[.nilIface, .bool false]) w := run_typeAssert_lacksB Tryz.underlying192 (by kernel_rfl) (by kernel_rfl) v xT w
theorem Tryz.noUnwrapE (v : Value) (xT : TypeId) (w : World) : (Instr.typeAssert (.iface 67 v) xT 188 true).run Tryz.prog w = .ok (.tuple #[.nilIface, .bool false]) w := run_typeAssert_lacksB Tryz.underlying188 (by kernel_rfl) (by kernel_rfl) v xT w
theorem Tryz.noUnwrapsE (v : Value) (xT : TypeId) (w : World) : (Instr.typeAssert (.iface 67 v) xT 189 true).run Tryz.prog w = .ok (.tuple #[.nilIface, .bool false]) w := run_typeAssert_lacksB Tryz.underlying189 (by kernel_rfl) (by kernel_rfl) v xT w

theorem run_eql_errV (w : World) (m n : Int) : (binOp .eql 34 (errV m) (errV n)).run Tryz.prog w = .ok (.bool (decide (m = n))) w := by
  obtain ⟨i, hi, hcmp⟩ := Option.map_eq_some_iff.1 Tryz.isComp
  have h : ∀ d : Nat, (Op.equalIn (d + 2) 34 (errV m) (errV n)).run Tryz.prog w = .ok (decide (m = n)) w := fun d => by
    simp [Op.equalIn, run_underlying Tryz.underlying34, run_underlying Tryz.underlying67, typeInfo, hi, hcmp]
    first | rfl | (by_cases h : m = n <;> simp [h])
  simp only [binOp]
  simp [Op.equal, Op.maxDepth, h 9998]

set_option maxRecDepth 20000 in
theorem is_sameK (w : World) (k : Int) : Calls Tryz.prog 58 #[errV k, errV k] w fun e w' => e = .returned (.bool true) ∧ w' = w := by
  have h8 := @run_callFunc_extern Tryz.prog 82 _ Extern.ReflectliteType.typeOf Tryz.func82 (by kernel_rfl) (by kernel_rfl) (by kernel_rfl) (by kernel_rfl)
  obtain ⟨cmpE, hce, cT⟩ := Tryz.cmpx
  have h32 := @run_callFunc_extern Tryz.prog 183 _ cmpE Tryz.func183 (by kernel_rfl) (by kernel_rfl) (by kernel_rfl) hce
  clear hce
  have tT := Tryz.isTypeOf
  have mR := Tryz.isMethodComparable
  have heq := run_eql_errV w k k
  rw [decide_eq_true rfl] at heq
  go_enter Tryz.func58, Tryz.ntmps58
  go_wp2
  refine wp_loop_rounds 1 ?_
  rw [rounds_succ]
  go_wp2
  go_ret
  exact ⟨rfl, rfl⟩

theorem is_same (w : World) : Calls Tryz.prog 58 #[errV 5, errV 5] w fun e w' => e = .returned (.bool true) ∧ w' = w := is_sameK w 5

theorem is_nilK (w : World) (k : Int) : Calls Tryz.prog 58 #[.nilIface, errV k] w fun e w' => e = .returned (.bool false) ∧ w' = w := by
  have hn := run_eql_iface_nil_left (P := Tryz.prog) w 67 (.int .i64 k) Tryz.underlying34
  go_enter Tryz.func58, Tryz.ntmps58
  go_wp2
  go_ret
  exact ⟨rfl, rfl⟩

theorem is_nil (w : World) : Calls Tryz.prog 58 #[.nilIface, errV 5] w fun e w' => e = .returned (.bool false) ∧ w' = w := is_nilK w 5

set_option maxRecDepth 20000 in
theorem is_otherK (w : World) (n k : Int) (hne : n ≠ k) : Calls Tryz.prog 58 #[errV n, errV k] w fun e w' => e = .returned (.bool false) ∧ w' = w := by
  have h8 := @run_callFunc_extern Tryz.prog 82 _ Extern.ReflectliteType.typeOf Tryz.func82 (by kernel_rfl) (by kernel_rfl) (by kernel_rfl) (by kernel_rfl)
  obtain ⟨cmpE, hce, cT⟩ := Tryz.cmpx
  have h32 := @run_callFunc_extern Tryz.prog 183 _ cmpE Tryz.func183 (by kernel_rfl) (by kernel_rfl) (by kernel_rfl) hce
  clear hce
  have tT := Tryz.isTypeOf
  have mR := Tryz.isMethodComparable
  have nE := Tryz.noIsE
  have uE := Tryz.noUnwrapE
  have vE := Tryz.noUnwrapsE
  have heq := run_eql_errV w n k
  rw [decide_eq_false hne] at heq
  go_enter Tryz.func58, Tryz.ntmps58
  go_wp2
  refine wp_loop_rounds 1 ?_
  rw [rounds_succ]
  go_wp2
  go_ret
  exact ⟨rfl, rfl⟩

theorem is_other (w : World) (n : Int) (hne : n ≠ 5) : Calls Tryz.prog 58 #[errV n, errV 5] w fun e w' => e = .returned (.bool false) ∧ w' = w := is_otherK w n 5 hne

theorem notice_nil (u : FrameMode) (w : World) (q g : Nat) (h : w.cell? ⟨g, 0, none⟩ = some .nilIface) : CallsD Tryz.prog 42 #[.pointer (some ⟨q, 0, none⟩), .pointer (some ⟨g, 0, none⟩)] u w fun e u' w' => u' = u ∧ (e = .returned (.tuple #[]) ∧ w' = w) := by
  go_enter_d Tryz.func42, Tryz.ntmps42
  go_wp2_with fail
  refine (is_nil _).mono ?_
  rintro e w1 ⟨rfl, rfl⟩
  go_wp2
  go_end0
  exact ⟨rfl, rfl⟩

theorem notice_other (u : FrameMode) (w : World) (q g : Nat) (n : Int) (hn : n ≠ 5) (h : w.cell? ⟨g, 0, none⟩ = some (errV n)) : CallsD Tryz.prog 42 #[.pointer (some ⟨q, 0, none⟩), .pointer (some ⟨g, 0, none⟩)] u w fun e u' w' => u' = u ∧ (e = .returned (.tuple #[]) ∧ w' = w) := by
  go_enter_d Tryz.func42, Tryz.ntmps42
  go_wp2_with fail
  refine (is_other _ n hn).mono ?_
  rintro e w1 ⟨rfl, rfl⟩
  go_wp2
  go_end0
  exact ⟨rfl, rfl⟩

theorem notice_down (u : FrameMode) (w : World) (q g : Nat) (cs : Array Value) (T : TypeId) (hb : Bx w q cs T) (v : Value) (h9 : cs[9]? = some v) (h : w.cell? ⟨g, 0, none⟩ = some (errV 5)) : CallsD Tryz.prog 42 #[.pointer (some ⟨q, 0, none⟩), .pointer (some ⟨g, 0, none⟩)] u w fun e u' w' => u' = u ∧ (e = .returned (.tuple #[]) ∧ w' = w.setCell ⟨q, 9, none⟩ (.bool true)) := by
  have k9 : w.cell? ⟨q, 9, none⟩ = some v := (hb.cell 9).trans h9
  have f9 : w.frozen? ⟨q, 9, none⟩ = false := hb.frozen 9
  go_enter_d Tryz.func42, Tryz.ntmps42
  go_wp2_with fail
  refine (is_same _).mono ?_
  rintro e w1 ⟨rfl, rfl⟩
  go_wp2
  go_end0
  exact ⟨rfl, rfl⟩

end Go.Proofs.YtjkghgcdkfkekaaGreatDoor

