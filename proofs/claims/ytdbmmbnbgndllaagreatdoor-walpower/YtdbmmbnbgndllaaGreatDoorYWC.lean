import Derived.Test.YtdbmmbnbgndllaaGreatDoorYWB
import Derived.LaidEql
import Derived.Defers
import Derived.Stop.Asserts
import Derived.RowKitTokens
/- Contracts: errors.Is at the disk's refusal, and notice. -/
namespace Go.Proofs.YtdbmmbnbgndllaaGreatDoor
open Go.RowKit Go.Extern.Stop Go.Stop Go.Extern

theorem Tryz.isTypeOf (v : Value) (w : World) : (Extern.ReflectliteType.typeOf #[.iface 62 v]).run Tryz.prog w = .ok (.iface 191 (.agg #[.pointer (some ⟨2, 62, none⟩)])) w := by kernel_rfl
/-- The model's own entry. -/
theorem Tryz.cmpx : ∃ e, Extern.find Tryz.f217 = some e ∧ ∀ w, (e #[.agg #[.pointer (some ⟨2, 62, none⟩)]]).run Tryz.prog w = .ok (.bool true) w :=
  ⟨(Extern.find Tryz.f217).getD fun _ => pure .nilIface, by kernel_rfl, fun w => by kernel_rfl⟩
theorem Tryz.isMethodComparable (v : Value) (w : World) : (Go.method 385 191 v "Comparable").run Tryz.prog w = .ok (217, v) w := by kernel_rfl
theorem Tryz.isComp : (Tryz.prog.info? 62).map (·.comparable) = some true := by kernel_rfl
theorem Tryz.noIsE (v : Value) (xT : TypeId) (w : World) : (Instr.typeAssert (.iface 62 v) xT 221 true).run Tryz.prog w = .ok (.tuple #[.nilIface, .bool false]) w := run_typeAssert_lacksB Tryz.underlying221 (by kernel_rfl) (by kernel_rfl) v xT w
theorem Tryz.noUnwrapE (v : Value) (xT : TypeId) (w : World) : (Instr.typeAssert (.iface 62 v) xT 198 true).run Tryz.prog w = .ok (.tuple #[.nilIface, .bool false]) w := run_typeAssert_lacksB Tryz.underlying198 (by kernel_rfl) (by kernel_rfl) v xT w
theorem Tryz.noUnwrapsE (v : Value) (xT : TypeId) (w : World) : (Instr.typeAssert (.iface 62 v) xT 199 true).run Tryz.prog w = .ok (.tuple #[.nilIface, .bool false]) w := run_typeAssert_lacksB Tryz.underlying199 (by kernel_rfl) (by kernel_rfl) v xT w

theorem run_eql_errV (w : World) (m n : Int) : (binOp .eql 47 (errV m) (errV n)).run Tryz.prog w = .ok (.bool (decide (m = n))) w := by
  obtain ⟨i, hi, hcmp⟩ := Option.map_eq_some_iff.1 Tryz.isComp
  have h : ∀ d : Nat, (Op.equalIn (d + 2) 47 (errV m) (errV n)).run Tryz.prog w = .ok (decide (m = n)) w := fun d => by
    simp [Op.equalIn, run_underlying Tryz.underlying47, run_underlying Tryz.underlying62, typeInfo, hi, hcmp]
    first | rfl | (by_cases h : m = n <;> simp [h])
  simp only [binOp]
  simp [Op.equal, Op.maxDepth, h 9998]

set_option maxRecDepth 20000 in
theorem is_same (w : World) : Calls Tryz.prog 85 #[errV 5, errV 5] w fun e w' => e = .returned (.bool true) ∧ w' = w := by
  have h8 := @run_callFunc_extern Tryz.prog 118 _ Extern.ReflectliteType.typeOf Tryz.func118 (by kernel_rfl) (by kernel_rfl) (by kernel_rfl) (by kernel_rfl)
  obtain ⟨cmpE, hce, cT⟩ := Tryz.cmpx
  have h32 := @run_callFunc_extern Tryz.prog 217 _ cmpE Tryz.func217 (by kernel_rfl) (by kernel_rfl) (by kernel_rfl) hce
  clear hce
  have tT := Tryz.isTypeOf
  have mR := Tryz.isMethodComparable
  have heq := run_eql_errV w 5 5
  go_enter Tryz.func85, Tryz.ntmps85
  go_wp2
  refine wp_loop_rounds 1 ?_
  rw [rounds_succ]
  go_wp2
  go_ret
  exact ⟨rfl, rfl⟩

theorem is_nil (w : World) : Calls Tryz.prog 85 #[.nilIface, errV 5] w fun e w' => e = .returned (.bool false) ∧ w' = w := by
  have hn := run_eql_iface_nil_left (P := Tryz.prog) w 62 (.int .i64 5) Tryz.underlying47
  go_enter Tryz.func85, Tryz.ntmps85
  go_wp2
  go_ret
  exact ⟨rfl, rfl⟩

set_option maxRecDepth 20000 in
theorem is_other (w : World) (n : Int) (hne : n ≠ 5) : Calls Tryz.prog 85 #[errV n, errV 5] w fun e w' => e = .returned (.bool false) ∧ w' = w := by
  have h8 := @run_callFunc_extern Tryz.prog 118 _ Extern.ReflectliteType.typeOf Tryz.func118 (by kernel_rfl) (by kernel_rfl) (by kernel_rfl) (by kernel_rfl)
  obtain ⟨cmpE, hce, cT⟩ := Tryz.cmpx
  have h32 := @run_callFunc_extern Tryz.prog 217 _ cmpE Tryz.func217 (by kernel_rfl) (by kernel_rfl) (by kernel_rfl) hce
  clear hce
  have tT := Tryz.isTypeOf
  have mR := Tryz.isMethodComparable
  have nE := Tryz.noIsE
  have uE := Tryz.noUnwrapE
  have vE := Tryz.noUnwrapsE
  have heq := run_eql_errV w n 5
  rw [decide_eq_false hne] at heq
  go_enter Tryz.func85, Tryz.ntmps85
  go_wp2
  refine wp_loop_rounds 1 ?_
  rw [rounds_succ]
  go_wp2
  go_ret
  exact ⟨rfl, rfl⟩

theorem notice_nil (u : FrameMode) (w : World) (q g : Nat) (h : w.cell? ⟨g, 0, none⟩ = some .nilIface) : CallsD Tryz.prog 56 #[.pointer (some ⟨q, 0, none⟩), .pointer (some ⟨g, 0, none⟩)] u w fun e u' w' => u' = u ∧ (e = .returned (.tuple #[]) ∧ w' = w) := by
  go_enter_d Tryz.func56, Tryz.ntmps56
  go_wp2_with fail
  refine (is_nil _).mono ?_
  rintro e w1 ⟨rfl, rfl⟩
  go_wp2
  go_end0
  exact ⟨rfl, rfl⟩

theorem notice_other (u : FrameMode) (w : World) (q g : Nat) (n : Int) (hn : n ≠ 5) (h : w.cell? ⟨g, 0, none⟩ = some (errV n)) : CallsD Tryz.prog 56 #[.pointer (some ⟨q, 0, none⟩), .pointer (some ⟨g, 0, none⟩)] u w fun e u' w' => u' = u ∧ (e = .returned (.tuple #[]) ∧ w' = w) := by
  go_enter_d Tryz.func56, Tryz.ntmps56
  go_wp2_with fail
  refine (is_other _ n hn).mono ?_
  rintro e w1 ⟨rfl, rfl⟩
  go_wp2
  go_end0
  exact ⟨rfl, rfl⟩

theorem notice_down (u : FrameMode) (w : World) (q g : Nat) (cs : Array Value) (T : TypeId) (hb : Bx w q cs T) (v : Value) (h9 : cs[9]? = some v) (h : w.cell? ⟨g, 0, none⟩ = some (errV 5)) : CallsD Tryz.prog 56 #[.pointer (some ⟨q, 0, none⟩), .pointer (some ⟨g, 0, none⟩)] u w fun e u' w' => u' = u ∧ (e = .returned (.tuple #[]) ∧ w' = w.setCell ⟨q, 9, none⟩ (.bool true)) := by
  have k9 : w.cell? ⟨q, 9, none⟩ = some v := (hb.cell 9).trans h9
  have f9 : w.frozen? ⟨q, 9, none⟩ = false := hb.frozen 9
  go_enter_d Tryz.func56, Tryz.ntmps56
  go_wp2_with fail
  refine (is_same _).mono ?_
  rintro e w1 ⟨rfl, rfl⟩
  go_wp2
  go_end0
  exact ⟨rfl, rfl⟩

end Go.Proofs.YtdbmmbnbgndllaaGreatDoor

