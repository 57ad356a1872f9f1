/- Contracts: the turns' array: eightTurns, of, twice. -/
import Derived.Test.YtgbaofdbdpopnaaDoorS1
import Derived.Deep.WholeRow
namespace Go.Proofs.YtgbaofdbdpopnaaDoor
open Go.RowKit

/-- An array of 32 numbers. -/
def arr (f : Nat → Nat) : Array Value := Array.ofFn (n := 32) fun j => Value.int .u32 (f j)

theorem arr_size (f : Nat → Nat) : (arr f).size = 32 := by simp [arr]
theorem arr_get (f : Nat → Nat) (j : Nat) (hj : j < 32) : (arr f)[j]? = some (.int .u32 (f j)) := by simp [arr, hj]
theorem arr_set (f : Nat → Nat) (i : Nat) (hi : i < 32) (v : Nat) : (arr f).setIfInBounds i (.int .u32 v) = arr (fun j => if j = i then v else f j) := by
  apply Array.ext_getElem?
  intro j
  rw [Array.getElem?_setIfInBounds]
  by_cases hj : j < 32
  · rw [arr_get _ _ hj, arr_get _ _ hj]
    by_cases e : i = j
    · subst e; simp [arr_size, hi]
    · rw [if_neg e, if_neg (fun h => e h.symm)]
  · have h1 : (arr f)[j]? = none := Array.getElem?_eq_none (by rw [arr_size]; omega)
    have h2 : (arr (fun j => if j = i then v else f j))[j]? = none := Array.getElem?_eq_none (by rw [arr_size]; omega)
    rw [h1, h2, if_neg (by omega)]

theorem arr_one (f : Nat → Nat) : (arr f).all (·.oneCell') = true := Array.all_eq_true.2 fun i hi => by
  rw [arr_size] at hi
  have h := arr_get f i hi
  rw [Array.getElem?_eq_getElem (by rw [arr_size]; exact hi)] at h
  rw [Option.some.inj h]
  rfl

theorem Tryd.info49 : (Tryd.prog.info? 49).map (fun i => (i.zero, i.size)) = some (some (.agg (arr fun _ => 0)), 32) := by kernel_rfl

theorem run_index_arr (w : World) (cs : Array Value) (i : Nat) (hi : i < 32) (v : Value) (hv : cs[i]? = some v) : (Instr.index 49 (.agg cs) (.int .i64 i)).run Tryd.prog w = .ok v w := by
  have h3 : (sizeOf 40).run Tryd.prog w = .ok 1 w := by kernel_rfl
  simp [Instr.index, run_underlying Tryd.underlying49, asIntOf, part, h3, hi, hv]

theorem bit_is (n i : Nat) (hn : n < 4294967296) : (bits .and .u32 ((n : Int) / 2 ^ i) 1 == 1) = decide (n / 2 ^ i % 2 = 1) := by
  have h0 : (n : Int) / 2 ^ i = ((n / 2 ^ i : Nat) : Int) := by rw [Int.natCast_ediv, Int.natCast_pow]; rfl
  have h1 := u32_and_nat (n / 2 ^ i) 1 (Nat.lt_of_le_of_lt (Nat.div_le_self _ _) hn) (by omega)
  rw [show ((1 : Nat) : Int) = 1 from rfl, Nat.and_one_is_mod] at h1
  rw [h0, h1]
  rcases Nat.mod_two_eq_zero_or_one (n / 2 ^ i) with h | h <;> rw [h] <;> rfl

theorem bit_more (k n i : Nat) (h : n / 2 ^ i % 2 = 1) : trn k (n % 2 ^ (i + 1)) = trn k (n % 2 ^ i) ^^^ trn k (2 ^ i) := by
  have e := split_xor i 1 (n % 2 ^ i) (Nat.mod_lt _ (Nat.two_pow_pos i))
  rw [Nat.mod_pow_succ, h, Nat.add_comm, e, trn_xor, Nat.mul_one, Nat.xor_comm]

theorem bit_same (k n i : Nat) (h : ¬ n / 2 ^ i % 2 = 1) : trn k (n % 2 ^ (i + 1)) = trn k (n % 2 ^ i) := by
  have : n / 2 ^ i % 2 = 0 := by omega
  rw [Nat.mod_pow_succ, this, Nat.mul_zero, Nat.add_zero]

theorem of_any (w : World) (k n : Nat) (hn : n < 4294967296) :
    Calls Tryd.prog 35 #[.agg (arr fun j => trn k (2 ^ j)), .int .u32 n] w fun e w' => e = .returned (.int .u32 (trn k n)) ∧ Fr (fun _ => False) w w' := by
  have hsz := (zero_of_info Tryd.info49).2
  obtain ⟨cs, hcs⟩ : ∃ cs, (arr fun j => trn k (2 ^ j)) = cs := ⟨_, rfl⟩
  rw [hcs]
  have hs : cs.size = 32 := by rw [← hcs]; exact arr_size _
  go_enter Tryd.func35, Tryd.ntmps35
  go_wp2_with (refine wpList_load_row rfl 49 (.tmp 2) rfl w.heap.size rfl 49 cs (0, 0) _ (heap_alloc_new w _) Tryd.underlying49 rfl (by rw [hs]; exact hsz) ?next)
  go_wp2
  go_loopw [5, 6, 7, 9] (fun tv _ _ iv wr => ∃ i : Nat, i ≤ 32 ∧ iv = .int .i64 i ∧ tv = .int .u32 (trn k (n % 2 ^ i)) ∧ wr = w.alloc (.cells cs 49)) (fun _ _ _ iv _ => 32 - (intOf iv).toNat)
  case atStart => exact ⟨0, Nat.zero_le _, rfl, by simp [Nat.mod_one, trn_zero], rfl⟩
  case round =>
    obtain ⟨i, hi, rfl, rfl, rfl⟩ := hrel
    by_cases hlt : i < 32
    · have hci : cs[i]? = some (.int .u32 (trn k (2 ^ i))) := by rw [← hcs]; exact arr_get _ i hlt
      have hix := fun w => run_index_arr w cs i hlt _ hci
      have hbi := bit_is n i hn
      have hmod : n % 2 ^ i < 4294967296 := Nat.lt_of_le_of_lt (Nat.mod_le _ _) hn
      by_cases hb : n / 2 ^ i % 2 = 1
      · rw [decide_eq_true hb] at hbi
        have hx := u32_xor_nat (trn k (n % 2 ^ i)) (trn k (2 ^ i)) (trn_lt k hmod) (trn_lt k (Nat.pow_lt_pow_right (by omega) (show i < 32 from hlt)))
        rw [← bit_more k n i hb] at hx
        go_wp2
        exact ⟨⟨i + 1, by omega, by go_num, rfl, trivial⟩, by simp [intOf]; omega⟩
      · rw [decide_eq_false hb] at hbi
        have hx := bit_same k n i hb
        go_wp2
        exact ⟨⟨i + 1, by omega, by go_num, by rw [hx], trivial⟩, by simp [intOf]; omega⟩
    · obtain rfl : i = 32 := by omega
      rw [show n % 2 ^ 32 = n from Nat.mod_eq_of_lt hn] at *
      go_wp2
      go_ret
      exact ⟨rfl, (Fr.refl _ _).alloc _⟩

end Go.Proofs.YtgbaofdbdpopnaaDoor
