/- Contracts: turnedBehind, Join. -/
import Derived.Test.YtgbaofdbdpopnaaDoorS6
namespace Go.Proofs.YtgbaofdbdpopnaaDoor
open Go.RowKit

theorem i64_and_nat (a b : Nat) (ha : a < 9223372036854775808) (hb : b < 9223372036854775808) : bits .and .i64 (a : Int) (b : Int) = ((a &&& b : Nat) : Int) := by
  have hx : a &&& b < 2 ^ 63 := Nat.and_lt_two_pow a (by omega)
  have h1 : (BitVec.ofInt 64 (a : Int)).toNat = a := by
    rw [BitVec.ofInt_natCast, BitVec.toNat_ofNat]; exact Nat.mod_eq_of_lt (by omega)
  have h2 : (BitVec.ofInt 64 (b : Int)).toNat = b := by
    rw [BitVec.ofInt_natCast, BitVec.toNat_ofNat]; exact Nat.mod_eq_of_lt (by omega)
  show IntKind.i64.wrap ((BitVec.ofInt 64 (a : Int) &&& BitVec.ofInt 64 (b : Int)).toNat : Int) = _
  rw [BitVec.toNat_and, h1, h2, IntKind.wrap_i64]
  omega

theorem i64_xor_nat (a b : Nat) (ha : a < 9223372036854775808) (hb : b < 9223372036854775808) : bits .xor .i64 (a : Int) (b : Int) = ((a ^^^ b : Nat) : Int) := by
  have hx : a ^^^ b < 2 ^ 63 := Nat.xor_lt_two_pow (by omega) (by omega)
  have h1 : (BitVec.ofInt 64 (a : Int)).toNat = a := by
    rw [BitVec.ofInt_natCast, BitVec.toNat_ofNat]; exact Nat.mod_eq_of_lt (by omega)
  have h2 : (BitVec.ofInt 64 (b : Int)).toNat = b := by
    rw [BitVec.ofInt_natCast, BitVec.toNat_ofNat]; exact Nat.mod_eq_of_lt (by omega)
  show IntKind.i64.wrap ((BitVec.ofInt 64 (a : Int) ^^^ BitVec.ofInt 64 (b : Int)).toNat : Int) = _
  rw [BitVec.toNat_xor, h1, h2, IntKind.wrap_i64]
  omega

theorem odd_is (m : Nat) (hm : m < 9223372036854775808) : (bits .and .i64 (m : Int) 1 == 1) = decide (m % 2 = 1) := by
  have h1 := i64_and_nat m 1 hm (by omega)
  rw [show ((1 : Nat) : Int) = 1 from rfl, Nat.and_one_is_mod] at h1
  rw [h1]
  rcases Nat.mod_two_eq_zero_or_one m with h | h <;> rw [h] <;> rfl

theorem half_odd (K m x : Nat) (h : m % 2 = 1) : trn (K * m) x = trn ((K + K) * (m / 2)) (trn K x) := by
  rw [← trn_add]
  congr 1
  obtain ⟨q, rfl⟩ : ∃ q, m = 2 * q + 1 := ⟨m / 2, by omega⟩
  rw [show (2 * q + 1) / 2 = q by omega, Nat.add_mul, Nat.mul_add, Nat.mul_one, ← Nat.mul_assoc, Nat.mul_comm K 2, Nat.two_mul, Nat.add_mul]

theorem half_even (K m x : Nat) (h : ¬ m % 2 = 1) : trn (K * m) x = trn ((K + K) * (m / 2)) x := by
  congr 1
  obtain ⟨q, rfl⟩ : ∃ q, m = 2 * q := ⟨m / 2, by omega⟩
  rw [show 2 * q / 2 = q by omega, ← Nat.mul_assoc, Nat.mul_comm K 2, Nat.two_mul]

theorem heap_lt {w : World} {g : Nat} {o : Obj} (h : w.heap[g]? = some o) : g < w.heap.size := (Array.getElem?_eq_some_iff.1 h).1

/-- A whole array is stored: the walk halts behind it. -/
theorem wpList_store_halt {P : Program} {ops : Array Oper} {rest : List Oper} {o : Oper} {a : Act} {w : World} {Q : Exit → Act → World → Prop} (hgd : o.guard = none) (ty : TypeId) (x y : Operand) (ho : o.op = .store ty x y)
    (g : Nat) (cells : Array Value) (hx : a.eval x = .pointer (some ⟨g, 0, none⟩)) (hy : a.eval y = .agg cells)
    (t : TypeId) (old : Array Value) (hg : w.heap[g]? = some (.cells old t (0, 0))) (hi : (P.info? ty).map (·.size) = some cells.size)
    (hold : old.size = cells.size) (h1 : cells.all (·.oneCell') = true)
    (h : ∀ w', Hid (w' = w.setRow g cells) → wpList P ops Q rest (a.put o.dst undef) w') : wpList P ops Q (o :: rest) a w :=
  wpList_store_row hgd ty x y ho g cells hx hy t old hg hi hold h1 (h _ (hide rfl))

/-- Where turnedBehind has come to. -/
def Turning (w wr : World) (g K xr m T : Nat) : Prop := Blk wr g (fun j => trn K (2 ^ j)) ∧ Fr (fun _ => False) w wr ∧ w.heap.size ≤ g ∧ xr < 4294967296 ∧ trn (K * m) xr = T

set_option maxHeartbeats 1000000 in
theorem behind_any (w : World) (hT : TabAt w) (x n : Nat) (hx : x < 4294967296) (hn : n < 9223372036854775808) :
    Calls Tryd.prog 27 #[.int .u32 x, .int .i64 n] w fun e w' => e = .returned (.int .u32 (trn (8 * n) x)) ∧ Fr (fun _ => False) w w' := by
  have HT := hide hT
  clear hT
  obtain ⟨T, hTT⟩ : ∃ T, trn (8 * n) x = T := ⟨_, rfl⟩
  rw [hTT]
  go_enter Tryd.func27, Tryd.ntmps27
  go_wp2_with fail
  refine (eight_any _ (unhide HT)).mono ?_
  rintro e w1 ⟨rfl, hF1⟩
  have hM : Turning w ((w1.alloc (.cells (arr fun _ => 0) 49)).setRow w1.heap.size (arr fun j => trn 8 (2 ^ j))) w1.heap.size 8 x n T :=
    ⟨(Blk.new w1 _).row _, (hF1.alloc _).setRow (fun t => absurd t (by have := hF1.size; omega)) _, hF1.size, hx, hTT⟩
  have HM := hide hM
  clear hM hF1 hTT
  obtain ⟨cs, hcs⟩ : ∃ cs, (arr fun j => trn 8 (2 ^ j)) = cs := ⟨_, rfl⟩
  rw [hcs] at HM ⊢
  have hc1 : cs.size = 32 := by rw [← hcs]; exact arr_size _
  have hc2 : cs.all (·.oneCell') = true := by rw [← hcs]; exact arr_one _
  clear hcs
  go_wp2_with (refine wpList_store_row rfl 49 (.tmp 5) (.tmp 6) rfl w1.heap.size cs rfl rfl 49 (arr fun _ => 0) ?hb (by rw [hc1]; exact size49) (by rw [arr_size, hc1]) hc2 ?next)
  case hb =>
    rw [← arr_zero]
    exact Blk.new w1 _
  rw [← arr_zero]
  simp only [Act.put]
  generalize ((w1.alloc (.cells (arr fun _ => 0) 49)).setRow w1.heap.size cs) = w0 at *
  generalize w1.heap.size = g0 at *
  go_loopw [0, 1, 5] (fun xv nv tv wr => ∃ xr m g K : Nat, m < 9223372036854775808 ∧ xv = .int .u32 xr ∧ nv = .int .i64 m ∧ tv = .pointer (some ⟨g, 0, none⟩) ∧ Hid (Turning w wr g K xr m T)) (fun _ nv _ _ => (intOf nv).toNat)
  case atStart => exact ⟨x, n, g0, 8, hn, rfl, rfl, rfl, unhide HM⟩
  case round =>
    obtain ⟨xr, m, g, K, hm, rfl, rfl, rfl, HS⟩ := hrel
    by_cases h0 : 0 < m
    · have hod := odd_is m hm
      obtain ⟨hb, hfr, hg, hxr, htt⟩ := unhide HS
      have HTW := hide (fun w => twice_any w K)
      obtain ⟨cK, hcK⟩ : ∃ cs, (arr fun j => trn K (2 ^ j)) = cs := ⟨_, rfl⟩
      obtain ⟨c2, hc2⟩ : ∃ cs, (arr fun j => trn (K + K) (2 ^ j)) = cs := ⟨_, rfl⟩
      have HOF := hide (of_any wr K xr hxr)
      rw [hcK] at HOF
      rw [hcK, hc2] at HTW
      rw [Blk, hcK] at hb
      have HB := hide hb
      have HFR := hide hfr
      have hK1 : cK.size = 32 := by rw [← hcK]; exact arr_size _
      have h21 : c2.size = 32 := by rw [← hc2]; exact arr_size _
      have h22 : c2.all (·.oneCell') = true := by rw [← hc2]; exact arr_one _
      have Hc2 := hide hc2.symm
      clear hb hfr hcK hc2
      by_cases ho : m % 2 = 1
      · rw [decide_eq_true ho] at hod
        have HT2 := hide ((half_odd K m xr ho).symm.trans htt)
        clear htt
        go_wp2_with (refine wpList_load_row rfl 49 (.tmp 5) rfl g rfl 49 cK (0, 0) _ (unhide HB) Tryd.underlying49 rfl (by rw [hK1]; exact size49) ?_)
        go_wp2_with fail
        refine (unhide HOF).mono ?_
        rintro e w1 ⟨rfl, hF1⟩
        have HB1 := hide ((hF1.block g (heap_lt (unhide HB)) (fun t => t)).trans (unhide HB))
        have HF1 := hide ((unhide HFR).trans hF1 (fun _ _ t => t))
        clear hF1
        go_wp2_with (refine wpList_load_row rfl 49 (.tmp 5) rfl g rfl 49 cK (0, 0) _ (unhide HB1) Tryd.underlying49 rfl (by rw [hK1]; exact size49) ?_)
        go_wp2_with fail
        refine (unhide HTW w1).mono ?_
        rintro e w2 ⟨rfl, hF2⟩
        have HB2 := hide ((hF2.block g (heap_lt (unhide HB1)) (fun t => t)).trans (unhide HB1))
        have HF2 := hide ((unhide HF1).trans hF2 (fun _ _ t => t))
        clear hF2
        go_wp2_with (refine wpList_store_halt rfl 49 (.tmp 5) (.tmp 18) rfl g c2 rfl rfl 49 cK (unhide HB2) (by rw [h21]; exact size49) (by rw [hK1, h21]) h22 ?_)
        rintro w3 HW3
        have hw3 := unhide HW3
        have HB3 := hide (setRow_heap w2 g cK c2 49 _ (unhide HB2))
        have HF3 := hide ((unhide HF2).setRow (g := g) (fun t => absurd t (by omega)) c2)
        rw [← hw3] at HB3 HF3
        clear hw3 HW3
        go_wp2_with (first | refine wpList_load_row rfl 49 (.tmp 5) rfl g rfl 49 c2 (0, 0) _ (unhide HB3) Tryd.underlying49 rfl (by rw [h21]; exact size49) ?_ | refine wpList_store_row rfl 49 (.tmp 5) (.tmp 19) rfl w3.heap.size c2 rfl rfl 49 (arr fun _ => 0) ?hb1 (by rw [h21]; exact size49) (by rw [arr_size, h21]) h22 ?_)
        case hb1 =>
          rw [← arr_zero]
          exact Blk.new w3 _
        rw [← arr_zero]
        refine ⟨⟨trn K xr, m / 2, w3.heap.size, K + K, by omega, rfl, by go_num, rfl, ?_, ((unhide HF3).alloc _).setRow (fun t => absurd t (by have := (unhide HF3).size; omega)) _, (unhide HF3).size, trn_lt K hxr, unhide HT2⟩, by simp [intOf]; omega⟩
        rw [Blk, ← unhide Hc2]
        exact setRow_heap _ _ (arr fun _ => 0) _ 49 _ (Blk.new w3 _)
      · rw [decide_eq_false ho] at hod
        have HT2 := hide ((half_even K m xr ho).symm.trans htt)
        clear htt
        go_wp2_with (refine wpList_load_row rfl 49 (.tmp 5) rfl g rfl 49 cK (0, 0) _ (unhide HB) Tryd.underlying49 rfl (by rw [hK1]; exact size49) ?_)
        go_wp2_with fail
        refine (unhide HTW wr).mono ?_
        rintro e w2 ⟨rfl, hF2⟩
        have HB2 := hide ((hF2.block g (heap_lt (unhide HB)) (fun t => t)).trans (unhide HB))
        have HF2 := hide ((unhide HFR).trans hF2 (fun _ _ t => t))
        clear hF2
        go_wp2_with (refine wpList_store_halt rfl 49 (.tmp 5) (.tmp 18) rfl g c2 rfl rfl 49 cK (unhide HB2) (by rw [h21]; exact size49) (by rw [hK1, h21]) h22 ?_)
        rintro w3 HW3
        have hw3 := unhide HW3
        have HB3 := hide (setRow_heap w2 g cK c2 49 _ (unhide HB2))
        have HF3 := hide ((unhide HF2).setRow (g := g) (fun t => absurd t (by omega)) c2)
        rw [← hw3] at HB3 HF3
        clear hw3 HW3
        go_wp2_with (first | refine wpList_load_row rfl 49 (.tmp 5) rfl g rfl 49 c2 (0, 0) _ (unhide HB3) Tryd.underlying49 rfl (by rw [h21]; exact size49) ?_ | refine wpList_store_row rfl 49 (.tmp 5) (.tmp 19) rfl w3.heap.size c2 rfl rfl 49 (arr fun _ => 0) ?hb2 (by rw [h21]; exact size49) (by rw [arr_size, h21]) h22 ?_)
        case hb2 =>
          rw [← arr_zero]
          exact Blk.new w3 _
        rw [← arr_zero]
        refine ⟨⟨xr, m / 2, w3.heap.size, K + K, by omega, rfl, by go_num, rfl, ?_, ((unhide HF3).alloc _).setRow (fun t => absurd t (by have := (unhide HF3).size; omega)) _, (unhide HF3).size, hxr, unhide HT2⟩, by simp [intOf]; omega⟩
        rw [Blk, ← unhide Hc2]
        exact setRow_heap _ _ (arr fun _ => 0) _ 49 _ (Blk.new w3 _)
    · obtain rfl : m = 0 := by omega
      have hxT : xr = T := (unhide HS).2.2.2.2
      subst hxT
      go_wp2
      go_ret
      exact ⟨rfl, (unhide HS).2.1⟩

end Go.Proofs.YtgbaofdbdpopnaaDoor
