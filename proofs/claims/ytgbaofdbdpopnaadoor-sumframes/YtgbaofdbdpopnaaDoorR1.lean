/- The document's own: turns, More, Sum. -/
import Derived.Test.YtgbaofdbdpopnaaDoorS1
namespace Go.Proofs.YtgbaofdbdpopnaaDoor
open Go.RowKit

theorem turn_odd {r : Nat} (h : r % 2 = 1) : turn r = r / 2 ^^^ 2197175160 := if_pos h
theorem turn_even {r : Nat} (h : ¬ r % 2 = 1) : turn r = r / 2 := if_neg h

theorem turns_any (w : World) (r n : Nat) (hr : r < 4294967296) (hn : n < 1000) : Calls Tryd.prog 26 #[.int .u32 r, .int .i64 n] w fun e w' => e = .returned (.int .u32 (trn n r)) ∧ w' = w := by
  go_enter Tryd.func26, Tryd.ntmps26
  go_wp2
  go_loopw [0, 5] (fun rv iv wr => ∃ i : Nat, i ≤ n ∧ iv = .int .i64 i ∧ rv = .int .u32 (trn i r) ∧ w = wr) (fun _ iv _ => n - (intOf iv).toNat)
  case atStart => exact ⟨0, Nat.zero_le _, rfl, rfl, rfl⟩
  case round =>
    obtain ⟨i, hi, rfl, rfl, rfl⟩ := hrel
    by_cases hlt : i < n
    · have hl := trn_lt i hr
      have ht : trn (i + 1) r = turn (trn i r) := rfl
      obtain ⟨q, hq⟩ : ∃ q, trn i r = q := ⟨_, rfl⟩
      rw [hq] at hl ht ⊢
      by_cases ho : q % 2 = 1
      · rw [turn_odd ho] at ht
        have hx := u32_xor_nat (q / 2) 2197175160 (by omega) (by omega)
        rw [← ht] at hx
        have hx2 : bits .xor .u32 ((q : Int) / 2) 2197175160 = ((trn (i + 1) r : Nat) : Int) := hx
        have hb : ((q : Int) % 2 == 1) = true := by simp; omega
        clear ho ht hx hq
        go_wp2
        exact ⟨⟨i + 1, by omega, by go_num, rfl, trivial⟩, by simp [intOf]; omega⟩
      · rw [turn_even ho] at ht
        have hb : ((q : Int) % 2 == 1) = false := by simp; omega
        clear ho
        go_wp2
        exact ⟨⟨i + 1, by omega, by go_num, by rw [ht]; simp, trivial⟩, by simp [intOf]; omega⟩
    · obtain rfl : i = n := by omega
      go_wp2
      go_ret
      exact ⟨rfl, rfl⟩

theorem rmore_any (w : World) (s : Int) (ao : Option Addr) (cap : Nat) (bs : List UInt8) (hB : BAt w ao cap bs) :
    Calls Tryd.prog 14 #[.int .i64 s, .slice ao bs.length cap] w fun e w' => e = .returned (moreV s bs) ∧ w' = w := by
  have HB := hide hB
  have hsm := hB.2.2
  clear hB
  by_cases hi : isS s = true
  · obtain ⟨n, rfl, hn⟩ := isS_nat hi
    rw [moreV, if_pos hi, Int.toNat_natCast]
    have hw : IntKind.u32.wrap (n : Int) = (n : Int) := by rw [IntKind.wrap_u32']; omega
    have hl := moreF_lt bs hn
    have hx0 : bits .xor .u32 (n : Int) 4294967295 = ((n ^^^ 4294967295 : Nat) : Int) := u32_xor_nat n 4294967295 hn (by omega)
    have hx1 : bits .xor .u32 ((run (n ^^^ 4294967295) bs : Nat) : Int) 4294967295 = ((moreF n bs : Nat) : Int) := u32_xor_nat _ 4294967295 (run_lt bs (xor32 hn (by omega))) (by omega)
    go_enter Tryd.func14, Tryd.ntmps14
    go_wp2_with fail
    refine (may_any _ _).mono ?_
    rintro e w1 ⟨rfl, rfl⟩
    rw [hi]
    go_wp2
    go_loopw [7, 8] (fun nv iv wr => ∃ i : Nat, i ≤ bs.length ∧ iv = .int .i64 i ∧ nv = .int .u32 (run (n ^^^ 4294967295) (bs.take i)) ∧ w1 = wr) (fun _ iv _ => bs.length - (intOf iv).toNat)
    case atStart => exact ⟨0, Nat.zero_le _, rfl, rfl, rfl⟩
    case round =>
      obtain ⟨i, hi, rfl, rfl, rfl⟩ := hrel
      by_cases hlt : i < bs.length
      · obtain ⟨b, off, rfl, hc⟩ := (unhide HB).2.1 (by omega)
        have ci := hc i hlt
        clear hc
        have hr := run_lt (bs.take i) (xor32 hn (show 4294967295 < 4294967296 by omega))
        have hxr := u32_xor_nat (run (n ^^^ 4294967295) (bs.take i)) bs[i].toNat hr (byte32 _)
        have hnx : run (n ^^^ 4294967295) (bs.take (i + 1)) = trn 8 (run (n ^^^ 4294967295) (bs.take i) ^^^ bs[i].toNat) := by
          rw [List.take_succ_eq_append_getElem hlt, run_append]; rfl
        have hrx := xor32 hr (byte32 bs[i])
        have hby := bs[i].toNat_lt
        generalize run (n ^^^ 4294967295) (bs.take i) = r at *
        generalize bs[i].toNat = c at *
        go_wp2_with fail
        refine (turns_any _ (r ^^^ c) 8 hrx (by omega)).mono ?_
        rintro e w1 ⟨rfl, rfl⟩
        go_wp2
        exact ⟨⟨i + 1, by omega, by go_num, by rw [hnx], trivial⟩, by simp [intOf]; omega⟩
      · obtain rfl : i = bs.length := by omega
        rw [List.take_length] at *
        go_wp2
        go_ret2
        exact ⟨rfl, rfl⟩
  · rw [moreV, if_neg hi]
    have hi2 : isS s = false := by simpa using hi
    clear hi
    go_enter Tryd.func14, Tryd.ntmps14
    go_wp2_with fail
    refine (may_any _ _).mono ?_
    rintro e w1 ⟨rfl, rfl⟩
    rw [hi2]
    go_wp2
    go_ret2
    exact ⟨rfl, rfl⟩

theorem rsum_any (w : World) (ao : Option Addr) (cap : Nat) (bs : List UInt8) (hB : BAt w ao cap bs) :
    Calls Tryd.prog 15 #[.slice ao bs.length cap] w fun e w' => e = .returned (.int .i64 (sumF bs)) ∧ w' = w := by
  have HB := hide hB
  clear hB
  go_enter Tryd.func15, Tryd.ntmps15
  go_wp2_with fail
  refine (rmore_any _ 0 ao cap bs (unhide HB)).mono ?_
  rw [show moreV 0 bs = .tuple #[.int .i64 (sumF bs), .int .i64 0] from rfl]
  rintro e w1 ⟨rfl, rfl⟩
  go_wp2
  go_ret
  exact ⟨rfl, rfl⟩

end Go.Proofs.YtgbaofdbdpopnaaDoor
