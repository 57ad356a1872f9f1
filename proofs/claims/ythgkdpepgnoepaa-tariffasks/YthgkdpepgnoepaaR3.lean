/- The document's Scale. -/
import Derived.Test.YthgkdpepgnoepaaR2
import Derived.Test.YthgkdpepgnoepaaM2
import Derived.BigQuiet
import Derived.Deep.QuietTactic
namespace Go.Proofs.Ythgkdpepgnoepaa
open Go.RowKit

set_option maxRecDepth 100000 in
theorem rscale_core (w : World) (n b W K : Nat) (hn : n ≤ 9007199254740992) (hW : W < 9007199254740992) (hK0 : 0 < K) (hK : K ≤ 1074) (hlow : n * W / 2 ^ K ≤ 9007199254740992)
    (R1 : ∀ w, Calls Try.prog 66 #[.int .i64 (n : Int)] w fun e w' => e = .returned (.bool true) ∧ w' = w) (R2 : ∀ w, Calls Try.prog 36 #[.float .f64 b] w fun e w' => e = .returned (.bool true) ∧ w' = w)
    (R3 : ∀ w, Calls Try.prog 60 #[.float .f64 b] w fun e w' => e = .returned (.tuple #[.bool false, .int .u64 (W : Int), .int .i64 (-(K : Int)), .bool true]) ∧ w' = w) :
    Calls Try.prog 46 #[.int .i64 (n : Int), .float .f64 b] w fun e w' => e = .returned (.tuple #[.int .i64 (((n * W + 2 ^ (K - 1)) / 2 ^ K : Nat) : Int), .int .i64 0]) ∧ Fr (fun _ => False) w w' := by
  have HL := hide hlow
  rw [half_bit _ _ hK0]
  have h00 : n % 4294967296 * (W % 4294967296) < 18446744073709551616 := Nat.lt_of_le_of_lt (Nat.mul_le_mul (show n % 4294967296 ≤ 4294967295 by omega) (show W % 4294967296 ≤ 4294967295 by omega)) (by decide)
  have h10 : n / 4294967296 * (W % 4294967296) ≤ 9007199254740992 := Nat.le_trans (Nat.mul_le_mul (show n / 4294967296 ≤ 2097152 by omega) (show W % 4294967296 ≤ 4294967296 by omega)) (by decide)
  have h01 : W / 4294967296 * (n % 4294967296) ≤ 9007199254740992 := Nat.le_trans (Nat.mul_le_mul (show W / 4294967296 ≤ 2097152 by omega) (show n % 4294967296 ≤ 4294967296 by omega)) (by decide)
  have h11 : n / 4294967296 * (W / 4294967296) ≤ 4398046511104 := Nat.le_trans (Nat.mul_le_mul (show n / 4294967296 ≤ 2097152 by omega) (show W / 4294967296 ≤ 2097152 by omega)) (by decide)
  have hX : n * W = n % 4294967296 * (W % 4294967296) + (n / 4294967296 * (W % 4294967296) + W / 4294967296 * (n % 4294967296)) * 4294967296 + n / 4294967296 * (W / 4294967296) * 18446744073709551616 := by
    have e1 := Nat.div_add_mod n 4294967296
    have e2 := Nat.div_add_mod W 4294967296
    generalize n / 4294967296 = n1 at *
    generalize n % 4294967296 = n0 at *
    generalize W / 4294967296 = w1 at *
    generalize W % 4294967296 = w0 at *
    subst e1
    subst e2
    simp only [Nat.add_mul, Nat.mul_add]
    rw [Nat.mul_comm w1 n0, Nat.mul_assoc 4294967296 n1, Nat.mul_left_comm n1 4294967296, Nat.mul_left_comm n0 4294967296 w1]
    rw [Nat.mul_assoc 4294967296 n1 w0]
    generalize n1 * w1 = a1
    generalize n1 * w0 = a2
    generalize n0 * w1 = a3
    generalize n0 * w0 = a4
    omega
  have q00 : IntKind.u64.wrap ((n : Int) % 4294967296 * ((W : Int) % 4294967296)) = ((n % 4294967296 * (W % 4294967296) : Nat) : Int) := by
    rw [IntKind.wrap_u64, show (n : Int) % 4294967296 * ((W : Int) % 4294967296) = ((n % 4294967296 * (W % 4294967296) : Nat) : Int) by simp]
    generalize n % 4294967296 * (W % 4294967296) = z at h00 ⊢
    omega
  have q10 : IntKind.u64.wrap ((n : Int) / 4294967296 * ((W : Int) % 4294967296)) = ((n / 4294967296 * (W % 4294967296) : Nat) : Int) := by
    rw [IntKind.wrap_u64, show (n : Int) / 4294967296 * ((W : Int) % 4294967296) = ((n / 4294967296 * (W % 4294967296) : Nat) : Int) by simp]
    generalize n / 4294967296 * (W % 4294967296) = z at h10 ⊢
    omega
  have q01 : IntKind.u64.wrap ((W : Int) / 4294967296 * ((n : Int) % 4294967296)) = ((W / 4294967296 * (n % 4294967296) : Nat) : Int) := by
    rw [IntKind.wrap_u64, show (W : Int) / 4294967296 * ((n : Int) % 4294967296) = ((W / 4294967296 * (n % 4294967296) : Nat) : Int) by simp]
    generalize W / 4294967296 * (n % 4294967296) = z at h01 ⊢
    omega
  have q11 : IntKind.u64.wrap ((n : Int) / 4294967296 * ((W : Int) / 4294967296)) = ((n / 4294967296 * (W / 4294967296) : Nat) : Int) := by
    rw [IntKind.wrap_u64, show (n : Int) / 4294967296 * ((W : Int) / 4294967296) = ((n / 4294967296 * (W / 4294967296) : Nat) : Int) by simp]
    generalize n / 4294967296 * (W / 4294967296) = z at h11 ⊢
    omega
  generalize n % 4294967296 * (W % 4294967296) = p00 at *
  generalize n / 4294967296 * (W % 4294967296) = p10 at *
  generalize W / 4294967296 * (n % 4294967296) = p01 at *
  generalize n / 4294967296 * (W / 4294967296) = p11 at *
  have HD := hide (dgt_mul p00 (p10 + p01) p11 (n * W) hX (by omega) (by omega) h00)
  have HX : Hid (n * W < 340282366920938463463374607431768211456) := by rw [hX]; unfold Hid; omega
  generalize n * W = X at *
  clear hX hlow
  go_enter Try.func46, Try.ntmps46
  go_wp2_with fail
  refine (R1 w).mono ?_
  rintro e w1 ⟨rfl, rfl⟩
  go_wp2_with fail
  refine (R2 w1).mono ?_
  rintro e w1 ⟨rfl, rfl⟩
  go_wp2_with fail
  refine (R3 w1).mono ?_
  rintro e w1 ⟨rfl, rfl⟩
  clear R1 R2 R3
  have HN : Hid (∃ N, N = w1.heap.size) := ⟨_, rfl⟩
  go_wp2
  have H0 : Hid (Fr (fun _ => False) w1 (w1.alloc (.cells #[.int .u64 ((p00 : Int) % 4294967296), .int .u64 (((p10 : Int) + p01 + (p00 : Int) / 4294967296) % 4294967296), .int .u64 (((p11 : Int) + ((p10 : Int) + p01 + (p00 : Int) / 4294967296) / 4294967296) % 4294967296), .int .u64 (((p11 : Int) + ((p10 : Int) + p01 + (p00 : Int) / 4294967296) / 4294967296) / 4294967296)] 79)) ∧
      ∀ j, j < 4 → ((w1.alloc (.cells #[.int .u64 ((p00 : Int) % 4294967296), .int .u64 (((p10 : Int) + p01 + (p00 : Int) / 4294967296) % 4294967296), .int .u64 (((p11 : Int) + ((p10 : Int) + p01 + (p00 : Int) / 4294967296) / 4294967296) % 4294967296), .int .u64 (((p11 : Int) + ((p10 : Int) + p01 + (p00 : Int) / 4294967296) / 4294967296) / 4294967296)] 79)).cell? ⟨w1.heap.size, j, none⟩ = some (.int .u64 ((dgt X j : Nat) : Int))
        ∧ (w1.alloc (.cells #[.int .u64 ((p00 : Int) % 4294967296), .int .u64 (((p10 : Int) + p01 + (p00 : Int) / 4294967296) % 4294967296), .int .u64 (((p11 : Int) + ((p10 : Int) + p01 + (p00 : Int) / 4294967296) / 4294967296) % 4294967296), .int .u64 (((p11 : Int) + ((p10 : Int) + p01 + (p00 : Int) / 4294967296) / 4294967296) / 4294967296)] 79)).frozen? ⟨w1.heap.size, j, none⟩ = false)) := by
    refine ⟨(Fr.refl _ w1).alloc _, fun j hj => ⟨?_, World.frozen?_alloc_new _ _ _ _⟩⟩
    rw [World.cell?_alloc_new]
    obtain ⟨e0, e1, e2, e3⟩ := unhide HD
    match j, hj with
    | 0, _ => rw [e0]; simp
    | 1, _ => rw [e1]; simp
    | 2, _ => rw [e2]; simp
    | 3, _ => rw [e3]; simp
    | j + 4, h => omega
  generalize w1.alloc (.cells #[.int .u64 ((p00 : Int) % 4294967296), .int .u64 (((p10 : Int) + p01 + (p00 : Int) / 4294967296) % 4294967296), .int .u64 (((p11 : Int) + ((p10 : Int) + p01 + (p00 : Int) / 4294967296) / 4294967296) % 4294967296), .int .u64 (((p11 : Int) + ((p10 : Int) + p01 + (p00 : Int) / 4294967296) / 4294967296) / 4294967296)] 79) = w2 at H0 ⊢
  clear HD q00 q10 q01 q11 h00 h10 h01 h11
  generalize hNN : w1.heap.size = N at H0 ⊢
  have HNN : Hid (w1.heap.size ≤ N) := by unfold Hid; omega
  clear hNN HN
  go_loopw [10, 16, 17, 18] (fun pv hv _ _ wr => ∃ (m hb : Nat), m ≤ K ∧ pv = .int .i64 (-(m : Int)) ∧ hv = .int .u64 (hb : Int) ∧ hb < 2 ∧ Hid (hb = (if m = K then 0 else X / 2 ^ (K - m - 1) % 2) ∧ Fr (fun _ => False) w1 wr ∧ ∀ j, j < 4 → (wr.cell? ⟨N, j, none⟩ = some (.int .u64 ((dgt (X / 2 ^ (K - m)) j : Nat) : Int)) ∧ wr.frozen? ⟨N, j, none⟩ = false))) (fun pv _ _ _ _ => (-(intOf pv)).toNat)
  case atStart => exact ⟨K, 0, Nat.le_refl _, rfl, rfl, by omega, by rw [if_pos rfl], (unhide H0).1, fun j hj => by rw [Nat.sub_self]; simpa using (unhide H0).2 j hj⟩
  case round =>
    obtain ⟨m, hb, hm, rfl, rfl, hb2, HI⟩ := hrel
    by_cases hlt : 0 < m
    · obtain ⟨HF, HC⟩ : Hid (Fr (fun _ => False) w1 wr) ∧ Hid (∀ j, j < 4 → (wr.cell? ⟨N, j, none⟩ = some (.int .u64 ((dgt (X / 2 ^ (K - m)) j : Nat) : Int)) ∧ wr.frozen? ⟨N, j, none⟩ = false)) := ⟨(unhide HI).2.1, (unhide HI).2.2⟩
      have HY : Hid (X / 2 ^ (K - m) < 340282366920938463463374607431768211456 ∧ X / 2 ^ (K - (m - 1)) = X / 2 ^ (K - m) / 2 ∧ K - (m - 1) - 1 = K - m) := by
        refine ⟨Nat.lt_of_le_of_lt (Nat.div_le_self _ _) (unhide HX), ?_, by omega⟩
        rw [show K - (m - 1) = (K - m) + 1 by omega, Nat.pow_succ, ← Nat.div_div_eq_div_mul]
      clear HI
      obtain ⟨Y, HZ⟩ : ∃ Y, Hid (X / 2 ^ (K - m) = Y) := ⟨_, rfl⟩
      have HY' : Hid (Y < 340282366920938463463374607431768211456) := by rw [← unhide HZ]; exact (unhide HY).1
      rw [unhide HZ] at HC
      have c0 := (unhide HC 0 (by omega)).1
      have hd0 := dgt_lt Y 0
      have HE : Hid (dgt Y 0 % 2 = Y % 2) := by unfold Hid dgt; simp only [Nat.pow_zero, Nat.div_one]; omega
      generalize dgt Y 0 = d0 at c0 hd0 HE
      go_wp2
      go_loopw [17, 18] (fun iv _ wq => ∃ i : Nat, i ≤ 4 ∧ iv = .int .i64 (i : Int) ∧ Hid (Fr (fun _ => False) w1 wq ∧ ∀ j, j < 4 → (wq.cell? ⟨N, j, none⟩ = some (.int .u64 (((if j < i then dgt (Y / 2) j else dgt Y j) : Nat) : Int)) ∧ wq.frozen? ⟨N, j, none⟩ = false))) (fun iv _ _ => 4 - (intOf iv).toNat)
      case atStart => exact ⟨0, by omega, rfl, unhide HF, fun j hj => by rw [if_neg (by omega)]; exact unhide HC j hj⟩
      case round =>
        obtain ⟨i, hi, rfl, HI⟩ := hrel
        by_cases hlt2 : i < 4
        · have ci := ((unhide HI).2 i hlt2).1
          have fi := ((unhide HI).2 i hlt2).2
          rw [if_neg (by omega)] at ci
          have key : Hid (∀ v : Value, v = .int .u64 ((dgt (Y / 2) i : Nat) : Int) → Fr (fun _ => False) w1 (wr.setCell ⟨N, i, none⟩ v) ∧ ∀ j, j < 4 → ((wr.setCell ⟨N, i, none⟩ v).cell? ⟨N, j, none⟩ = some (.int .u64 (((if j < i + 1 then dgt (Y / 2) j else dgt Y j) : Nat) : Int)) ∧ (wr.setCell ⟨N, i, none⟩ v).frozen? ⟨N, j, none⟩ = false)) := by
            intro v hv
            refine ⟨(unhide HI).1.setCell (p := ⟨N, i, none⟩) (fun t => absurd t (Nat.not_lt.2 (unhide HNN))) _, fun j hj => ⟨?_, by rw [World.frozen?_setCell]; exact ((unhide HI).2 j hj).2⟩⟩
            by_cases e : j = i
            · subst e; rw [World.cell?_setCell_same _ _ _ ci, hv, if_pos (by omega)]
            · rw [World.cell?_setCell_other _ _ _ _ (by intro h; injection h with _ h2; exact e h2.symm), ((unhide HI).2 j hj).1]
              by_cases h5 : j < i
              · rw [if_pos h5, if_pos (by omega)]
              · rw [if_neg h5, if_neg (by omega)]
          have hdi := dgt_lt Y i
          have HG := hide (dgt_half Y i)
          by_cases h3 : i < 3
          · have cj := ((unhide HI).2 (i + 1) (by omega)).1
            rw [if_neg (by omega)] at cj
            have hdj := dgt_lt Y (i + 1)
            generalize dgt Y i = di at ci hdi HG
            generalize dgt Y (i + 1) = dj at cj hdj HG
            go_wp2
            exact ⟨⟨i + 1, by omega, by go_num, unhide key _ (congrArg (Value.int .u64) (by rw [unhide HG]; simp))⟩, by simp [intOf]; omega⟩
          · obtain rfl : i = 3 := by omega
            have hz := dgt_top Y (unhide HY')
            have HG' : Hid (dgt (Y / 2) 3 = dgt Y 3 / 2) := by rw [unhide HG]; unfold Hid; rw [hz]; omega
            clear hz HG
            generalize dgt Y 3 = di at ci hdi HG'
            go_wp2
            exact ⟨⟨4, by omega, rfl, unhide key _ (congrArg (Value.int .u64) (by rw [unhide HG']; simp))⟩, by simp [intOf]⟩
        · obtain rfl : i = 4 := by omega
          go_wp2
          refine ⟨⟨m - 1, d0 % 2, by omega, congrArg (Value.int .i64) (by omega), by simp, by omega, ?_, (unhide HI).1, fun j hj => ?_⟩, by simp [intOf]; omega⟩
          · rw [if_neg (by omega), (unhide HY).2.2, unhide HE, unhide HZ]
          · have := (unhide HI).2 j hj
            rw [if_pos hj] at this
            rw [(unhide HY).2.1, unhide HZ]
            exact this
    · obtain rfl : m = 0 := by omega
      have c0 := ((unhide HI).2.2 0 (by omega)).1
      have c1 := ((unhide HI).2.2 1 (by omega)).1
      have HF := hide (unhide HI).2.1
      have HB : Hid (X / 2 ^ (K - 1) % 2 = hb) := by
        have := (unhide HI).1
        rw [if_neg (by omega), Nat.sub_zero] at this
        exact this.symm
      rw [Nat.sub_zero] at c0 c1
      have hy := unhide HL
      have h2 := dgt_two (X / 2 ^ K) (by omega)
      obtain ⟨y, HY⟩ : ∃ y, Hid (X / 2 ^ K = y) := ⟨_, rfl⟩
      rw [unhide HY] at h2 hy c0 c1
      have l0 := dgt_lt y 0
      have l1 := dgt_lt y 1
      generalize dgt y 0 = a0 at *
      generalize dgt y 1 = a1 at *
      have HE : Hid (((X / 2 ^ K + X / 2 ^ (K - 1) % 2 : Nat) : Int) = (a1 : Int) * 4294967296 + a0 + hb) := by rw [unhide HY, unhide HB]; unfold Hid; omega
      have hs : a1 * 4294967296 + a0 ≤ 9007199254740992 := by omega
      clear HI HB HY h2 hy
      go_wp2
      go_quiet (fail)
      go_wp2
      go_ret2
      refine ⟨?_, (unhide HF).drewN _⟩
      rw [unhide HE]
      rfl

end Go.Proofs.Ythgkdpepgnoepaa
