import Derived.Test.YtmgejkenpfihmaaQSX
import Derived.Test.YtmgejkenpfihmaaQRX
import Derived.BigQuiet
import Derived.Deep.QuietTactic
/- The mathematics of the document's long multiplication and halving. No program is named here. -/
namespace Go.Proofs.Ytmgejkenpfihmaa

/-- Digit j in base 2^32. -/
def dgt (X j : Nat) : Nat := X / 4294967296 ^ j % 4294967296

theorem dgt_lt (X j : Nat) : dgt X j < 4294967296 := Nat.mod_lt _ (by decide)

theorem dgt_half (X j : Nat) : dgt (X / 2) j = dgt X j / 2 + dgt X (j + 1) % 2 * 2147483648 := by
  unfold dgt
  rw [Nat.div_div_eq_div_mul, Nat.mul_comm, ← Nat.div_div_eq_div_mul, Nat.pow_succ, ← Nat.div_div_eq_div_mul]
  generalize X / 4294967296 ^ j = Y
  omega

theorem dgt_top (X : Nat) (h : X < 340282366920938463463374607431768211456) : dgt X 4 = 0 := by
  unfold dgt
  rw [Nat.div_eq_of_lt (Nat.lt_of_lt_of_le h (by decide))]

theorem dgt_mul (p00 pm p11 X : Nat) (hX : X = p00 + pm * 4294967296 + p11 * 18446744073709551616) (h11 : p11 < 9223372036854775808) (hm : pm < 9223372036854775808) (h0 : p00 < 18446744073709551616) :
    dgt X 0 = p00 % 4294967296 ∧ dgt X 1 = (pm + p00 / 4294967296) % 4294967296 ∧ dgt X 2 = (p11 + (pm + p00 / 4294967296) / 4294967296) % 4294967296 ∧ dgt X 3 = (p11 + (pm + p00 / 4294967296) / 4294967296) / 4294967296 := by
  subst hX
  unfold dgt
  refine ⟨?_, ?_, ?_, ?_⟩
  · simp only [Nat.pow_zero, Nat.div_one]; omega
  · simp only [Nat.pow_one]; omega
  · rw [show (4294967296 ^ 2 : Nat) = 18446744073709551616 by decide]; omega
  · rw [show (4294967296 ^ 3 : Nat) = 79228162514264337593543950336 by decide]; omega

theorem dgt_two (X : Nat) (h : X < 18446744073709551616) : dgt X 1 * 4294967296 + dgt X 0 = X := by
  unfold dgt
  simp only [Nat.pow_zero, Nat.div_one, Nat.pow_one]
  omega

theorem half_bit (X K : Nat) (h : 0 < K) : (X + 2 ^ (K - 1)) / 2 ^ K = X / 2 ^ K + X / 2 ^ (K - 1) % 2 := by
  obtain ⟨k, rfl⟩ : ∃ k, K = k + 1 := ⟨K - 1, by omega⟩
  rw [Nat.add_sub_cancel, Nat.pow_succ, ← Nat.div_div_eq_div_mul, ← Nat.div_div_eq_div_mul, Nat.add_div_right _ (Nat.two_pow_pos k)]
  generalize X / 2 ^ k = Y
  omega

end Go.Proofs.Ytmgejkenpfihmaa

/- The document's Scale. -/
namespace Go.Proofs.Ytmgejkenpfihmaa
open Go.RowKit

set_option maxRecDepth 100000 in
theorem rscale_core (w : World) (n b W K : Nat) (hn : n ≤ 9007199254740992) (hW : W < 9007199254740992) (hK0 : 0 < K) (hK : K ≤ 1074) (hlow : n * W / 2 ^ K ≤ 9007199254740992)
    (R1 : ∀ w, Calls Try.prog 86 #[.int .i64 (n : Int)] w fun e w' => e = .returned (.bool true) ∧ w' = w) (R2 : ∀ w, Calls Try.prog 45 #[.float .f64 b] w fun e w' => e = .returned (.bool true) ∧ w' = w)
    (R3 : ∀ w, Calls Try.prog 72 #[.float .f64 b] w fun e w' => e = .returned (.tuple #[.bool false, .int .u64 (W : Int), .int .i64 (-(K : Int)), .bool true]) ∧ w' = w) :
    Calls Try.prog 76 #[.int .i64 (n : Int), .float .f64 b] w fun e w' => e = .returned (.tuple #[.int .i64 (((n * W + 2 ^ (K - 1)) / 2 ^ K : Nat) : Int), .int .i64 0]) ∧ Fr (fun _ => False) w w' := by
  have HL := hide hlow
  rw [half_bit _ _ hK0]
  have h00 : n % 4294967296 * (W % 4294967296) < 18446744073709551616 := Nat.lt_of_le_of_lt (Nat.mul_le_mul (show n % 4294967296 ≤ 4294967295 by omega) (show W % 4294967296 ≤ 4294967295 by omega)) (by decide)
  have h10 : n / 4294967296 * (W % 4294967296) ≤ 9007199254740992 := Nat.le_trans (Nat.mul_le_mul (show n / 4294967296 ≤ 2097152 by omega) (show W % 4294967296 ≤ 4294967296 by omega)) (by decide)
  have h01 : W / 4294967296 * (n % 4294967296) ≤ 9007199254740992 := Nat.le_trans (Nat.mul_le_mul (show W / 4294967296 ≤ 2097152 by omega) (show n % 4294967296 ≤ 4294967296 by omega)) (by decide)
  have h11 : n / 4294967296 * (W / 4294967296) ≤ 4398046511104 := Nat.le_trans (Nat.mul_le_mul (show n / 4294967296 ≤ 2097152 by omega) (show W / 4294967296 ≤ 2097152 by omega)) (by decide)
  have hX : n * W = n % 4294967296 * (W % 4294967296) + (n / 4294967296 * (W % 4294967296) + W / 4294967296 * (n % 4294967296)) * 4294967296 + n / 4294967296 * (W / 4294967296) * 18446744073709551616 := by
    have e1 := Nat.div_add_mod n 4294967296
    have e2 := Nat.div_add_mod W 4294967296
    generalize n / 4294967296 = n1 at *
    generalize n % 4294967296 = n0 at *
    generalize W / 4294967296 = w1 at *
    generalize W % 4294967296 = w0 at *
    subst e1
    subst e2
    simp only [Nat.add_mul, Nat.mul_add]
    rw [Nat.mul_comm w1 n0, Nat.mul_assoc 4294967296 n1, Nat.mul_left_comm n1 4294967296, Nat.mul_left_comm n0 4294967296 w1]
    rw [Nat.mul_assoc 4294967296 n1 w0]
    generalize n1 * w1 = a1
    generalize n1 * w0 = a2
    generalize n0 * w1 = a3
    generalize n0 * w0 = a4
    omega
  have q00 : IntKind.u64.wrap ((n : Int) % 4294967296 * ((W : Int) % 4294967296)) = ((n % 4294967296 * (W % 4294967296) : Nat) : Int) := by
    rw [IntKind.wrap_u64, show (n : Int) % 4294967296 * ((W : Int) % 4294967296) = ((n % 4294967296 * (W % 4294967296) : Nat) : Int) by simp]
    generalize n % 4294967296 * (W % 4294967296) = z at h00 ⊢
    omega
  have q10 : IntKind.u64.wrap ((n : Int) / 4294967296 * ((W : Int) % 4294967296)) = ((n / 4294967296 * (W % 4294967296) : Nat) : Int) := by
    rw [IntKind.wrap_u64, show (n : Int) / 4294967296 * ((W : Int) % 4294967296) = ((n / 4294967296 * (W % 4294967296) : Nat) : Int) by simp]
    generalize n / 4294967296 * (W % 4294967296) = z at h10 ⊢
    omega
  have q01 : IntKind.u64.wrap ((W : Int) / 4294967296 * ((n : Int) % 4294967296)) = ((W / 4294967296 * (n % 4294967296) : Nat) : Int) := by
    rw [IntKind.wrap_u64, show (W : Int) / 4294967296 * ((n : Int) % 4294967296) = ((W / 4294967296 * (n % 4294967296) : Nat) : Int) by simp]
    generalize W / 4294967296 * (n % 4294967296) = z at h01 ⊢
    omega
  have q11 : IntKind.u64.wrap ((n : Int) / 4294967296 * ((W : Int) / 4294967296)) = ((n / 4294967296 * (W / 4294967296) : Nat) : Int) := by
    rw [IntKind.wrap_u64, show (n : Int) / 4294967296 * ((W : Int) / 4294967296) = ((n / 4294967296 * (W / 4294967296) : Nat) : Int) by simp]
    generalize n / 4294967296 * (W / 4294967296) = z at h11 ⊢
    omega
  generalize n % 4294967296 * (W % 4294967296) = p00 at *
  generalize n / 4294967296 * (W % 4294967296) = p10 at *
  generalize W / 4294967296 * (n % 4294967296) = p01 at *
  generalize n / 4294967296 * (W / 4294967296) = p11 at *
  have HD := hide (dgt_mul p00 (p10 + p01) p11 (n * W) hX (by omega) (by omega) h00)
  have HX : Hid (n * W < 340282366920938463463374607431768211456) := by rw [hX]; unfold Hid; omega
  generalize n * W = X at *
  clear hX hlow
  go_enter Try.func76, Try.ntmps76
  go_wp2_with fail
  refine (R1 w).mono ?_
  rintro e w1 ⟨rfl, rfl⟩
  go_wp2_with fail
  refine (R2 w1).mono ?_
  rintro e w1 ⟨rfl, rfl⟩
  go_wp2_with fail
  refine (R3 w1).mono ?_
  rintro e w1 ⟨rfl, rfl⟩
  clear R1 R2 R3
  have HN : Hid (∃ N, N = w1.heap.size) := ⟨_, rfl⟩
  go_wp2
  have H0 : Hid (Fr (fun _ => False) w1 (w1.alloc (.cells #[.int .u64 ((p00 : Int) % 4294967296), .int .u64 (((p10 : Int) + p01 + (p00 : Int) / 4294967296) % 4294967296), .int .u64 (((p11 : Int) + ((p10 : Int) + p01 + (p00 : Int) / 4294967296) / 4294967296) % 4294967296), .int .u64 (((p11 : Int) + ((p10 : Int) + p01 + (p00 : Int) / 4294967296) / 4294967296) / 4294967296)] 84)) ∧
      ∀ j, j < 4 → ((w1.alloc (.cells #[.int .u64 ((p00 : Int) % 4294967296), .int .u64 (((p10 : Int) + p01 + (p00 : Int) / 4294967296) % 4294967296), .int .u64 (((p11 : Int) + ((p10 : Int) + p01 + (p00 : Int) / 4294967296) / 4294967296) % 4294967296), .int .u64 (((p11 : Int) + ((p10 : Int) + p01 + (p00 : Int) / 4294967296) / 4294967296) / 4294967296)] 84)).cell? ⟨w1.heap.size, j, none⟩ = some (.int .u64 ((dgt X j : Nat) : Int))
        ∧ (w1.alloc (.cells #[.int .u64 ((p00 : Int) % 4294967296), .int .u64 (((p10 : Int) + p01 + (p00 : Int) / 4294967296) % 4294967296), .int .u64 (((p11 : Int) + ((p10 : Int) + p01 + (p00 : Int) / 4294967296) / 4294967296) % 4294967296), .int .u64 (((p11 : Int) + ((p10 : Int) + p01 + (p00 : Int) / 4294967296) / 4294967296) / 4294967296)] 84)).frozen? ⟨w1.heap.size, j, none⟩ = false)) := by
    refine ⟨(Fr.refl _ w1).alloc _, fun j hj => ⟨?_, World.frozen?_alloc_new _ _ _ _⟩⟩
    rw [World.cell?_alloc_new]
    obtain ⟨e0, e1, e2, e3⟩ := unhide HD
    match j, hj with
    | 0, _ => rw [e0]; simp
    | 1, _ => rw [e1]; simp
    | 2, _ => rw [e2]; simp
    | 3, _ => rw [e3]; simp
    | j + 4, h => omega
  generalize w1.alloc (.cells #[.int .u64 ((p00 : Int) % 4294967296), .int .u64 (((p10 : Int) + p01 + (p00 : Int) / 4294967296) % 4294967296), .int .u64 (((p11 : Int) + ((p10 : Int) + p01 + (p00 : Int) / 4294967296) / 4294967296) % 4294967296), .int .u64 (((p11 : Int) + ((p10 : Int) + p01 + (p00 : Int) / 4294967296) / 4294967296) / 4294967296)] 84) = w2 at H0 ⊢
  clear HD q00 q10 q01 q11 h00 h10 h01 h11
  generalize hNN : w1.heap.size = N at H0 ⊢
  have HNN : Hid (w1.heap.size ≤ N) := by unfold Hid; omega
  clear hNN HN
  go_loopw [10, 16, 17, 18] (fun pv hv _ _ wr => ∃ (m hb : Nat), m ≤ K ∧ pv = .int .i64 (-(m : Int)) ∧ hv = .int .u64 (hb : Int) ∧ hb < 2 ∧ Hid (hb = (if m = K then 0 else X / 2 ^ (K - m - 1) % 2) ∧ Fr (fun _ => False) w1 wr ∧ ∀ j, j < 4 → (wr.cell? ⟨N, j, none⟩ = some (.int .u64 ((dgt (X / 2 ^ (K - m)) j : Nat) : Int)) ∧ wr.frozen? ⟨N, j, none⟩ = false))) (fun pv _ _ _ _ => (-(intOf pv)).toNat)
  case atStart => exact ⟨K, 0, Nat.le_refl _, rfl, rfl, by omega, by rw [if_pos rfl], (unhide H0).1, fun j hj => by rw [Nat.sub_self]; simpa using (unhide H0).2 j hj⟩
  case round =>
    obtain ⟨m, hb, hm, rfl, rfl, hb2, HI⟩ := hrel
    by_cases hlt : 0 < m
    · obtain ⟨HF, HC⟩ : Hid (Fr (fun _ => False) w1 wr) ∧ Hid (∀ j, j < 4 → (wr.cell? ⟨N, j, none⟩ = some (.int .u64 ((dgt (X / 2 ^ (K - m)) j : Nat) : Int)) ∧ wr.frozen? ⟨N, j, none⟩ = false)) := ⟨(unhide HI).2.1, (unhide HI).2.2⟩
      have HY : Hid (X / 2 ^ (K - m) < 340282366920938463463374607431768211456 ∧ X / 2 ^ (K - (m - 1)) = X / 2 ^ (K - m) / 2 ∧ K - (m - 1) - 1 = K - m) := by
        refine ⟨Nat.lt_of_le_of_lt (Nat.div_le_self _ _) (unhide HX), ?_, by omega⟩
        rw [show K - (m - 1) = (K - m) + 1 by omega, Nat.pow_succ, ← Nat.div_div_eq_div_mul]
      clear HI
      obtain ⟨Y, HZ⟩ : ∃ Y, Hid (X / 2 ^ (K - m) = Y) := ⟨_, rfl⟩
      have HY' : Hid (Y < 340282366920938463463374607431768211456) := by rw [← unhide HZ]; exact (unhide HY).1
      rw [unhide HZ] at HC
      have c0 := (unhide HC 0 (by omega)).1
      have hd0 := dgt_lt Y 0
      have HE : Hid (dgt Y 0 % 2 = Y % 2) := by unfold Hid dgt; simp only [Nat.pow_zero, Nat.div_one]; omega
      generalize dgt Y 0 = d0 at c0 hd0 HE
      go_wp2
      go_loopw [17, 18] (fun iv _ wq => ∃ i : Nat, i ≤ 4 ∧ iv = .int .i64 (i : Int) ∧ Hid (Fr (fun _ => False) w1 wq ∧ ∀ j, j < 4 → (wq.cell? ⟨N, j, none⟩ = some (.int .u64 (((if j < i then dgt (Y / 2) j else dgt Y j) : Nat) : Int)) ∧ wq.frozen? ⟨N, j, none⟩ = false))) (fun iv _ _ => 4 - (intOf iv).toNat)
      case atStart => exact ⟨0, by omega, rfl, unhide HF, fun j hj => by rw [if_neg (by omega)]; exact unhide HC j hj⟩
      case round =>
        obtain ⟨i, hi, rfl, HI⟩ := hrel
        by_cases hlt2 : i < 4
        · have ci := ((unhide HI).2 i hlt2).1
          have fi := ((unhide HI).2 i hlt2).2
          rw [if_neg (by omega)] at ci
          have key : Hid (∀ v : Value, v = .int .u64 ((dgt (Y / 2) i : Nat) : Int) → Fr (fun _ => False) w1 (wr.setCell ⟨N, i, none⟩ v) ∧ ∀ j, j < 4 → ((wr.setCell ⟨N, i, none⟩ v).cell? ⟨N, j, none⟩ = some (.int .u64 (((if j < i + 1 then dgt (Y / 2) j else dgt Y j) : Nat) : Int)) ∧ (wr.setCell ⟨N, i, none⟩ v).frozen? ⟨N, j, none⟩ = false)) := by
            intro v hv
            refine ⟨(unhide HI).1.setCell (p := ⟨N, i, none⟩) (fun t => absurd t (Nat.not_lt.2 (unhide HNN))) _, fun j hj => ⟨?_, by rw [World.frozen?_setCell]; exact ((unhide HI).2 j hj).2⟩⟩
            by_cases e : j = i
            · subst e; rw [World.cell?_setCell_same _ _ _ ci, hv, if_pos (by omega)]
            · rw [World.cell?_setCell_other _ _ _ _ (by intro h; injection h with _ h2; exact e h2.symm), ((unhide HI).2 j hj).1]
              by_cases h5 : j < i
              · rw [if_pos h5, if_pos (by omega)]
              · rw [if_neg h5, if_neg (by omega)]
          have hdi := dgt_lt Y i
          have HG := hide (dgt_half Y i)
          by_cases h3 : i < 3
          · have cj := ((unhide HI).2 (i + 1) (by omega)).1
            rw [if_neg (by omega)] at cj
            have hdj := dgt_lt Y (i + 1)
            generalize dgt Y i = di at ci hdi HG
            generalize dgt Y (i + 1) = dj at cj hdj HG
            go_wp2
            exact ⟨⟨i + 1, by omega, by go_num, unhide key _ (congrArg (Value.int .u64) (by rw [unhide HG]; simp))⟩, by simp [intOf]; omega⟩
          · obtain rfl : i = 3 := by omega
            have hz := dgt_top Y (unhide HY')
            have HG' : Hid (dgt (Y / 2) 3 = dgt Y 3 / 2) := by rw [unhide HG]; unfold Hid; rw [hz]; omega
            clear hz HG
            generalize dgt Y 3 = di at ci hdi HG'
            go_wp2
            exact ⟨⟨4, by omega, rfl, unhide key _ (congrArg (Value.int .u64) (by rw [unhide HG']; simp))⟩, by simp [intOf]⟩
        · obtain rfl : i = 4 := by omega
          go_wp2
          refine ⟨⟨m - 1, d0 % 2, by omega, congrArg (Value.int .i64) (by omega), by simp, by omega, ?_, (unhide HI).1, fun j hj => ?_⟩, by simp [intOf]; omega⟩
          · rw [if_neg (by omega), (unhide HY).2.2, unhide HE, unhide HZ]
          · have := (unhide HI).2 j hj
            rw [if_pos hj] at this
            rw [(unhide HY).2.1, unhide HZ]
            exact this
    · obtain rfl : m = 0 := by omega
      have c0 := ((unhide HI).2.2 0 (by omega)).1
      have c1 := ((unhide HI).2.2 1 (by omega)).1
      have HF := hide (unhide HI).2.1
      have HB : Hid (X / 2 ^ (K - 1) % 2 = hb) := by
        have := (unhide HI).1
        rw [if_neg (by omega), Nat.sub_zero] at this
        exact this.symm
      rw [Nat.sub_zero] at c0 c1
      have hy := unhide HL
      have h2 := dgt_two (X / 2 ^ K) (by omega)
      obtain ⟨y, HY⟩ : ∃ y, Hid (X / 2 ^ K = y) := ⟨_, rfl⟩
      rw [unhide HY] at h2 hy c0 c1
      have l0 := dgt_lt y 0
      have l1 := dgt_lt y 1
      generalize dgt y 0 = a0 at *
      generalize dgt y 1 = a1 at *
      have HE : Hid (((X / 2 ^ K + X / 2 ^ (K - 1) % 2 : Nat) : Int) = (a1 : Int) * 4294967296 + a0 + hb) := by rw [unhide HY, unhide HB]; unfold Hid; omega
      have hs : a1 * 4294967296 + a0 ≤ 9007199254740992 := by omega
      clear HI HB HY h2 hy
      go_wp2
      go_quiet (fail)
      go_wp2
      go_ret2
      refine ⟨?_, (unhide HF).drewN _⟩
      rw [unhide HE]
      rfl

end Go.Proofs.Ytmgejkenpfihmaa

/- The document's Scale is the program's. -/
namespace Go.Proofs.Ytmgejkenpfihmaa
open Go.RowKit

theorem rscale_main (w : World) (n b : Nat) (hn : n ≤ 9007199254740992) (hr : b ≤ 4607182418800017408) :
    Calls Try.prog 76 #[.int .i64 (n : Int), .float .f64 b] w fun e w' => e = .returned (.tuple #[.int .i64 ((sc n b : Nat) : Int), .int .i64 0]) ∧ Fr (fun _ => False) w w' := by
  have hb : b < 18446744073709551616 := by omega
  have r1 : right (n : Int) = true := (right_iff _).2 ⟨by omega, by omega⟩
  have r2 : rate b = true := by simp [rate]; omega
  have R1 := fun w => rright_any w (n : Int)
  have R2 := fun w => rrate_any w b hb
  have R3 := fun w => parts_any w b hb
  simp only [r1] at R1
  simp only [r2] at R2
  have s1 : pSign b = false := by simp [pSign]; omega
  have ex : pExp b = b / 4503599627370496 := by unfold pExp; omega
  have s2 : pOk b = true := by simp [pOk]; omega
  simp only [s1, s2] at R3
  by_cases h0 : pExp b = 0
  · have e1 : pWhole b = b % 4503599627370496 := by simp [pWhole, h0]
    have e2 : pPower b = -((1074 : Nat) : Int) := by simp [pPower, h0]
    simp only [e1, e2] at R3
    have hx : n * (b % 4503599627370496) < 2 ^ 106 := by
      have h1 : n * (b % 4503599627370496) ≤ 9007199254740992 * 4503599627370496 := Nat.mul_le_mul hn (by omega)
      exact Nat.lt_of_le_of_lt h1 (by decide)
    obtain ⟨K, hK⟩ : ∃ K, K = 1074 := ⟨_, rfl⟩
    have hbig : 2 ^ 107 ≤ 2 ^ (K - 1) := Nat.pow_le_pow_right (by decide) (by omega)
    have hdbl : 2 ^ K = 2 * 2 ^ (K - 1) := by
      rw [show K = (K - 1) + 1 by omega, Nat.pow_succ]; simp only [Nat.add_sub_cancel]; omega
    have hz : (n * (b % 4503599627370496) + 2 ^ (K - 1)) / 2 ^ K = 0 := by
      rw [hdbl]
      generalize 2 ^ (K - 1) = Z at hbig
      exact Nat.div_eq_of_lt (by omega)
    have hl : n * (b % 4503599627370496) / 2 ^ K ≤ 9007199254740992 := by
      have : n * (b % 4503599627370496) / 2 ^ K = 0 := by
        rw [hdbl]
        generalize 2 ^ (K - 1) = Z at hbig
        exact Nat.div_eq_of_lt (by omega)
      rw [this]; omega
    rw [← hK] at R3
    have := rscale_core w n b (b % 4503599627370496) K hn (by omega) (by omega) (by omega) hl R1 R2 R3
    rw [hz] at this
    rw [sc_tiny hn (by omega)]
    exact this
  · have hne : pExp b ≠ 2047 := by omega
    have e1 : pWhole b = fracOf b := by unfold pWhole fracOf; rw [if_neg hne, if_neg h0]; omega
    obtain ⟨K, hK⟩ : ∃ K, K = 1075 - b / 4503599627370496 := ⟨_, rfl⟩
    have e2 : pPower b = -(K : Int) := by unfold pPower; rw [if_neg hne, if_neg h0]; omega
    simp only [e1, e2] at R3
    have hz : (n * fracOf b + 2 ^ (K - 1)) / 2 ^ K = sc n b := by
      unfold sc
      rw [show K - 1 = 1074 - b / 4503599627370496 by omega, hK]
    have hl : n * fracOf b / 2 ^ K ≤ 9007199254740992 := by
      have h1 : n * fracOf b / 2 ^ K ≤ (n * fracOf b + 2 ^ (K - 1)) / 2 ^ K := Nat.div_le_div_right (Nat.le_add_right _ _)
      rw [hz] at h1
      exact Nat.le_trans h1 (Nat.le_trans (sc_le hr) hn)
    have := rscale_core w n b (fracOf b) K hn (by unfold fracOf; omega) (by omega) (by omega) hl R1 R2 R3
    rw [hz] at this
    exact this

theorem rscale_any (w : World) (n : Int) (b : Nat) (hb : b < 18446744073709551616) :
    Calls Try.prog 76 #[.int .i64 n, .float .f64 b] w fun e w' => e = .returned (.tuple #[.int .i64 (rv (scaled n b)), .int .i64 (scaleE n b)]) ∧ Fr (fun _ => False) w w' := by
  have R1 := rright_any w n
  have R2 := rrate_any w b hb
  by_cases h1 : owed n = true
  · have hn : 0 ≤ n ∧ n ≤ 9007199254740992 := by
      have := h1; simp [owed, right] at this; omega
    by_cases h2 : rate b = true
    · have hr : b ≤ 4607182418800017408 := by simpa [rate] using h2
      obtain ⟨m, rfl⟩ := Int.eq_ofNat_of_zero_le hn.1
      have e1 : scaled (m : Int) b = some ((sc m b : Nat) : Int) := by simp [scaled, h1, h2]
      have e2 : scaleE (m : Int) b = 0 := by simp [scaleE, h1, h2]
      rw [e1, e2]
      exact rscale_main w m b (by omega) hr
    · have h2' : rate b = false := by simpa using h2
      have e1 : scaled n b = none := by simp [scaled, h2']
      have e2 : scaleE n b = 51 := by simp [scaleE, h1, h2']
      have hr : right n = true := (right_iff _).2 ⟨by omega, hn.2⟩
      rw [e1, e2]
      rw [hr] at R1
      rw [h2'] at R2
      have hn0 := hn.1
      clear e1 e2 h1 h2 h2' hr hn
      go_enter Try.func76, Try.ntmps76
      go_wp2_with fail
      refine R1.mono ?_
      rintro e w1 ⟨rfl, rfl⟩
      go_wp2_with fail
      refine R2.mono ?_
      rintro e w1 ⟨rfl, rfl⟩
      go_wp2
      go_ret2
      exact ⟨rfl, Fr.refl _ _⟩
  · have h1' : owed n = false := by simpa using h1
    have e1 : scaled n b = none := by simp [scaled, h1']
    have e2 : scaleE n b = 50 := by simp [scaleE, h1']
    rw [e1, e2]
    clear e1 e2 R2
    by_cases hr : right n = true
    · have hneg : n < 0 := by
        have := h1'; rw [owed, hr] at this; simp at this; omega
      rw [hr] at R1
      clear h1 h1' hr
      go_enter Try.func76, Try.ntmps76
      go_wp2_with fail
      refine R1.mono ?_
      rintro e w1 ⟨rfl, rfl⟩
      go_wp2
      go_ret2
      exact ⟨rfl, Fr.refl _ _⟩
    · have hr' : right n = false := by simpa using hr
      rw [hr'] at R1
      clear h1 h1' hr hr'
      go_enter Try.func76, Try.ntmps76
      go_wp2_with fail
      refine R1.mono ?_
      rintro e w1 ⟨rfl, rfl⟩
      go_wp2
      go_ret2
      exact ⟨rfl, Fr.refl _ _⟩

end Go.Proofs.Ytmgejkenpfihmaa

