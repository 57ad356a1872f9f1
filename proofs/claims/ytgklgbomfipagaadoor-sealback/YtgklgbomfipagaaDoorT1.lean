/- The walk of SealPads. -/
import Derived.Test.YtgklgbomfipagaaDoorS9
namespace Go.Proofs.YtgklgbomfipagaaDoor
open Go.RowKit

theorem i64_and63 (n : Int) : bits .and .i64 n 63 = n % 64 := by
  show IntKind.i64.wrap ((BitVec.ofInt 64 n &&& BitVec.ofInt 64 63).toNat : Int) = _
  have h : (BitVec.ofInt 64 n &&& BitVec.ofInt 64 63).toNat = (n % 64).toNat := by
    rw [BitVec.toNat_and]
    have h63 : (BitVec.ofInt 64 63).toNat = 2 ^ 6 - 1 := by decide
    rw [h63, Nat.and_two_pow_sub_one_eq_mod, BitVec.toNat_ofInt]
    omega
  rw [h, IntKind.wrap_i64] <;> omega

theorem ba_append (a b : List UInt8) (B : Array UInt8) (hB : B = b.toArray) : ((⟨a.toArray⟩ : ByteArray) ++ (⟨B⟩ : ByteArray)) = ⟨(a ++ b).toArray⟩ := by
  subst hB
  apply ByteArray.ext
  simp

/-- 'string(make([]byte, k))'. -/
theorem made_bat (w : World) (k : Nat) (hk : k ≤ 64) : BAt (w.alloc (.cells (madeCells #[.int .u8 0] k) 5)) (some ⟨w.heap.size, 0, none⟩) k (List.replicate k 0) := by
  refine ⟨fun e => (by cases e), fun _ => ⟨_, 0, rfl, fun j hj => ?_⟩, by simp; omega⟩
  rw [List.length_replicate] at hj
  rw [Nat.zero_add, World.cell?_alloc_new]
  simp [madeCells, hj, Nat.mod_one]

set_option maxHeartbeats 2000000 in
theorem pads_walk (w : World) (hT : TabP w) (s : List UInt8) (z : Int) (bo : Option Addr) (bc : Nat) (bs : List UInt8) (hB : BAt w bo bc bs) (hcap : bs.length ≤ bc) :
    Calls Tryd.prog 7 #[.string ⟨s.toArray⟩, .int .i64 z, .slice bo bs.length bc] w fun e w' => e = .returned (.bool true) ∧ Fr (fun _ => False) w w' := by
  have HT := hide hT
  have HB := hide hB
  clear hT hB
  go_enter Tryd.func7, Tryd.ntmps7
  go_wp2_with fail
  refine (awake_any w (unhide HT)).mono ?_
  rintro e w1 ⟨rfl, hF1⟩
  have HF1 := hide hF1
  clear hF1
  go_wp2_with fail
  by_cases hs : 200 < s.length
  · refine (macP_long w1 s hs _).mono ?_
    rintro e w2 ⟨rfl, rfl⟩
    go_wp2
    go_ret
    exact ⟨rfl, unhide HF1⟩
  · refine (macP_any w1 ((unhide HT).later (unhide HF1)) s (by omega) bo bc bs ((unhide HB).later (unhide HF1)) hcap).mono ?_
    rintro e w2 ⟨mo, mc, rfl, g2, r1, r2, r3⟩
    have hF2 := (unhide HF1).trans r2 (fun _ _ t => t)
    have H2 := hide (And.intro (r1.batn (by omega)) hF2)
    clear r1 r2 r3 hF2
    have fin : ∀ (o : List UInt8), pad o = pad s → o.length ≤ 200 → ∀ w3, Fr (fun _ => False) w w3 → Calls Tryd.prog 11 #[.string ⟨o.toArray⟩, .slice bo bs.length bc] w3 fun e w' => ∃ ao cap, e = .returned (.tuple #[.slice ao 32 cap, .int .i64 0]) ∧ New w3 (hmac s bs) (.slice ao 32 cap) w' := fun o ho hl w3 hF3 => by
      have := macP_any w3 ((unhide HT).later hF3) o hl bo bc bs ((unhide HB).later hF3) hcap
      rw [hmac_pad ho] at this
      exact this
    have HFin := hide fin
    clear fin
    by_cases hlt : 64 < s.length
    · have hd : decide ((64 : Int) < (s.length : Int)) = true := by simp; omega
      obtain ⟨C, w3, hcv, H3⟩ := conv_str w2 s (by omega)
      have hb3 := (unhide H3).1.batn (by omega)
      have HS := hide (sum_any w3 ((unhide HT).later ((unhide H2).2.trans (unhide H3).2.1 (fun _ _ t => t))) _ C s hb3.1 hb3.2.2)
      clear hb3
      go_wp2_with fail
      refine (unhide HS).mono ?_
      rintro e w4 ⟨v, rfl, g, r1, r2, r3⟩
      obtain ⟨ao, cap, rfl, hlc, _, had, _⟩ := r1.shape
      have cv4 := conv_bytes (r1.bat (by rw [dig_len]; omega)).2
      have hF4 := ((unhide H2).2.trans (unhide H3).2.1 (fun _ _ t => t)).trans r2 (fun _ _ t => t)
      have HF4 := hide (And.intro hF4 ((unhide H3).2.1.trans r2 (fun _ _ t => t)))
      clear hF4 r1 r2 r3 HS H3 had hlc
      go_wp2_with fail
      refine (unhide HFin (digest s) (pad_long s hlt) (by rw [dig_len]; omega) w4 (unhide HF4).1).mono ?_
      rintro e w5 ⟨no, nc, rfl, g5, r1, r2, r3⟩
      have b5 := r1.batn (by omega)
      have b2 := ((unhide H2).1.1.later (unhide HF4).2).later r2
      have cn := conv_bytes b5.1
      have cm := conv_bytes b2
      rw [hmac_length] at cn cm
      have H5 := hide ((unhide HF4).1.trans r2 (fun _ _ t => t))
      generalize hmac s bs = D at *
      clear b5 b2 r1 r2 r3 H2 HF4 HFin
      go_wp2
      go_ret
      exact ⟨rfl, unhide H5⟩
    · have hd : decide ((64 : Int) < (s.length : Int)) = false := by simp; omega
      have hand := i64_and63 z
      obtain ⟨k, hk, hk2⟩ : ∃ k : Nat, (if 64 - (s.length : Int) < z % 64 then 64 - (s.length : Int) else z % 64) = (k : Int) ∧ s.length + k ≤ 64 := by
        by_cases h : 64 - (s.length : Int) < z % 64
        · exact ⟨64 - s.length, by rw [if_pos h]; omega, by omega⟩
        · exact ⟨(z % 64).toNat, by rw [if_neg h]; omega, by omega⟩
      have hmk := fun w' => run_make_row' (P := Tryd.prog) 22 5 (.int .u8 0) 1 Tryd.underlying22 Tryd.info5 rfl .i64 .i64 k (by omega) (by omega) w'
      have cz := conv_bytes (made_bat w2 k (by omega))
      rw [List.length_replicate] at cz
      generalize hq : z % 64 = q at *
      have hba : ((⟨s.toArray⟩ : ByteArray) ++ (⟨Array.replicate k 0⟩ : ByteArray)) = ⟨(s ++ List.replicate k 0).toArray⟩ := ba_append s (List.replicate k 0) (Array.replicate k 0) (by simp)
      go_wp2_with fail
      have hFa := (Fr.refl (fun _ => False) w2).alloc (.cells (madeCells #[.int .u8 0] k) 5)
      have HF4 := hide (And.intro ((unhide H2).2.trans hFa (fun _ _ t => t)) hFa)
      clear hba hFa hmk cz hk hand hq
      generalize (w2.alloc (.cells (madeCells #[.int .u8 0] k) 5)) = w4 at *
      refine (unhide HFin (s ++ List.replicate k 0) (pad_zeros s k hk2) (by rw [List.length_append, List.length_replicate]; omega) w4 (unhide HF4).1).mono ?_
      rintro e w5 ⟨no, nc, rfl, g5, r1, r2, r3⟩
      have b5 := r1.batn (by omega)
      have b2 := ((unhide H2).1.1.later (unhide HF4).2).later r2
      have cn := conv_bytes b5.1
      have cm := conv_bytes b2
      rw [hmac_length] at cn cm
      have H5 := hide ((unhide HF4).1.trans r2 (fun _ _ t => t))
      generalize hmac s bs = D at *
      clear b5 b2 r1 r2 r3 H2 HF4 HFin
      go_wp2
      go_ret
      exact ⟨rfl, unhide H5⟩

end Go.Proofs.YtgklgbomfipagaaDoor
