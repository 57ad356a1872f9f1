/- The contract of Same. -/
import Derived.Test.YtgklgbomfipagaaDoorS3
namespace Go.Proofs.YtgklgbomfipagaaDoor
open Go.RowKit

/-- What of the first bytes differs. -/
def dif (a b : List UInt8) : Nat → UInt8
  | 0 => 0
  | i + 1 => dif a b i ||| (a.getD i 0 ^^^ b.getD i 0)

theorem dif_zero (a b : List UInt8) (n : Nat) : dif a b n = 0 ↔ ∀ i, i < n → a.getD i 0 = b.getD i 0 := by
  induction n with
  | zero => simp [dif]
  | succ n ih =>
    unfold dif
    rw [UInt8.or_eq_zero_iff, ih, UInt8.xor_eq_zero_iff]
    constructor
    · rintro ⟨h1, h2⟩ i hi
      by_cases e : i = n
      · rw [e]; exact h2
      · exact h1 i (by omega)
    · exact fun h => ⟨fun i hi => h i (by omega), h n (by omega)⟩

theorem dif_all (a b : List UInt8) (h : a.length = b.length) : ((((dif a b a.length).toNat : Nat) : Int) == 0) = decide (a = b) := by
  have e : (((dif a b a.length).toNat : Nat) : Int) = 0 ↔ a = b := by
    rw [show ((((dif a b a.length).toNat : Nat) : Int) = 0) ↔ dif a b a.length = 0 from by rw [← UInt8.toNat_inj]; simp, dif_zero]
    constructor
    · intro k
      apply List.ext_getElem h
      intro i h1 h2
      have := k i h1
      simpa [List.getD, h1, h2] using this
    · rintro rfl i _
      rfl
  by_cases k : a = b
  · rw [decide_eq_true k, e.2 k]; rfl
  · rw [decide_eq_false k]
    simpa using fun t => k (e.1 t)

set_option maxHeartbeats 1000000 in
theorem same_any (w : World) (ao : Option Addr) (ac : Nat) (a : List UInt8) (hA : BAt w ao ac a) (bo : Option Addr) (bc : Nat) (b : List UInt8) (hB : BAt w bo bc b) :
    Calls Tryd.prog 14 #[.slice ao a.length ac, .slice bo b.length bc] w fun e w' => e = .returned (.bool (decide (a = b))) ∧ w' = w := by
  have HA := hide hA
  have HB := hide hB
  have hsm := hA.2.2
  clear hA hB
  by_cases hl : a.length = b.length
  · have hd : ((a.length : Int) != (b.length : Int)) = false := by simp; omega
    have HE := hide (dif_all a b hl)
    have HL := hide hl
    obtain ⟨bl, hbl⟩ : ∃ bl, bl = b.length := ⟨_, rfl⟩
    rw [← hbl] at hd ⊢
    have HBL := hide hbl
    clear hl hbl
    go_enter Tryd.func14, Tryd.ntmps14
    go_wp2
    go_loopw [5, 6, 7, 15] (fun dv _ _ iv wr => ∃ i : Nat, i ≤ a.length ∧ iv = .int .i64 i ∧ dv = .int .u8 (dif a b i).toNat ∧ wr = w) (fun _ _ _ iv _ => a.length - (intOf iv).toNat)
    case atStart => exact ⟨0, Nat.zero_le _, rfl, rfl, rfl⟩
    case round =>
      obtain ⟨i, hi, rfl, rfl, rfl⟩ := hrel
      by_cases hlt : i < a.length
      · obtain ⟨b1, o1, rfl, c1⟩ := (unhide HA).2.1 (by omega)
        have hbi : i < b.length := by have := unhide HL; omega
        have hbi2 : (i : Int) < (bl : Int) := by have := unhide HBL; omega
        obtain ⟨b2, o2, rfl, c2⟩ := (unhide HB).2.1 (by omega)
        have ca : wr.cell? ⟨b1, o1 + i, none⟩ = some (.int .u8 (a.getD i 0).toNat) := by rw [c1 i hlt]; simp [List.getD, hlt]
        have cb : wr.cell? ⟨b2, o2 + i, none⟩ = some (.int .u8 (b.getD i 0).toNat) := by rw [c2 i hbi]; simp [List.getD, hbi]
        have hx : bits .xor .u8 ((a.getD i 0).toNat : Int) ((b.getD i 0).toNat : Int) = ((a.getD i 0 ^^^ b.getD i 0).toNat : Int) := by
          rw [u8_xor_nat _ _ (a.getD i 0).toNat_lt (b.getD i 0).toNat_lt, UInt8.toNat_xor]
        have ho : bits .or .u8 ((dif a b i).toNat : Int) ((a.getD i 0 ^^^ b.getD i 0).toNat : Int) = ((dif a b (i + 1)).toNat : Int) := by
          rw [u8_or_nat _ _ (dif a b i).toNat_lt (a.getD i 0 ^^^ b.getD i 0).toNat_lt, ← UInt8.toNat_or]; rfl
        clear c1 c2 hbi
        generalize (a.getD i 0 ^^^ b.getD i 0) = z at *
        obtain ⟨d1, hd1⟩ : ∃ d, d = dif a b (i + 1) := ⟨_, rfl⟩
        rw [← hd1] at ho
        have HD1 := hide hd1
        clear hd1
        generalize dif a b i = d0, a.getD i 0 = x, b.getD i 0 = y at *
        go_wp2
        exact ⟨⟨i + 1, by omega, by go_num, by rw [← unhide HD1], trivial⟩, by simp [intOf]; omega⟩
      · obtain rfl : i = a.length := by omega
        have he := unhide HE
        generalize (dif a b a.length) = d at *
        go_wp2
        go_ret
        exact ⟨rfl, rfl⟩
  · have hd : ((a.length : Int) != (b.length : Int)) = true := by simp; omega
    have hf : decide (a = b) = false := decide_eq_false (fun t => hl (by rw [t]))
    rw [hf]
    clear hf
    go_enter Tryd.func14, Tryd.ntmps14
    go_wp2
    go_ret
    exact ⟨rfl, rfl⟩

end Go.Proofs.YtgklgbomfipagaaDoor
