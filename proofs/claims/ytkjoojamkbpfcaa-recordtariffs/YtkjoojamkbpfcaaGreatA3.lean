/- Contracts of what the reader's calls hand to take: Fixed, Float, Text. -/
import Derived.Test.YtkjoojamkbpfcaaGreatA2
import Derived.Laws.BytesArg
import Derived.Laws.IdiomStrings
import Derived.Laws.Externs
import Derived.Deep.RegionHeld
namespace Go.Proofs.YtkjoojamkbpfcaaGreat
open Go.RowKit

/-- Is it a NaN? as 'x != x' has it -/
def nanB (b : Nat) : Bool := FloatKind.f64.format.order b b != some .eq

def oFixed (bs : List UInt8) (a : Nat) (size : Int) : Except Int (Value × Nat) :=
  if size < 0 ∨ 65535 < size then .error 1
  else if (bs.length : Int) - a < size then .error 10
  else .ok (.string ⟨((bs.drop a).take size.toNat).toArray⟩, a + size.toNat)

def oFloat (bs : List UInt8) (a : Nat) : Except Int (Value × Nat) :=
  if (bs.length : Int) - a < 8 then .error 10
  else if nanB (num ((bs.drop a).take 8)) = true ∧ num ((bs.drop a).take 8) ≠ 9221120237041090560 then .error 11
  else .ok (.float .f64 (num ((bs.drop a).take 8)), a + 8)

def oText (bs : List UInt8) (a : Nat) (most : Int) : Except Int (Value × Nat) :=
  if most < 0 then .error 1
  else if (bs.length : Int) - a < 2 then .error 10
  else if most < num ((bs.drop a).take 2) then .error 12
  else if (bs.length : Int) - (a + 2 : Nat) < num ((bs.drop a).take 2) then .error 10
  else .ok (.string ⟨((bs.drop (a + 2)).take (num ((bs.drop a).take 2))).toArray⟩, a + 2 + num ((bs.drop a).take 2))

section
variable {w : World} {p g : Nat} {bs : List UInt8} {a l : Nat} {c f : Int}

theorem conv_row (h : RAt w p g bs a l c f) (A : Option Addr) (s k cap : Nat) (hs : s + k ≤ bs.length) (hA : 0 < k → A = some ⟨g, s, none⟩) :
    (convert 28 9 (.slice A k cap)).run Tryz.prog w = .ok (.string ⟨((bs.drop s).take k).toArray⟩) w := by
  by_cases hk : 0 < k
  · rw [hA hk]
    have hL : ((bs.drop s).take k).length = k := by simp; omega
    have := run_convert_bytes_back (P := Tryz.prog) w 28 9 5 ⟨g, s, none⟩ cap ((bs.drop s).take k) Tryz.underlying28 Tryz.underlying5 Tryz.underlying9 (fun j hj => by
      have hplain : (⟨g, s, none⟩ : Addr).add j = ⟨g, s + j, none⟩ := by unfold Addr.add; split <;> simp_all
      rw [hplain, h.row (s + j) (by omega)]
      simp [List.getElem_take, List.getElem_drop])
    rwa [hL] at this
  · obtain rfl : k = 0 := by omega
    cases A with
    | none =>
      rw [run_convert_bytes_nil w 28 5 Tryz.underlying28 Tryz.underlying5 0 cap 9 Tryz.underlying9]
      simp; rfl
    | some x =>
      have := run_convert_bytes_back (P := Tryz.prog) w 28 9 5 x cap [] Tryz.underlying28 Tryz.underlying5 Tryz.underlying9 (fun j hj => by simp at hj)
      simpa using this

theorem fixed_piece (h : RAt w p g bs a l c f) (size : Int) (sb rb : Nat) (hs : w.cell? ⟨sb, 0, none⟩ = some (.int .i64 size)) (hr : w.cell? ⟨rb, 0, none⟩ = some (.pointer (some ⟨p, 0, none⟩))) :
    Calls Tryz.prog 123 #[.pointer (some ⟨sb, 0, none⟩), .pointer (some ⟨rb, 0, none⟩)] w (Took p g bs l c f w (oFixed bs a size)) := by
  have H := hide h
  have hle := h.le
  clear h
  by_cases h1 : size < 0 ∨ 65535 < size
  · rw [show oFixed bs a size = .error 1 by simp [oFixed, h1]]
    go_enter Tryz.func123, Tryz.ntmps123
    rcases h1 with h1 | h1
    · have hd : decide (0 ≤ size) = false := by simp; omega
      go_wp2_with fail
      refine (must_no 1 _).mono ?_
      rintro e w1 ⟨rfl, rfl⟩
      go_wp2
      exact ⟨rfl, rfl, ⟨_, unhide H⟩, Fr.refl _ _⟩
    · have hd : decide (0 ≤ size) = true := by simp; omega
      have hd2 : decide (size ≤ 65535) = false := by simp; omega
      go_wp2_with fail
      refine (must_no 1 _).mono ?_
      rintro e w1 ⟨rfl, rfl⟩
      go_wp2
      exact ⟨rfl, rfl, ⟨_, unhide H⟩, Fr.refl _ _⟩
  obtain ⟨k, rfl⟩ : ∃ k : Nat, size = k := ⟨size.toNat, by omega⟩
  have hd : decide (0 ≤ (k : Int)) = true := by simp
  have hd2 : decide ((k : Int) ≤ 65535) = true := by simp; omega
  by_cases h2 : (bs.length : Int) - a < k
  · rw [show oFixed bs a k = .error 10 by simp [oFixed, h1, h2]]
    go_enter Tryz.func123, Tryz.ntmps123
    go_wp2_with fail
    refine (must_ok 1 _).mono ?_
    rintro e w1 ⟨rfl, rfl⟩
    go_wp2_with fail
    refine (next_short (unhide H) k h2).mono ?_
    rintro e w1 ⟨rfl, j, rfl⟩
    go_wp2
    exact ⟨rfl, rfl, ⟨_, (unhide H).drewN j⟩, (Fr.refl _ _).drewN j⟩
  have ht : a + k ≤ bs.length := by omega
  obtain ⟨S, HS⟩ : ∃ S, Hid ((⟨((bs.drop a).take k).toArray⟩ : ByteArray) = S) := ⟨_, rfl⟩
  rw [show oFixed bs a k = .ok (.string S, a + k) by rw [← unhide HS]; simp [oFixed, h1, h2]]
  clear h1 h2
  go_enter Tryz.func123, Tryz.ntmps123
  go_wp2_with fail
  refine (must_ok 1 _).mono ?_
  rintro e w1 ⟨rfl, rfl⟩
  go_wp2_with fail
  refine (next_ok (unhide H) k ht).mono ?_
  rintro e w1 ⟨⟨A, cap, rfl, hcap, hA⟩, hR, hF⟩
  have hcv := conv_row hR A a k cap ht hA
  rw [unhide HS] at hcv
  have H1 := hide (And.intro hR hF)
  clear hR hF hA
  go_wp2
  go_ret
  exact ⟨rfl, (unhide H1).1, (unhide H1).2⟩

theorem frombits (n : Nat) (w : World) : (callFunc 71 #[.int .u64 n]).run Tryz.prog w = .ok (.value (.float .f64 n)) w := by
  rw [run_callFunc_extern (e := Extern.MathFloatBits.float64frombits) Tryz.func71 (by kernel_rfl) (by kernel_rfl) (by kernel_rfl) (by kernel_rfl)]
  rfl

theorem tobits (n : Nat) (w : World) : (callFunc 96 #[.float .f64 n]).run Tryz.prog w = .ok (.value (.int .u64 n)) w := by
  rw [run_callFunc_extern (e := Extern.MathFloatBits.float64bits) Tryz.func96 (by kernel_rfl) (by kernel_rfl) (by kernel_rfl) (by kernel_rfl)]
  rfl

theorem isnan_any (n : Nat) (w : World) : Calls Tryz.prog 114 #[.float .f64 n] w fun e w' => e = .returned (.bool (nanB n)) ∧ w = w' := by
  go_enter Tryz.func114, Tryz.ntmps114
  go_wp2
  go_ret
  exact ⟨rfl, rfl⟩

theorem float_piece (h : RAt w p g bs a l c f) (rb : Nat) (hr : w.cell? ⟨rb, 0, none⟩ = some (.pointer (some ⟨p, 0, none⟩))) :
    Calls Tryz.prog 116 #[.pointer (some ⟨rb, 0, none⟩)] w (Took p g bs l c f w (oFloat bs a)) := by
  have H := hide h
  have hle := h.le
  clear h
  have hfb := frombits
  by_cases h2 : (bs.length : Int) - a < 8
  · rw [show oFloat bs a = .error 10 by simp [oFloat, h2]]
    go_enter Tryz.func116, Tryz.ntmps116
    go_wp2_with fail
    refine (digits_short (unhide H) 8 h2).mono ?_
    rintro e w1 ⟨rfl, j, rfl⟩
    go_wp2
    exact ⟨rfl, rfl, ⟨_, (unhide H).drewN j⟩, (Fr.refl _ _).drewN j⟩
  have ht : a + 8 ≤ bs.length := by omega
  obtain ⟨N, HN⟩ : ∃ N, Hid (num ((bs.drop a).take 8) = N) := ⟨_, rfl⟩
  by_cases h3 : nanB N = true
  · by_cases h4 : N = 9221120237041090560
    · rw [show oFloat bs a = .ok (.float .f64 N, a + 8) by unfold oFloat; rw [if_neg h2, unhide HN, if_neg (by simp [h4])]]
      have h4' : ((N : Int) == 9221120237041090560) = true := by simp; omega
      have H4 := hide h4
      clear h2 h4
      go_enter Tryz.func116, Tryz.ntmps116
      go_wp2_with fail
      refine (digits_ok (unhide H) 8 ht (by omega)).mono ?_
      rw [unhide HN]
      rintro e w1 ⟨rfl, hR, hF⟩
      have H1 := hide (And.intro hR hF)
      clear hR hF
      go_wp2_with fail
      refine (isnan_any N _).mono ?_
      rintro e w2 ⟨rfl, rfl⟩
      go_wp2_with fail
      refine (must_ok 11 _).mono ?_
      rintro e w2 ⟨rfl, rfl⟩
      go_wp2
      go_ret
      exact ⟨rfl, (unhide H1).1, (unhide H1).2⟩
    · rw [show oFloat bs a = .error 11 by unfold oFloat; rw [if_neg h2, unhide HN, if_pos ⟨h3, h4⟩]]
      have h4' : ((N : Int) == 9221120237041090560) = false := by simp; omega
      have H4 := hide h4
      clear h2 h4
      go_enter Tryz.func116, Tryz.ntmps116
      go_wp2_with fail
      refine (digits_ok (unhide H) 8 ht (by omega)).mono ?_
      rw [unhide HN]
      rintro e w1 ⟨rfl, hR, hF⟩
      have H1 := hide (And.intro hR hF)
      clear hR hF
      go_wp2_with fail
      refine (isnan_any N _).mono ?_
      rintro e w2 ⟨rfl, rfl⟩
      go_wp2_with fail
      refine (must_no 11 _).mono ?_
      rintro e w2 ⟨rfl, rfl⟩
      go_wp2
      exact ⟨rfl, rfl, ⟨_, (unhide H1).1⟩, (unhide H1).2⟩
  · have h3' : nanB N = false := by simpa using h3
    rw [show oFloat bs a = .ok (.float .f64 N, a + 8) by unfold oFloat; rw [if_neg h2, unhide HN, if_neg (fun x => h3 x.1)]]
    clear h2 h3
    go_enter Tryz.func116, Tryz.ntmps116
    go_wp2_with fail
    refine (digits_ok (unhide H) 8 ht (by omega)).mono ?_
    rw [unhide HN]
    rintro e w1 ⟨rfl, hR, hF⟩
    have H1 := hide (And.intro hR hF)
    clear hR hF
    go_wp2_with fail
    refine (isnan_any N _).mono ?_
    rintro e w2 ⟨rfl, rfl⟩
    go_wp2_with fail
    refine (must_ok 11 _).mono ?_
    rintro e w2 ⟨rfl, rfl⟩
    go_wp2
    go_ret
    exact ⟨rfl, (unhide H1).1, (unhide H1).2⟩

theorem RAt.drew (h : RAt w p g bs a l c f) : RAt w.drew p g bs a l c f := h.stay fun _ _ _ => rfl

theorem Fr.of_drew {S : Nat → Prop} {w w1 : World} (h : Fr S w.drew w1) : Fr S w w1 := ⟨h.os, h.tape, h.output, h.size, h.block⟩

end
end Go.Proofs.YtkjoojamkbpfcaaGreat
