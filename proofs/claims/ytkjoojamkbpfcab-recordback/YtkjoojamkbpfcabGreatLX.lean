import Derived.Test.YtkjoojamkbpfcabGreatL2
import Derived.Test.YtkjoojamkbpfcabGreatNX
/- Structs compared: entries, accounts, outages. -/
namespace Go.Proofs.YtkjoojamkbpfcabGreat
open Go.RowKit

theorem eqEntry (w : World) (a c : Int) (b : ByteArray) (d : Bool) : (Op.equalIn 10000 28 (.agg #[.int .i64 a, .string b, .int .i64 c, .bool d]) (.agg #[.int .i64 a, .string b, .int .i64 c, .bool d])).run Tryz.prog w = .ok true w := by
  have u3 := Tryz.underlying3
  have u9 := Tryz.underlying9
  have u4 := Tryz.underlying4
  have hS : Tryz.prog.underlying 28 = some (.struct (Tryz.prog.fieldsOf 28)) := by kernel_rfl
  have hp : Tryz.prog.stoodInHeld 28 = false := by kernel_rfl
  rw [show (10000 : Nat) = 9999 + 1 from rfl, run_equalIn_agg w 9999 28 _ _ hS hp]
  simp only [Program.fieldsOf, Tryz.underlying28]
  go_simp

theorem eqAccount (w : World) (b c : Int) (a : ByteArray) : (Op.equalIn 10000 30 (.agg #[.string a, .int .i64 b, .int .i64 c]) (.agg #[.string a, .int .i64 b, .int .i64 c])).run Tryz.prog w = .ok true w := by
  have u3 := Tryz.underlying3
  have u9 := Tryz.underlying9
  have hS : Tryz.prog.underlying 30 = some (.struct (Tryz.prog.fieldsOf 30)) := by kernel_rfl
  have hp : Tryz.prog.stoodInHeld 30 = false := by kernel_rfl
  rw [show (10000 : Nat) = 9999 + 1 from rfl, run_equalIn_agg w 9999 30 _ _ hS hp]
  simp only [Program.fieldsOf, Tryz.underlying30]
  go_simp

theorem eqOutage (w : World) (a b c : Int) : (Op.equalIn 10000 100 (.agg #[.int .i64 a, .int .i64 b, .int .i64 c]) (.agg #[.int .i64 a, .int .i64 b, .int .i64 c])).run Tryz.prog w = .ok true w := by
  have u3 := Tryz.underlying3
  have hS : Tryz.prog.underlying 100 = some (.struct (Tryz.prog.fieldsOf 100)) := by kernel_rfl
  have hp : Tryz.prog.stoodInHeld 100 = false := by kernel_rfl
  rw [show (10000 : Nat) = 9999 + 1 from rfl, run_equalIn_agg w 9999 100 _ _ hS hp]
  simp only [Program.fieldsOf, Tryz.underlying100]
  go_simp

end Go.Proofs.YtkjoojamkbpfcabGreat

/- Are two deltas the same? -/
namespace Go.Proofs.YtkjoojamkbpfcabGreat
open Go.RowKit

theorem sameTokens_is (w : World) (l : List ByteArray) (a1 : Option Addr) (c1 : Nat) (a2 : Option Addr) (c2 : Nat) (h1 : SAt w a1 l) (h2 : SAt w a2 l) (hl : l.length ≤ 140737488355328) :
    Calls Tryz.prog 31 #[.slice a1 l.length c1, .slice a2 l.length c2] w fun e w' => e = .returned (.bool true) ∧ Fr (fun _ => False) w w' := by
  have H1 := hide h1
  have H2 := hide h2
  clear h1 h2
  go_enter Tryz.func31, Tryz.ntmps31
  go_wp2
  go_loopw [5] (fun iv wr => ∃ (i : Nat), i ≤ l.length ∧ iv = .int .i64 i ∧ Hid (Fr (fun _ => False) w wr)) (fun iv _ => l.length - (intOf iv).toNat)
  case atStart => exact ⟨0, Nat.zero_le _, rfl, Fr.refl _ _⟩
  case round =>
    obtain ⟨i, hi, rfl, HI⟩ := hrel
    by_cases hil : i < l.length
    · obtain ⟨b1, o1, rfl, e1⟩ := ((unhide H1).keep (unhide HI)).at hil
      obtain ⟨b2, o2, rfl, e2⟩ := ((unhide H2).keep (unhide HI)).at hil
      generalize l[i] = x at *
      go_wp2
      go_quiet (fail)
      go_wp2
      exact ⟨⟨i + 1, by omega, by go_num, (unhide HI).drewN _⟩, by simp [intOf]; omega⟩
    · obtain rfl : i = l.length := by omega
      go_wp2
      go_ret
      exact ⟨rfl, unhide HI⟩

theorem sameDelta_is (w : World) (d : Dl) (a1 : Option Addr) (c1 : Nat) (a2 : Option Addr) (c2 : Nat) (b1 : Option Addr) (k1 : Nat) (b2 : Option Addr) (k2 : Nat) (h1 : SAt w a1 d.add) (h2 : SAt w a2 d.gone) (h3 : SAt w b1 d.add) (h4 : SAt w b2 d.gone) (hl1 : d.add.length ≤ 140737488355328) (hl2 : d.gone.length ≤ 140737488355328) :
    Calls Tryz.prog 11 #[.agg (dlC d a1 c1 a2 c2), .agg (dlC d b1 k1 b2 k2)] w fun e w' => e = .returned (.bool true) ∧ Fr (fun _ => False) w w' := by
  have R1 := hide (fun (w' : World) (hf : Fr (fun _ => False) w w') => sameTokens_is w' d.add a1 c1 b1 k1 (h1.keep hf) (h3.keep hf) hl1)
  have R2 := hide (fun (w' : World) (hf : Fr (fun _ => False) w w') => sameTokens_is w' d.gone a2 c2 b2 k2 (h2.keep hf) (h4.keep hf) hl2)
  clear h1 h2 h3 h4 hl1 hl2
  unfold dlC
  have HX0 : Hid (Fr (fun _ => False) w ((w.alloc (.cells #[.int .i64 d.ver, .slice a1 d.add.length c1, .slice a2 d.gone.length c2] 26)).alloc (.cells #[.int .i64 d.ver, .slice b1 d.add.length k1, .slice b2 d.gone.length k2] 26)) ∧ Bx ((w.alloc (.cells #[.int .i64 d.ver, .slice a1 d.add.length c1, .slice a2 d.gone.length c2] 26)).alloc (.cells #[.int .i64 d.ver, .slice b1 d.add.length k1, .slice b2 d.gone.length k2] 26)) w.heap.size #[.int .i64 d.ver, .slice a1 d.add.length c1, .slice a2 d.gone.length c2] 26 ∧ Bx ((w.alloc (.cells #[.int .i64 d.ver, .slice a1 d.add.length c1, .slice a2 d.gone.length c2] 26)).alloc (.cells #[.int .i64 d.ver, .slice b1 d.add.length k1, .slice b2 d.gone.length k2] 26)) (w.heap.size + 1) #[.int .i64 d.ver, .slice b1 d.add.length k1, .slice b2 d.gone.length k2] 26) := hide (by
    have h2 := Bx.new (w.alloc (.cells #[.int .i64 d.ver, .slice a1 d.add.length c1, .slice a2 d.gone.length c2] 26)) #[.int .i64 d.ver, .slice b1 d.add.length k1, .slice b2 d.gone.length k2] 26
    rw [heap_alloc] at h2
    exact ⟨((Fr.refl _ w).alloc _).alloc _, (Bx.new _ _ _).alloc _, h2⟩)
  go_enter Tryz.func11, Tryz.ntmps11
  go_wp2_with fail
  refine (unhide R1 _ (unhide HX0).1).mono ?_
  rintro e w1 ⟨rfl, hF⟩
  obtain ⟨B, HB⟩ : ∃ B, Hid (w.heap.size = B) := ⟨_, rfl⟩
  have HX1 : Hid (Fr (fun _ => False) w w1 ∧ Bx w1 B #[.int .i64 d.ver, .slice a1 d.add.length c1, .slice a2 d.gone.length c2] 26 ∧ Bx w1 (B + 1) #[.int .i64 d.ver, .slice b1 d.add.length k1, .slice b2 d.gone.length k2] 26) := hide (by
    rw [← unhide HB]
    obtain ⟨k0, k1, k2⟩ := unhide HX0
    exact ⟨k0.trans hF (fun _ _ t => t), k1.keep hF, k2.keep hF⟩)
  rw [unhide HB]
  have x2 : w1.cell? ⟨B, 2, none⟩ = some (.slice a2 d.gone.length c2) := (unhide HX1).2.1.cell 2
  have y2 : w1.cell? ⟨B + 1, 2, none⟩ = some (.slice b2 d.gone.length k2) := (unhide HX1).2.2.cell 2
  clear hF HX0
  go_wp2_with fail
  refine (unhide R2 _ (unhide HX1).1).mono ?_
  rintro e w2 ⟨rfl, hF⟩
  have x0 : w2.cell? ⟨B, 0, none⟩ = some (.int .i64 d.ver) := ((unhide HX1).2.1.keep hF).cell 0
  have y0 : w2.cell? ⟨B + 1, 0, none⟩ = some (.int .i64 d.ver) := ((unhide HX1).2.2.keep hF).cell 0
  have HF2 : Hid (Fr (fun _ => False) w w2) := hide ((unhide HX1).1.trans hF (fun _ _ t => t))
  clear hF x2 y2
  go_wp2
  go_ret
  exact ⟨by first | rfl | simp, unhide HF2⟩

end Go.Proofs.YtkjoojamkbpfcabGreat

/- Are two lists of outages the same? A list as a source of an append. -/
namespace Go.Proofs.YtkjoojamkbpfcabGreat
open Go.RowKit

theorem CAt.srcO {w : World} {ao : Option Addr} {vs : List Value} (h : CAt w ao vs) (tx e : TypeId) (k n cap : Nat) (hk : 0 < k) (ht : Tryz.prog.underlying tx = some (.slice e)) (hn : vs.length = n * k) (h1 : ∀ u ∈ vs, u.oneCell' = true) : Src Tryz.prog k tx (.slice ao n cap) n vs w := by
  by_cases hm : 0 < vs.length
  · obtain ⟨b, off, rfl, hc⟩ := h hm
    refine Src.ofSlice w ht ⟨b, off, none⟩ n cap vs hn (fun j u hj => ?_) h1
    have hjl := (List.getElem?_eq_some_iff.1 hj).1
    rw [Addr.add_lit, hc j hjl, ← hj, List.getElem?_eq_getElem hjl]
  · have e0 : vs = [] := List.eq_nil_of_length_eq_zero (by omega)
    subst e0
    obtain rfl : n = 0 := by
      rcases Nat.eq_zero_or_pos n with h0 | h0
      · exact h0
      · have := Nat.mul_pos h0 hk; simp at hn; omega
    cases ao with
    | none => exact Src.ofNil w ht cap
    | some b => exact Src.ofSlice w ht b 0 cap [] (by simp) (fun j u hj => by simp at hj) (fun u hu => by cases hu)

theorem otV_one (l : List Otg) : ∀ u ∈ otV l, u.oneCell' = true := by
  intro u hu
  simp only [otV, List.mem_flatMap] at hu
  obtain ⟨q, _, hq⟩ := hu
  simp only [otC, List.mem_cons, List.not_mem_nil, or_false] at hq
  rcases hq with rfl | rfl | rfl <;> rfl

set_option maxHeartbeats 1000000 in
theorem sameOutages_is (w : World) (l : List Otg) (a1 : Option Addr) (c1 : Nat) (a2 : Option Addr) (c2 : Nat) (h1 : CAt w a1 (otV l)) (h2 : CAt w a2 (otV l)) (hl : (l.length + 1) * 24 ≤ 140737488355328) :
    Calls Tryz.prog 18 #[.slice a1 l.length c1, .slice a2 l.length c2] w fun e w' => e = .returned (.bool true) ∧ Fr (fun _ => False) w w' := by
  have H1 := hide h1
  have H2 := hide h2
  have hEO := eqOutage
  clear h1 h2
  go_enter Tryz.func18, Tryz.ntmps18
  go_wp2
  go_loopw [5] (fun iv wr => ∃ (i : Nat), i ≤ l.length ∧ iv = .int .i64 i ∧ Hid (Fr (fun _ => False) w wr)) (fun iv _ => l.length - (intOf iv).toNat)
  case atStart => exact ⟨0, Nat.zero_le _, rfl, Fr.refl _ _⟩
  case round =>
    obtain ⟨i, hi, rfl, HI⟩ := hrel
    by_cases hil : i < l.length
    · obtain ⟨b1, o1, rfl, x0, x1, x2⟩ := ((unhide H1).keep (unhide HI)).ot hil
      obtain ⟨b2, o2, rfl, z0, z1, z2⟩ := ((unhide H2).keep (unhide HI)).ot hil
      generalize l[i] = x at *
      go_wp2
      go_quiet (fail)
      go_wp2
      exact ⟨⟨i + 1, by omega, by go_num, (unhide HI).drewN _⟩, by simp [intOf]; omega⟩
    · obtain rfl : i = l.length := by omega
      go_wp2
      go_ret
      exact ⟨rfl, unhide HI⟩

end Go.Proofs.YtkjoojamkbpfcabGreat

