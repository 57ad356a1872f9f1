/- The law's own function taken, the reader's End, the document's Bits. -/
import Derived.Test.YtkjoojamkbpfcaaGreatM2
namespace Go.Proofs.YtkjoojamkbpfcaaGreat
open Go.RowKit

theorem stepR_bad {s : RS} (hc : s.c ≠ 0) (z : Value) (o : Except Int (Value × Nat)) : stepR s z o = (z, s) := by simp only [stepR, hc, if_false]

def bitsN (b : Nat) : Nat := if nanB b then 9221120237041090560 else b

theorem bits_any (b : Nat) (w : World) : Calls Tryz.prog 64 #[.float .f64 b] w fun e w' => e = .returned (.int .u64 (bitsN b)) ∧ w = w' := by
  have htb := tobits
  by_cases hn : nanB b = true
  · rw [show bitsN b = 9221120237041090560 by simp only [bitsN, hn, if_true]]
    have hn' : (FloatKind.f64.format.order b b != some .eq) = true := hn
    clear hn
    go_enter Tryz.func64, Tryz.ntmps64
    go_wp2
    go_ret
    exact ⟨rfl, rfl⟩
  · have hn2 : nanB b = false := by simpa using hn
    rw [show bitsN b = b by simp only [bitsN, hn2, if_false, Bool.false_eq_true]]
    have hn' : (FloatKind.f64.format.order b b != some .eq) = false := hn2
    clear hn hn2
    go_enter Tryz.func64, Tryz.ntmps64
    go_wp2
    go_ret
    exact ⟨rfl, rfl⟩

theorem bitsN_idem (b : Nat) : bitsN (bitsN b) = bitsN b := by
  unfold bitsN
  by_cases h : nanB b = true
  · rw [if_pos h]; split <;> rfl
  · rw [if_neg h, if_neg h]

theorem RAt.setOther {w : World} {p g : Nat} {bs : List UInt8} {a l : Nat} {c f : Int} (h : RAt w p g bs a l c f) {b o : Nat} (hp : b ≠ p) (hg : 0 < bs.length → b ≠ g) (v : Value) : RAt (w.setCell ⟨b, o, none⟩ v) p g bs a l c f := by
  have e : ∀ b' i, b ≠ b' → (w.setCell ⟨b, o, none⟩ v).cell? ⟨b', i, none⟩ = w.cell? ⟨b', i, none⟩ := fun b' i hi => World.cell?_setCell_other _ _ _ _ (by intro h; injection h with h1 h2; exact hi h1)
  refine ⟨?_, (e _ _ hp).trans h.c1, (e _ _ hp).trans h.c2, (e _ _ hp).trans h.c3, (e _ _ hp).trans h.c4, fun i hi => by rw [World.frozen?_setCell]; exact h.fz i hi, fun j hj => (e _ _ (hg (by omega))).trans (h.row j hj), h.ne, h.le, h.small⟩
  obtain ⟨ao, cap, h0, r⟩ := h.c0
  exact ⟨ao, cap, (e _ _ hp).trans h0, r⟩

theorem RAt.rowlt {w : World} {p g : Nat} {bs : List UInt8} {a l : Nat} {c f : Int} (h : RAt w p g bs a l c f) (h0 : 0 < bs.length) : g < w.heap.size := World.block_lt_of_cell? _ _ (h.row 0 h0)

/-- How a piece that was put comes out. -/
def Taken (p g : Nat) (bs : List UInt8) (s : RS) (n : Nat) (w : World) (e : Ending) (w' : World) : Prop :=
  e = .returned (.bool true) ∧ (∃ l', (RS.mk (s.a + n) l' 0 s.f).At w' p g bs) ∧ Fr (· = p) w w'

theorem bytes_other {q : Pc} (hk : q.kind < 0 ∨ 6 < q.kind) : q.bytes = some [] := by
  unfold Pc.bytes
  rw [if_neg (by omega), if_neg (by omega), if_neg (by omega), if_neg (by omega), if_neg (by omega), if_neg (by omega), if_neg (by omega)]

/-- End. -/
theorem end_any {w : World} {p g : Nat} {bs : List UInt8} {s : RS} (h : s.At w p g bs) :
    Calls Tryz.prog 66 #[.pointer (some ⟨p, 0, none⟩)] w fun e w' => e = .returned (.agg #[.int .i64 (endR s bs.length).c, .int .i64 (endR s bs.length).f]) ∧ (endR s bs.length).At w' p g bs ∧ Fr (· = p) w w' := by
  have H := hide h
  have hlt := h.lt
  have hle := h.le
  have c1 := h.c1
  have c3 := h.c3
  have c4 := h.c4
  have f3 := h.fz 3 (by omega)
  have f4 := h.fz 4 (by omega)
  clear h
  by_cases hc : s.c = 0
  · have hcb : (s.c != 0) = false := by simp [hc]
    by_cases ha : s.a < bs.length
    · rw [show endR s bs.length = { s with c := 13, f := s.a } by simp [endR, hc, ha]]
      have hd : decide (0 < (bs.length : Int) - (s.a : Int)) = true := by simp; omega
      clear hc
      go_enter Tryz.func66, Tryz.ntmps66
      go_wp2_with fail
      refine (failed_any p s.c _ ((unhide H).alloc _).c3).mono ?_
      rintro e w1 ⟨rfl, rfl⟩
      go_wp2_with fail
      refine (left_r (RAt.alloc (unhide H) _)).mono ?_
      rintro e w1 ⟨rfl, j, rfl⟩
      have hnp : w.heap.size ≠ p := by omega
      have hng : 0 < bs.length → w.heap.size ≠ g := fun h0 => by have := RAt.rowlt (unhide H) h0; omega
      have HR := hide ((((((RAt.alloc (unhide H) (.cells #[.int .i64 0, .int .i64 0] 37)).drewN j).setCode 13).setPlace s.a).setOther (o := 0) hnp hng (.int .i64 13)).setOther (o := 1) hnp hng (.int .i64 s.a))
      have HF := hide (((((((Fr.refl (· = p) w).alloc (.cells #[.int .i64 0, .int .i64 0] 37)).drewN j).setCell (p := ⟨p, 3, none⟩) (fun _ => rfl) (.int .i64 13)).setCell (p := ⟨p, 4, none⟩) (fun _ => rfl) (.int .i64 s.a)).setCell (p := ⟨w.heap.size, 0, none⟩) (fun t => absurd t (Nat.lt_irrefl _)) (.int .i64 13)).setCell (p := ⟨w.heap.size, 1, none⟩) (fun t => absurd t (Nat.lt_irrefl _)) (.int .i64 s.a))
      clear hng
      go_wp2
      exact bodyPost_ret (v := .agg #[.int .i64 13, .int .i64 s.a]) (by simp [results, Tryz.results66, go_sem]) rfl ⟨rfl, unhide HR, unhide HF⟩
    · rw [show endR s bs.length = s by simp [endR, ha]]
      have hd : decide (0 < (bs.length : Int) - (s.a : Int)) = false := by simp; omega
      clear hc
      go_enter Tryz.func66, Tryz.ntmps66
      go_wp2_with fail
      refine (failed_any p s.c _ ((unhide H).alloc _).c3).mono ?_
      rintro e w1 ⟨rfl, rfl⟩
      go_wp2_with fail
      refine (left_r (RAt.alloc (unhide H) _)).mono ?_
      rintro e w1 ⟨rfl, j, rfl⟩
      have hnp : w.heap.size ≠ p := by omega
      have hng : 0 < bs.length → w.heap.size ≠ g := fun h0 => by have := RAt.rowlt (unhide H) h0; omega
      have HR := hide ((((RAt.alloc (unhide H) (.cells #[.int .i64 0, .int .i64 0] 37)).drewN j).setOther (o := 0) hnp hng (.int .i64 s.c)).setOther (o := 1) hnp hng (.int .i64 s.f))
      have HF := hide (((((Fr.refl (· = p) w).alloc (.cells #[.int .i64 0, .int .i64 0] 37)).drewN j).setCell (p := ⟨w.heap.size, 0, none⟩) (fun t => absurd t (Nat.lt_irrefl _)) (.int .i64 s.c)).setCell (p := ⟨w.heap.size, 1, none⟩) (fun t => absurd t (Nat.lt_irrefl _)) (.int .i64 s.f))
      clear hng
      go_wp2
      exact bodyPost_ret (v := .agg #[.int .i64 s.c, .int .i64 s.f]) (by simp [results, Tryz.results66, go_sem]) rfl ⟨rfl, unhide HR, unhide HF⟩
  · rw [show endR s bs.length = s by simp [endR, hc]]
    have hcb : (s.c != 0) = true := by simp [hc]
    clear hc
    go_enter Tryz.func66, Tryz.ntmps66
    go_wp2_with fail
    refine (failed_any p s.c _ ((unhide H).alloc _).c3).mono ?_
    rintro e w1 ⟨rfl, rfl⟩
    have HR := hide (RAt.alloc (unhide H) (.cells #[.int .i64 s.c, .int .i64 s.f] 37))
    have HF := hide ((Fr.refl (· = p) w).alloc (.cells #[.int .i64 s.c, .int .i64 s.f] 37))
    go_wp2
    exact bodyPost_ret (v := .agg #[.int .i64 s.c, .int .i64 s.f]) (by simp [results, Tryz.results66, go_sem]) rfl ⟨rfl, unhide HR, unhide HF⟩

end Go.Proofs.YtkjoojamkbpfcaaGreat
