import Derived.Test.YtabhfeocelljdaaGreatDoorI1
import Derived.Test.YtabhfeocelljdaaGreatDoorSS1
import Derived.Test.YtabhfeocelljdaaGreatDoorWX
import Derived.Deep.OwnRows
import Derived.Laws.IdiomCopy
/- The law's own functions Lent and Back, for rows beside a queue. -/
namespace Go.Proofs.YtabhfeocelljdaaGreatDoor
open Go.RowKit

/-- What lies in a lent row: the bytes, marks up to place i, then nothing. -/
def lentF (bs : List UInt8) (i j : Nat) : Int := if h : j < bs.length then (bs[j].toNat : Int) else if j < i then 201 else 0

theorem lentF_in (bs : List UInt8) (i j : Nat) (h : j < bs.length) : lentF bs i j = (bs[j].toNat : Int) := by simp [lentF, h]
theorem lentF_mark (bs : List UInt8) (i j : Nat) (h : bs.length ≤ j) (h2 : j < i) : lentF bs i j = 201 := by simp [lentF, h2, Nat.not_lt.2 h]

theorem Tryz.size5 : (Tryz.prog.info? 5).map (·.size) = some 1 := by kernel_rfl

def Lent (w : World) (bs : List UInt8) (g : Nat) (w' : World) : Prop :=
  Fr (fun _ => False) w w' ∧ w.heap.size ≤ g ∧ ∀ j, j < bs.length + 3 → w'.cell? ⟨g, j, none⟩ = some (.int .u8 (lentF bs (bs.length + 3) j)) ∧ w'.frozen? ⟨g, j, none⟩ = false

theorem Fr.setCells2 {S : Nat → Prop} {a : World} {b : Nat} (hb : b < a.heap.size → S b) : ∀ (vs : List Value) (o : Nat) (w : World), Fr S a w → Fr S a (w.setCells b o vs)
  | [], _, _, h => h
  | v :: r, o, _, h => Fr.setCells2 hb r (o + 1) _ (h.setCell (p := ⟨b, o, none⟩) hb v)

set_option maxHeartbeats 1000000 in
set_option maxRecDepth 20000 in
theorem lent_any (w : World) (ao : Option Addr) (cap : Nat) (bs : List UInt8) (hB : BAt w ao cap bs) :
    Calls Tryz.prog 10 #[.slice ao bs.length cap] w fun e w' => ∃ g, e = .returned (.slice (some ⟨g, 0, none⟩) bs.length (bs.length + 3)) ∧ Lent w bs g w' := by
  have hsm := hB.2.2
  have hmk := fun w' => run_make_row' (P := Tryz.prog) 23 5 (.int .u8 0) 1 Tryz.underlying23 Tryz.info5 rfl .i64 .i64 (bs.length + 3) (by omega) (by omega) w'
  have hcast : ((bs.length + 3 : Nat) : Int) = (bs.length : Int) + 3 := by omega
  rw [hcast] at hmk
  clear hcast
  obtain ⟨w1, Hw1⟩ : ∃ w1, Hid (w.alloc (.cells (madeCells #[.int .u8 0] (bs.length + 3)) 5) = w1) := ⟨_, rfl⟩
  obtain ⟨w2, hcp, H2⟩ : ∃ w2, (Builtin.copy_ #[23, 23] 3 #[.slice (some ⟨w.heap.size, 0, none⟩) (bs.length + 3) (bs.length + 3), .slice ao bs.length cap]).run Tryz.prog (w.alloc (.cells (madeCells #[.int .u8 0] (bs.length + 3)) 5)) = .ok (goInt bs.length) w2 ∧
      Hid (Fr (fun _ => False) w w2 ∧ w.heap.size < w2.heap.size ∧ ∀ j, j < bs.length + 3 → w2.cell? ⟨w.heap.size, j, none⟩ = some (.int .u8 (lentF bs bs.length j)) ∧ w2.frozen? ⟨w.heap.size, j, none⟩ = false) := by
    have hcell : ∀ j, j < bs.length + 3 → (w.alloc (.cells (madeCells #[.int .u8 0] (bs.length + 3)) 5)).cell? ⟨w.heap.size, j, none⟩ = some (.int .u8 0) := fun j hj => by
      rw [World.cell?_alloc_new]
      simp [madeCells, hj, Nat.mod_one]
    have hfz : ∀ j, (w.alloc (.cells (madeCells #[.int .u8 0] (bs.length + 3)) 5)).frozen? ⟨w.heap.size, j, none⟩ = false := fun j => World.frozen?_alloc_new _ _ _ _
    have hF0 := (Fr.refl (fun _ => False) w).alloc (.cells (madeCells #[.int .u8 0] (bs.length + 3)) 5)
    by_cases h0 : 0 < bs.length
    · obtain ⟨b, off, e, hc⟩ := hB.2.1 h0
      subst e
      have hl : (bytesV bs).length = bs.length := by simp [bytesV]
      have hmin : Nat.min bs.length (bs.length + 3) = bs.length := Nat.min_eq_left (by omega)
      have hcp := run_copy_cells (P := Tryz.prog) (w.alloc (.cells (madeCells #[.int .u8 0] (bs.length + 3)) 5)) 23 23 3 5 w.heap.size 0 (bs.length + 3) (bs.length + 3) ⟨b, off, none⟩ bs.length cap (bytesV bs)
        Tryz.underlying23 Tryz.size5 (by rw [hl, hmin]) (fun j v hv => by
          have hj : j < bs.length := by
            rw [← hl]; exact (List.getElem?_eq_some_iff.1 hv).1
          have hv2 : v = .int .u8 (bs[j].toNat) := by
            have := (List.getElem?_eq_some_iff.1 hv).2
            rw [← this]; simp [bytesV]
          rw [show (⟨b, off, none⟩ : Addr).add j = ⟨b, off + j, none⟩ from Addr.add_lit .., hv2, World.cell?_alloc_lt _ _ _ (World.block_lt_of_cell? _ _ (hc j hj))]
          exact hc j hj) (fun j hj => by rw [Nat.zero_add, hcell j (by omega)]; rfl) (fun j hj => hfz _) (fun v hv => by
          simp [bytesV] at hv
          obtain ⟨x, _, rfl⟩ := hv
          rfl)
      rw [hl] at hcp
      refine ⟨_, hcp, Fr.setCells2 (fun t => absurd t (Nat.lt_irrefl _)) _ _ _ hF0, ?_, fun j hj => ⟨?_, ?_⟩⟩
      · have := (Fr.setCells2 (S := fun _ => True) (a := (w.alloc (.cells (madeCells #[.int .u8 0] (bs.length + 3)) 5))) (b := w.heap.size) (fun _ => trivial) (bytesV bs) 0 _ (Fr.refl _ _)).size
        simp at this
        omega
      · by_cases hjl : j < bs.length
        · have := World.cell?_setCells_in w.heap.size (bytesV bs) 0 (w.alloc (.cells (madeCells #[.int .u8 0] (bs.length + 3)) 5)) (fun i hi => by rw [Nat.zero_add, hcell i (by omega)]; rfl) j (by omega)
          rw [Nat.zero_add] at this
          rw [this, lentF_in _ _ _ hjl]
          simp [bytesV]
        · rw [World.cell?_setCells_out _ _ _ _ _ (fun _ _ => .inr (by simp only []; omega)), hcell j hj]
          simp [lentF, hjl]
      · rw [World.frozen?_setCells]; exact hfz j
    · have hb : bs = [] := List.eq_nil_of_length_eq_zero (by omega)
      subst hb
      have hcp := run_copy_none (P := Tryz.prog) (w.alloc (.cells (madeCells #[.int .u8 0] (0 + 3)) 5)) 23 23 3 5 (some ⟨w.heap.size, 0, none⟩) ao (0 + 3) (0 + 3) 0 cap Tryz.underlying23 Tryz.size5 rfl
      exact ⟨_, hcp, hF0, by simp, fun j hj => ⟨(hcell j hj).trans (by simp [lentF]), hfz j⟩⟩
  clear Hw1 w1 hB
  go_enter Tryz.func10, Tryz.ntmps10
  go_wp2
  go_loopw [4] (fun iv wr => ∃ i : Nat, bs.length ≤ i ∧ i ≤ bs.length + 3 ∧ iv = .int .i64 i ∧ Hid (Fr (fun _ => False) w wr ∧ w.heap.size < wr.heap.size ∧ ∀ j, j < bs.length + 3 → wr.cell? ⟨w.heap.size, j, none⟩ = some (.int .u8 (lentF bs i j)) ∧ wr.frozen? ⟨w.heap.size, j, none⟩ = false)) (fun iv _ => bs.length + 3 - (intOf iv).toNat)
  case atStart => exact ⟨bs.length, Nat.le_refl _, by omega, rfl, unhide H2⟩
  case round =>
    obtain ⟨i, hi1, hi2, rfl, HI⟩ := hrel
    by_cases hlt : i < bs.length + 3
    · have ci := ((unhide HI).2.2 i hlt).1
      have fi := ((unhide HI).2.2 i hlt).2
      go_wp2
      refine ⟨⟨i + 1, by omega, by omega, by go_num, (unhide HI).1.setCell (p := ⟨w.heap.size, i, none⟩) (fun t => absurd t (Nat.lt_irrefl _)) _, by simp [World.setCell]; exact (unhide HI).2.1, fun j hj => ⟨?_, by rw [World.frozen?_setCell]; exact ((unhide HI).2.2 j hj).2⟩⟩, by simp [intOf]; omega⟩
      by_cases e : j = i
      · subst e
        rw [World.cell?_setCell_same _ _ _ ci, lentF_mark _ _ _ hi1 (by omega)]
      · rw [World.cell?_setCell_other _ _ _ _ (by intro h; injection h with h1 h2; exact e h2.symm), ((unhide HI).2.2 j hj).1]
        unfold lentF
        split
        · rfl
        · by_cases h2 : j < i
          · rw [if_pos h2, if_pos (by omega)]
          · rw [if_neg h2, if_neg (by omega)]
    · obtain rfl : i = bs.length + 3 := by omega
      go_wp2
      go_ret
      exact ⟨w.heap.size, rfl, (unhide HI).1, Nat.le_refl _, (unhide HI).2.2⟩

set_option maxHeartbeats 1000000 in
set_option maxRecDepth 20000 in
theorem back_any (w : World) (ao : Option Addr) (cap : Nat) (bs : List UInt8) (hB : BAt w ao cap bs) (g : Nat) (hg : ∀ b off, ao = some ⟨b, off, none⟩ → 0 < bs.length → g ≠ b)
    (hl : ∀ j, j < bs.length + 3 → w.cell? ⟨g, j, none⟩ = some (.int .u8 (lentF bs (bs.length + 3) j)) ∧ w.frozen? ⟨g, j, none⟩ = false) :
    Calls Tryz.prog 12 #[.slice (some ⟨g, 0, none⟩) bs.length (bs.length + 3), .slice ao bs.length cap] w fun e w' => e = .returned (.bool true) ∧ Fr (· = g) w w' := by
  have hsm := hB.2.2
  have HB := hide (And.intro hB hg)
  have HL := hide hl
  clear hB hg hl
  go_enter Tryz.func12, Tryz.ntmps12
  go_wp2
  go_loopw [6, 7, 8] (fun ok iv _ wr => ∃ i : Nat, i ≤ bs.length + 3 ∧ iv = .int .i64 i ∧ ok = .bool true ∧ Hid (Fr (· = g) w wr ∧ ∀ j, i ≤ j → j < bs.length + 3 → wr.cell? ⟨g, j, none⟩ = some (.int .u8 (lentF bs (bs.length + 3) j)) ∧ wr.frozen? ⟨g, j, none⟩ = false)) (fun _ iv _ _ => bs.length + 3 - (intOf iv).toNat)
  case atStart => exact ⟨0, Nat.zero_le _, rfl, rfl, Fr.refl _ _, fun j _ hj => unhide HL j hj⟩
  case round =>
    obtain ⟨i, hi, rfl, rfl, HI⟩ := hrel
    by_cases hlt : i < bs.length + 3
    · have ci := ((unhide HI).2 i (Nat.le_refl _) hlt).1
      have fi := ((unhide HI).2 i (Nat.le_refl _) hlt).2
      have hend : ∀ v, Fr (· = g) w (wr.setCell ⟨g, i, none⟩ v) ∧ ∀ j, i + 1 ≤ j → j < bs.length + 3 → (wr.setCell ⟨g, i, none⟩ v).cell? ⟨g, j, none⟩ = some (.int .u8 (lentF bs (bs.length + 3) j)) ∧ (wr.setCell ⟨g, i, none⟩ v).frozen? ⟨g, j, none⟩ = false := fun v =>
        ⟨(unhide HI).1.setCell (p := ⟨g, i, none⟩) (fun _ => rfl) v, fun j h1 h2 => ⟨(World.cell?_setCell_other _ _ _ _ (by intro h; injection h with h1 h2; omega)).trans ((unhide HI).2 j (by omega) h2).1, by rw [World.frozen?_setCell]; exact ((unhide HI).2 j (by omega) h2).2⟩⟩
      have HE := hide hend
      clear hend
      by_cases hin : i < bs.length
      · have hd : decide ((i : Int) < (bs.length : Int)) = true := by simp; omega
        obtain ⟨b, off, rfl, hc⟩ := (unhide HB).1.2.1 (by omega)
        have hgb := (unhide HB).2 b off rfl (by omega)
        have cb := ((unhide HI).1.cell (a := ⟨b, off + i, none⟩) (World.block_lt_of_cell? _ _ (hc i hin)) (fun t => hgb t.symm)).trans (hc i hin)
        rw [lentF_in _ _ _ hin] at ci
        have hself : (((bs[i].toNat : Nat) : Int) == ((bs[i].toNat : Nat) : Int)) = true := by simp
        clear hc
        go_wp2
        exact ⟨⟨i + 1, by omega, by go_num, rfl, unhide HE _⟩, by simp [intOf]; omega⟩
      · have hd : decide ((i : Int) < (bs.length : Int)) = false := by simp; omega
        rw [lentF_mark _ _ _ (by omega) hlt] at ci
        go_wp2
        exact ⟨⟨i + 1, by omega, by go_num, rfl, unhide HE _⟩, by simp [intOf]; omega⟩
    · go_wp2
      go_ret
      exact ⟨rfl, (unhide HI).1⟩

end Go.Proofs.YtabhfeocelljdaaGreatDoor

