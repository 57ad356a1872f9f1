/- An amount in parts: Split. -/
import Derived.Test.YtighehbeeflhpaaDoorS2
import Derived.Deep.OwnRows
namespace Go.Proofs.YtighehbeeflhpaaDoor
open Go.RowKit

def part (n p j : Nat) : Nat := n / p + (if j < n % p then 1 else 0)

def splitE (n p : Int) : Int := if owed n then (if 1 ≤ p ∧ p ≤ 1000 then 0 else 1) else 50
def splitL (n p : Int) : List Int := if splitE n p = 0 then (List.range p.toNat).map fun j => (part n.toNat p.toNat j : Int) else []

def intsV (l : List Int) : List Value := l.map fun z => Value.int .i64 z

/-- What a Split answers. -/
def SplitAns (w : World) (n p : Int) (e : Ending) (w' : World) : Prop :=
  ∃ ao cap g, e = .returned (.tuple #[.slice ao (splitL n p).length cap, .int .i64 (splitE n p)]) ∧ VRow w' ao cap g (intsV (splitL n p)) ∧ w.heap.size ≤ g ∧ Fr (fun _ => False) w w'

theorem Tryd.info3 : (Tryd.prog.info? 3).map (fun i => (i.zero, i.size, i.bytes)) = some (some (.int .i64 0), 1, 8) := by kernel_rfl

theorem split_main (w : World) (m k : Nat) (hm : m ≤ 9007199254740992) (hk0 : 1 ≤ k) (hk : k ≤ 1000) :
    Calls Tryd.prog 24 #[.int .i64 (m : Int), .int .i64 (k : Int)] w fun e w' => e = .returned (.tuple #[.slice (some ⟨w.heap.size, 0, none⟩) k k, .int .i64 0]) ∧ Fr (fun _ => False) w w' ∧ ∀ j, j < k → w'.cell? ⟨w.heap.size, j, none⟩ = some (.int .i64 (part m k j : Int)) ∧ w'.frozen? ⟨w.heap.size, j, none⟩ = false := by
  have R := owed_any w m
  have ho : owed (m : Int) = true := by simp [owed, right]; omega
  rw [ho] at R
  have hmk := fun w' => run_make_row' (P := Tryd.prog) 22 3 (.int .i64 0) 8 Tryd.underlying22 Tryd.info3 rfl .i64 .i64 k (by omega) (by omega) w'
  obtain ⟨w0, hw0⟩ : ∃ w0, w0 = w.alloc (.cells (madeCells #[.int .i64 0] k) 3) := ⟨_, rfl⟩
  have HW : Hid (Fr (fun _ => False) w w0 ∧ ∀ j, j < k → w0.cell? ⟨w.heap.size, j, none⟩ = some (.int .i64 0) ∧ w0.frozen? ⟨w.heap.size, j, none⟩ = false) := by
    subst hw0
    refine ⟨(Fr.refl _ w).alloc _, fun j hj => ⟨?_, World.frozen?_alloc_new _ _ _ _⟩⟩
    rw [World.cell?_alloc_new]
    simp [madeCells, hj, Nat.mod_one]
  have hmk' := hmk w
  rw [← hw0] at hmk'
  clear hmk
  generalize hN : w.heap.size = N at *
  have HN : Hid (N = w.heap.size) := hN.symm
  clear ho hw0 hN
  go_enter Tryd.func24, Tryd.ntmps24
  go_wp2_with fail
  refine R.mono ?_
  rintro e w1 ⟨rfl, rfl⟩
  go_wp2
  go_loopw [7, 21] (fun _ iv wr => ∃ i : Nat, i ≤ k ∧ iv = .int .i64 i ∧ Hid (Fr (fun _ => False) w1 wr ∧ ∀ j, j < k → (wr.cell? ⟨N, j, none⟩ = some (.int .i64 (if j < i then (part m k j : Int) else 0)) ∧ wr.frozen? ⟨N, j, none⟩ = false))) (fun _ iv _ => k - (intOf iv).toNat)
  case atStart => exact ⟨0, Nat.zero_le _, rfl, (unhide HW).1, fun j hj => by simpa using (unhide HW).2 j hj⟩
  case round =>
    obtain ⟨i, hi, rfl, HI⟩ := hrel
    by_cases hlt : i < k
    · have ci := ((unhide HI).2 i hlt).1
      have fi := ((unhide HI).2 i hlt).2
      rw [if_neg (Nat.lt_irrefl i)] at ci
      have hq0 : m / k ≤ m := Nat.div_le_self m k
      have hq1 : ((m : Int) / (k : Int)) = ((m / k : Nat) : Int) := by simp
      have hq : Hid (wrap64 ((m : Int) / (k : Int)) = ((m / k : Nat) : Int)) := by
        rw [hq1]
        generalize m / k = q at hq0 ⊢
        exact IntWalk.wrap64_in _ ⟨by omega, by omega⟩
      have key : Hid (∀ X : World, Fr (fun _ => False) w1 X → X.cell? ⟨N, i, none⟩ = some (.int .i64 (part m k i : Int)) → (∀ j, j ≠ i → X.cell? ⟨N, j, none⟩ = wr.cell? ⟨N, j, none⟩) → (∀ j, X.frozen? ⟨N, j, none⟩ = wr.frozen? ⟨N, j, none⟩) →
          Fr (fun _ => False) w1 X ∧ ∀ j, j < k → (X.cell? ⟨N, j, none⟩ = some (.int .i64 (if j < i + 1 then (part m k j : Int) else 0)) ∧ X.frozen? ⟨N, j, none⟩ = false)) := by
        intro X h1 h2 h3 h4
        refine ⟨h1, fun j hj => ⟨?_, (h4 j).trans ((unhide HI).2 j hj).2⟩⟩
        by_cases e : j = i
        · subst e; rw [h2, if_pos (by omega)]
        · rw [h3 j e, ((unhide HI).2 j hj).1]
          by_cases h5 : j < i
          · rw [if_pos h5, if_pos (by omega)]
          · rw [if_neg h5, if_neg (by omega)]
      have hN : N < w1.heap.size → False := by rw [unhide HN]; exact Nat.lt_irrefl _
      have hne : ∀ j, j ≠ i → (⟨N, i, none⟩ : Addr) ≠ ⟨N, j, none⟩ := fun j hj h => by injection h with _ h2; exact hj h2.symm
      have HK := hide (And.intro hN hne)
      clear hq1 hN hne
      by_cases hr : i < m % k
      · have hp : Hid (wrap64 (wrap64 ((m : Int) / (k : Int)) + 1) = (part m k i : Int)) := by
          rw [unhide hq]
          unfold part
          rw [if_pos hr]
          generalize m / k = q at hq0 ⊢
          exact IntWalk.wrap64_in _ ⟨by omega, by omega⟩
        clear hq0
        go_wp2
        refine ⟨⟨i + 1, by omega, by go_num, unhide key _ (((unhide HI).1.setCell (p := ⟨N, i, none⟩) (unhide HK).1 _).setCell (p := ⟨N, i, none⟩) (unhide HK).1 _) ?_ (fun j hj => ?_) (fun j => ?_)⟩, by simp [intOf]; omega⟩
        · rw [unhide hp]
          exact World.cell?_setCell_same _ _ _ (World.cell?_setCell_same _ _ _ ci)
        · rw [World.cell?_setCell_other _ _ _ _ ((unhide HK).2 j hj), World.cell?_setCell_other _ _ _ _ ((unhide HK).2 j hj)]
        · rw [World.frozen?_setCell, World.frozen?_setCell]
      · have hp : Hid (wrap64 ((m : Int) / (k : Int)) = (part m k i : Int)) := by
          rw [unhide hq]
          unfold part
          rw [if_neg hr]
          rfl
        clear hq0
        go_wp2
        refine ⟨⟨i + 1, by omega, by go_num, unhide key _ ((unhide HI).1.setCell (p := ⟨N, i, none⟩) (unhide HK).1 _) ?_ (fun j hj => ?_) (fun j => ?_)⟩, by simp [intOf]; omega⟩
        · rw [unhide hp]
          exact World.cell?_setCell_same _ _ _ ci
        · rw [World.cell?_setCell_other _ _ _ _ ((unhide HK).2 j hj)]
        · rw [World.frozen?_setCell]
    · obtain rfl : i = k := by omega
      go_wp2
      go_ret2
      exact ⟨rfl, (unhide HI).1, fun j hj => by have := (unhide HI).2 j hj; rwa [if_pos hj] at this⟩

theorem splitL_length (n p : Int) (h : splitE n p = 0) : (splitL n p).length = p.toNat := by simp [splitL, h]

theorem split_any (w : World) (n p : Int) : Calls Tryd.prog 24 #[.int .i64 n, .int .i64 p] w (SplitAns w n p) := by
  by_cases h1 : owed n = true
  · by_cases h2 : 1 ≤ p ∧ p ≤ 1000
    · have hn : 0 ≤ n ∧ n ≤ 9007199254740992 := by
        have := h1; simp [owed, right] at this; omega
      obtain ⟨m, rfl⟩ := Int.eq_ofNat_of_zero_le hn.1
      obtain ⟨k, rfl⟩ := Int.eq_ofNat_of_zero_le (show 0 ≤ p by omega)
      have e0 : splitE (m : Int) (k : Int) = 0 := by simp [splitE, h1, h2]
      refine (split_main w m k (by omega) (by omega) (by omega)).mono ?_
      rintro e w' ⟨rfl, hf, hc⟩
      refine ⟨some ⟨w.heap.size, 0, none⟩, k, w.heap.size, ?_, ⟨?_, ?_, fun _ => rfl, fun j hj => ⟨?_, (hc j hj).2⟩, fun j hj => ?_, ?_⟩, Nat.le_refl _, hf⟩
      · rw [e0, splitL_length _ _ e0]; rfl
      · simp [intsV, splitL_length _ _ e0]
      · unfold maxLen; omega
      · rw [(hc j hj).1]; rfl
      · have hjk : j < k := by simpa [intsV, splitL_length _ _ e0] using hj
        rw [(hc j hjk).1]
        simp [intsV, splitL, e0]
      · intro u hu
        obtain ⟨b, _, rfl⟩ := List.mem_map.1 hu
        rfl
    · have R := owed_any w n
      have e0 : splitE n p = 1 := by simp [splitE, h1, h2]
      have e1 : splitL n p = [] := by simp [splitL, e0]
      rw [h1] at R
      unfold SplitAns
      rw [e0, e1]
      clear e0 e1 h1
      have hq : (decide (p < 1) = true) ∨ (decide (p < 1) = false ∧ decide (1000 < p) = true) := by simp; omega
      clear h2
      rcases hq with h | ⟨h, h'⟩
      · go_enter Tryd.func24, Tryd.ntmps24
        go_wp2_with fail
        refine R.mono ?_
        rintro e w1 ⟨rfl, rfl⟩
        go_wp2
        go_ret2
        exact ⟨none, 0, w1.heap.size, rfl, VRow.nil _ _, Nat.le_refl _, Fr.refl _ _⟩
      · go_enter Tryd.func24, Tryd.ntmps24
        go_wp2_with fail
        refine R.mono ?_
        rintro e w1 ⟨rfl, rfl⟩
        go_wp2
        go_ret2
        exact ⟨none, 0, w1.heap.size, rfl, VRow.nil _ _, Nat.le_refl _, Fr.refl _ _⟩
  · have h1' : owed n = false := by simpa using h1
    have R := owed_any w n
    have e0 : splitE n p = 50 := by simp [splitE, h1']
    have e1 : splitL n p = [] := by simp [splitL, e0]
    rw [h1'] at R
    unfold SplitAns
    rw [e0, e1]
    clear e0 e1 h1 h1'
    go_enter Tryd.func24, Tryd.ntmps24
    go_wp2_with fail
    refine R.mono ?_
    rintro e w1 ⟨rfl, rfl⟩
    go_wp2
    go_ret2
    exact ⟨none, 0, w1.heap.size, rfl, VRow.nil _ _, Nat.le_refl _, Fr.refl _ _⟩

end Go.Proofs.YtighehbeeflhpaaDoor
