/- The document's Split. -/
import Derived.Test.YtighehbeeflhpaaDoorS3
import Derived.Test.YtighehbeeflhpaaDoorR1
namespace Go.Proofs.YtighehbeeflhpaaDoor
open Go.RowKit

/-- A row of ints of one's own. -/
def SRow (w w' : World) (ao : Option Addr) (cap g : Nat) (l : List Int) : Prop := VRow w' ao cap g (intsV l) ∧ Fr (fun _ => False) w w' ∧ (0 < cap → w.heap.size ≤ g)

theorem intsV_length (l : List Int) : (intsV l).length = l.length := by simp [intsV]
theorem intsV_append (l m : List Int) : intsV (l ++ m) = intsV l ++ intsV m := by simp [intsV]

theorem SRow.next {w w1 w2 w3 : World} {ao ao' : Option Addr} {cap g cap' g' : Nat} {l : List Int} {z : Int} (h : SRow w w1 ao cap g l) (h1 : Fr (fun _ => False) w1 w2) (hr : VRow w3 ao' cap' g' (intsV l ++ [.int .i64 z])) (hg : Grew w2 g cap w3 g' cap') : SRow w w3 ao' cap' g' (l ++ [z]) := by
  obtain ⟨_, hf, hn⟩ := h
  have hf2 := hf.trans h1 (fun _ _ t => t)
  refine ⟨by rw [intsV_append]; exact hr, ?_, ?_⟩
  · rcases hg with ⟨_, _, hF⟩ | ⟨_, _, hF⟩
    · exact hf2.trans hF (fun i hi t => by have := hn t.2; omega)
    · exact hf2.trans hF (fun _ _ t => t)
  · rcases hg with ⟨rfl, rfl, _⟩ | ⟨hs, _, _⟩
    · exact hn
    · intro _; have := hf2.size; omega

theorem src_int (w : World) (v : Int) : Src Tryd.prog 1 22 (.slice (some ⟨w.heap.size, 0, none⟩) 1 1) 1 [.int .i64 v] (w.alloc (.cells #[.int .i64 v] 3)) := by
  refine Src.ofSlice _ Tryd.underlying22 ⟨w.heap.size, 0, none⟩ 1 1 [.int .i64 v] rfl (fun j u hj => ?_) (fun u hu => ?_)
  · match j, hj with
    | 0, hj =>
      cases hj
      rw [Addr.add_lit, World.cell?_alloc_new]
      rfl
    | j + 1, hj => simp at hj
  · cases List.mem_singleton.1 hu
    rfl

theorem info3z : ∃ i, Tryd.prog.info? 3 = some i ∧ i.zero = some (.int .i64 0) ∧ i.size = 1 ∧ i.bytes = 8 := by
  obtain ⟨i, hi, hz⟩ := Option.map_eq_some_iff.1 Tryd.info3
  simp only [Prod.mk.injEq] at hz
  exact ⟨i, hi, hz⟩

def pl (m k i : Nat) : List Int := (List.range i).map fun j => (part m k j : Int)
theorem pl_length (m k i : Nat) : (pl m k i).length = i := by simp [pl]
theorem pl_succ (m k i : Nat) : pl m k (i + 1) = pl m k i ++ [(part m k i : Int)] := by simp [pl, List.range_succ]

theorem rsplit_main (w : World) (m k : Nat) (hm : m ≤ 9007199254740992) (hk0 : 1 ≤ k) (hk : k ≤ 1000) :
    Calls Tryd.prog 25 #[.int .i64 (m : Int), .int .i64 (k : Int)] w fun e w' => ∃ ao cap g, e = .returned (.tuple #[.slice ao k cap, .int .i64 0]) ∧ SRow w w' ao cap g (pl m k k) := by
  have R := rright_any w m
  have hr : right (m : Int) = true := (right_iff _).2 ⟨by omega, by omega⟩
  rw [hr] at R
  clear hr
  obtain ⟨i0, hi, hz0, hz1, hz2⟩ := info3z
  have HI := hide hi
  clear hi
  have hq0 : m / k ≤ m := Nat.div_le_self m k
  have HQ : Hid (wrap64 ((m : Int) / (k : Int)) = ((m / k : Nat) : Int)) := by
    have hq1 : ((m : Int) / (k : Int)) = ((m / k : Nat) : Int) := by simp
    rw [hq1]
    generalize m / k = q at hq0 ⊢
    exact IntWalk.wrap64_in _ ⟨by omega, by omega⟩
  go_enter Tryd.func25, Tryd.ntmps25
  go_wp2_with fail
  refine R.mono ?_
  rintro e w1 ⟨rfl, rfl⟩
  go_wp2
  go_loopw [7, 8, 9] (fun lv iv _ wr => ∃ i : Nat, i ≤ k ∧ iv = .int .i64 i ∧ ∃ ao cap g, lv = .slice ao i cap ∧ Hid (SRow w1 wr ao cap g (pl m k i))) (fun _ iv _ _ => k - (intOf iv).toNat)
  case atStart => exact ⟨0, Nat.zero_le _, rfl, none, 0, 0, rfl, VRow.nil _ _, Fr.refl _ _, fun h => absurd h (by omega)⟩
  case round =>
    obtain ⟨i, hik, rfl, ao, cap, g, rfl, HS⟩ := hrel
    by_cases hlt : i < k
    · obtain ⟨X, HX⟩ : ∃ X : Int, Hid (X = (part m k i : Int)) := ⟨_, rfl⟩
      by_cases hrm : i < m % k
      · have hp : wrap64 (wrap64 ((m : Int) / (k : Int)) + 1) = X := by
          rw [unhide HX, unhide HQ]
          unfold part
          rw [if_pos hrm]
          generalize m / k = q at hq0 ⊢
          exact IntWalk.wrap64_in _ ⟨by omega, by omega⟩
        have HP := hide hp
        clear hp hq0
        go_wp2_with (at_builtin; refine wpList_append_vrow _ rfl (.tmp 39) (.tmp 41) 22 22 rfl 3 i0 (.int .i64 0) Tryd.underlying22 (unhide HI) hz0 rfl hz1 (ao := ao) (cap := cap) (g := g) (n := i) (vs := intsV (pl m k i)) rfl ((unhide HS).1.stay (fun hc => Below.heap_alloc _ _ _ ((unhide HS).1.lt hc))) (by rw [intsV_length, pl_length]) _ [.int .i64 (wrap64 (wrap64 ((m : Int) / (k : Int)) + 1))] 1 rfl rfl (src_int wr _) (by rw [hz2]; omega) (by omega) ?_)
        intro ao' cap' w3 g' hrow hgr
        rw [unhide HP] at hrow
        have HN : Hid (SRow w1 w3 ao' cap' g' (pl m k (i + 1))) := by
          rw [pl_succ, ← unhide HX]
          exact (unhide HS).next ((Fr.refl _ wr).alloc _) hrow hgr
        clear hrow hgr
        go_wp2
        exact ⟨⟨i + 1, by omega, by go_num, ao', cap', g', rfl, unhide HN⟩, by simp [intOf]; omega⟩
      · have hp : wrap64 ((m : Int) / (k : Int)) = X := by
          rw [unhide HX, unhide HQ]
          unfold part
          rw [if_neg hrm]
          rfl
        have HP := hide hp
        clear hp hq0
        go_wp2_with (at_builtin; refine wpList_append_vrow _ rfl (.tmp 39) (.tmp 41) 22 22 rfl 3 i0 (.int .i64 0) Tryd.underlying22 (unhide HI) hz0 rfl hz1 (ao := ao) (cap := cap) (g := g) (n := i) (vs := intsV (pl m k i)) rfl ((unhide HS).1.stay (fun hc => Below.heap_alloc _ _ _ ((unhide HS).1.lt hc))) (by rw [intsV_length, pl_length]) _ [.int .i64 (wrap64 ((m : Int) / (k : Int)))] 1 rfl rfl (src_int wr _) (by rw [hz2]; omega) (by omega) ?_)
        intro ao' cap' w3 g' hrow hgr
        rw [unhide HP] at hrow
        have HN : Hid (SRow w1 w3 ao' cap' g' (pl m k (i + 1))) := by
          rw [pl_succ, ← unhide HX]
          exact (unhide HS).next ((Fr.refl _ wr).alloc _) hrow hgr
        clear hrow hgr
        go_wp2
        exact ⟨⟨i + 1, by omega, by go_num, ao', cap', g', rfl, unhide HN⟩, by simp [intOf]; omega⟩
    · obtain rfl : i = k := by omega
      go_wp2
      go_ret2
      exact ⟨ao, cap, g, rfl, unhide HS⟩

end Go.Proofs.YtighehbeeflhpaaDoor
