import Derived.Test.YtmgejkenpfihmaaFA7
import Derived.Deep.RegionHeld3
/- Rows of priced journeys compared: the same. -/
namespace Go.Proofs.Ytmgejkenpfihmaa
open Go.RowKit

theorem eqP (w : World) (a0 a1 a2 a3 a4 a6 : Int) (a5 : Bool) : (Op.equalIn 10000 42 (.agg #[.int .i64 a0, .int .i64 a1, .int .i64 a2, .int .i64 a3, .int .i64 a4, .bool a5, .int .i64 a6]) (.agg #[.int .i64 a0, .int .i64 a1, .int .i64 a2, .int .i64 a3, .int .i64 a4, .bool a5, .int .i64 a6])).run Try.prog w = .ok true w := by
  have u3 := Try.underlying3
  have u4 := Try.underlying4
  have hS : Try.prog.underlying 42 = some (.struct (Try.prog.fieldsOf 42)) := by kernel_rfl
  have hp : Try.prog.stoodInHeld 42 = false := by kernel_rfl
  have hS2 : Try.prog.underlying 30 = some (.struct (Try.prog.fieldsOf 30)) := by kernel_rfl
  have hp2 : Try.prog.stoodInHeld 30 = false := by kernel_rfl
  have hj : ∀ w', (Op.equalIn 9999 30 (.agg #[.int .i64 a0, .int .i64 a1, .int .i64 a2, .int .i64 a3, .int .i64 a4, .bool a5]) (.agg #[.int .i64 a0, .int .i64 a1, .int .i64 a2, .int .i64 a3, .int .i64 a4, .bool a5])).run Try.prog w' = .ok true w' := fun w' => by
    rw [show (9999 : Nat) = 9998 + 1 from rfl, run_equalIn_agg w' 9998 30 _ _ hS2 hp2]
    simp only [Program.fieldsOf, Try.underlying30]
    go_simp
  rw [show (10000 : Nat) = 9999 + 1 from rfl, run_equalIn_agg w 9999 42 _ _ hS hp]
  simp only [Program.fieldsOf, Try.underlying42]
  go_simp
theorem egP : Try.prog.eqGuardType Try.prog.depth 42 = false := by kernel_rfl

theorem pV_cell {w : World} {ao : Option Addr} {cap g : Nat} {l : List (Jn × Int)} (h : KRow w ao cap g 7 (pV l)) {k : Nat} {b : Jn × Int} (hb : l[k]? = some b) :
    ao = some ⟨g, 0, none⟩ ∧ 0 < cap ∧ ∀ c (_ : c < 7) v, (pL b)[c]? = some v → w.cell? ⟨g, k * 7 + c, none⟩ = some v := by
  have hk := (List.getElem?_eq_some_iff.1 hb).1
  have hl := pV_length l
  have hle := h.le
  have hcap : 0 < cap := by
    rcases Nat.eq_zero_or_pos cap with rfl | h0
    · omega
    · exact h0
  refine ⟨h.ad hcap, hcap, fun c hc v hv => ?_⟩
  have h1 := h.cells (k * 7 + c) (by omega)
  have h2 := flat_get pL 7 (fun _ => rfl) l k hk c hc
  have h3 : l[k] = b := by rw [List.getElem?_eq_getElem hk] at hb; exact Option.some.inj hb
  rw [h3, hv] at h2
  rw [h1]
  have h4 : (pV l)[k * 7 + c]? = some v := h2
  rw [List.getElem?_eq_getElem (by omega)] at h4
  exact h4

set_option maxHeartbeats 1000000 in
/-- The document's Same of two rows that hold the same priced journeys. -/
theorem same_anyP (w : World) (ao bo : Option Addr) (ac bc ga gb : Nat) (l : List (Jn × Int)) (ha : KRow w ao ac ga 7 (pV l)) (hb : KRow w bo bc gb 7 (pV l)) (hl : l.length ≤ 100000) :
    Calls Try.prog 13 #[.slice ao l.length ac, .slice bo l.length bc] w fun e w' => e = .returned (.bool true) ∧ Fr (fun _ => False) w w' := by
  have q1 := egP
  have q2 := eqP
  have HA := hide ha
  have HB := hide hb
  have hself : ((l.length : Int) != (l.length : Int)) = false := by simp
  clear ha hb
  go_enter Try.func13, Try.ntmps13
  go_wp2
  go_loopw [5] (fun iv wr => ∃ i : Nat, i ≤ l.length ∧ iv = .int .i64 i ∧ Hid (Fr (fun _ => False) w wr)) (fun iv _ => l.length - (intOf iv).toNat)
  case atStart => exact ⟨0, Nat.zero_le _, rfl, hide (Fr.refl _ _)⟩
  case round =>
    obtain ⟨i, hi, rfl, HI⟩ := hrel
    by_cases hil : i < l.length
    · obtain ⟨j, hj⟩ : ∃ j, l[i] = j := ⟨_, rfl⟩
      have hgj : l[i]? = some j := by rw [List.getElem?_eq_getElem hil, hj]
      obtain ⟨hao, _, ha⟩ := pV_cell ((unhide HA).keep (by omega) (unhide HI)) hgj
      obtain ⟨hbo, _, hb⟩ := pV_cell ((unhide HB).keep (by omega) (unhide HI)) hgj
      subst hao hbo
      obtain ⟨⟨k, f, o, s, e, r⟩, p⟩ := j
      have a0 : wr.cell? ⟨ga, i * 7, none⟩ = some (.int .i64 k) := ha 0 (by omega) _ rfl
      have a1 : wr.cell? ⟨ga, i * 7 + 1, none⟩ = some (.int .i64 f) := ha 1 (by omega) _ rfl
      have a2 : wr.cell? ⟨ga, i * 7 + 2, none⟩ = some (.int .i64 o) := ha 2 (by omega) _ rfl
      have a3 : wr.cell? ⟨ga, i * 7 + 3, none⟩ = some (.int .i64 s) := ha 3 (by omega) _ rfl
      have a4 : wr.cell? ⟨ga, i * 7 + 4, none⟩ = some (.int .i64 e) := ha 4 (by omega) _ rfl
      have a5 : wr.cell? ⟨ga, i * 7 + 5, none⟩ = some (.bool r) := ha 5 (by omega) _ rfl
      have a6 : wr.cell? ⟨ga, i * 7 + 6, none⟩ = some (.int .i64 p) := ha 6 (by omega) _ rfl
      have b0 : wr.cell? ⟨gb, i * 7, none⟩ = some (.int .i64 k) := hb 0 (by omega) _ rfl
      have b1 : wr.cell? ⟨gb, i * 7 + 1, none⟩ = some (.int .i64 f) := hb 1 (by omega) _ rfl
      have b2 : wr.cell? ⟨gb, i * 7 + 2, none⟩ = some (.int .i64 o) := hb 2 (by omega) _ rfl
      have b3 : wr.cell? ⟨gb, i * 7 + 3, none⟩ = some (.int .i64 s) := hb 3 (by omega) _ rfl
      have b4 : wr.cell? ⟨gb, i * 7 + 4, none⟩ = some (.int .i64 e) := hb 4 (by omega) _ rfl
      have b5 : wr.cell? ⟨gb, i * 7 + 5, none⟩ = some (.bool r) := hb 5 (by omega) _ rfl
      have b6 : wr.cell? ⟨gb, i * 7 + 6, none⟩ = some (.int .i64 p) := hb 6 (by omega) _ rfl
      have hlt : (i : Int) < (l.length : Int) := by omega
      clear ha hb hj hgj hself
      go_wp2_with fail
      go_region_held3 (fun u => u.cell? ⟨ga, i * 7, none⟩ = some (.int .i64 k) ∧ u.cell? ⟨ga, i * 7 + 1, none⟩ = some (.int .i64 f) ∧ u.cell? ⟨ga, i * 7 + 2, none⟩ = some (.int .i64 o) ∧ u.cell? ⟨ga, i * 7 + 3, none⟩ = some (.int .i64 s) ∧ u.cell? ⟨ga, i * 7 + 4, none⟩ = some (.int .i64 e) ∧ u.cell? ⟨ga, i * 7 + 5, none⟩ = some (.bool r) ∧ u.cell? ⟨ga, i * 7 + 6, none⟩ = some (.int .i64 p) ∧ u.cell? ⟨gb, i * 7, none⟩ = some (.int .i64 k) ∧ u.cell? ⟨gb, i * 7 + 1, none⟩ = some (.int .i64 f) ∧ u.cell? ⟨gb, i * 7 + 2, none⟩ = some (.int .i64 o) ∧ u.cell? ⟨gb, i * 7 + 3, none⟩ = some (.int .i64 s) ∧ u.cell? ⟨gb, i * 7 + 4, none⟩ = some (.int .i64 e) ∧ u.cell? ⟨gb, i * 7 + 5, none⟩ = some (.bool r) ∧ u.cell? ⟨gb, i * 7 + 6, none⟩ = some (.int .i64 p)) (go_keep) (fail)
      go_wp2
      exact ⟨⟨i + 1, by omega, by go_num, hide (by with_reducible (first | exact unhide HI | exact (unhide HI).drew | exact (unhide HI).drewN _))⟩, by simp [intOf]; omega⟩
    · obtain rfl : i = l.length := by omega
      clear hself
      go_wp2
      go_ret
      exact ⟨rfl, unhide HI⟩

end Go.Proofs.Ytmgejkenpfihmaa

