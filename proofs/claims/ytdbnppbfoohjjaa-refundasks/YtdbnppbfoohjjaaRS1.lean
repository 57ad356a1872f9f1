import Derived.Test.YtdbnppbfoohjjaaPJ0
import Derived.Deep.RegionHeld3
/- Rows of priced journeys compared: the same, wherever they lie. -/
namespace Go.Proofs.Ytdbnppbfoohjjaa
open Go.RowKit

set_option maxHeartbeats 1000000 in
/-- The document's Same of two rows that hold the same priced journeys. -/
theorem same_catP (w : World) (ao bo : Option Addr) (ac bc : Nat) (l : List (Jn × Int)) (ha : CAt w ao (pV l)) (hb : CAt w bo (pV l)) (hl : l.length ≤ 100000) (n m : Nat) (hn : n = l.length) (hm : m = l.length) :
    Calls Try.prog 20 #[.slice ao n ac, .slice bo m bc] w fun e w' => e = .returned (.bool true) ∧ Fr (fun _ => False) w w' := by
  subst hn hm
  have q1 := egP
  have q2 := eqP
  have HA := hide (fun (u : World) (hu : Fr (fun _ => False) w u) => ha.keep hu)
  have HB := hide (fun (u : World) (hu : Fr (fun _ => False) w u) => hb.keep hu)
  have hself : ((l.length : Int) != (l.length : Int)) = false := by simp
  clear ha hb
  go_enter Try.func20, Try.ntmps20
  go_wp2
  go_loopw [5] (fun iv wr => ∃ i : Nat, i ≤ l.length ∧ iv = .int .i64 i ∧ Hid (Fr (fun _ => False) w wr)) (fun iv _ => l.length - (intOf iv).toNat)
  case atStart => exact ⟨0, Nat.zero_le _, rfl, hide (Fr.refl _ _)⟩
  case round =>
    obtain ⟨i, hi, rfl, HI⟩ := hrel
    by_cases hil : i < l.length
    · obtain ⟨ga, oa, hao, ha⟩ := (unhide HA wr (unhide HI)).pj hil
      obtain ⟨gb, ob, hbo, hb⟩ := (unhide HB wr (unhide HI)).pj hil
      subst hao hbo
      generalize l[i] = j at *
      obtain ⟨⟨k, f, o, s, e, r⟩, p⟩ := j
      have a0 : wr.cell? ⟨ga, oa + i * 7, none⟩ = some (.int .i64 k) := ha 0 (by omega) _ rfl
      have a1 : wr.cell? ⟨ga, oa + i * 7 + 1, none⟩ = some (.int .i64 f) := ha 1 (by omega) _ rfl
      have a2 : wr.cell? ⟨ga, oa + i * 7 + 2, none⟩ = some (.int .i64 o) := ha 2 (by omega) _ rfl
      have a3 : wr.cell? ⟨ga, oa + i * 7 + 3, none⟩ = some (.int .i64 s) := ha 3 (by omega) _ rfl
      have a4 : wr.cell? ⟨ga, oa + i * 7 + 4, none⟩ = some (.int .i64 e) := ha 4 (by omega) _ rfl
      have a5 : wr.cell? ⟨ga, oa + i * 7 + 5, none⟩ = some (.bool r) := ha 5 (by omega) _ rfl
      have a6 : wr.cell? ⟨ga, oa + i * 7 + 6, none⟩ = some (.int .i64 p) := ha 6 (by omega) _ rfl
      have b0 : wr.cell? ⟨gb, ob + i * 7, none⟩ = some (.int .i64 k) := hb 0 (by omega) _ rfl
      have b1 : wr.cell? ⟨gb, ob + i * 7 + 1, none⟩ = some (.int .i64 f) := hb 1 (by omega) _ rfl
      have b2 : wr.cell? ⟨gb, ob + i * 7 + 2, none⟩ = some (.int .i64 o) := hb 2 (by omega) _ rfl
      have b3 : wr.cell? ⟨gb, ob + i * 7 + 3, none⟩ = some (.int .i64 s) := hb 3 (by omega) _ rfl
      have b4 : wr.cell? ⟨gb, ob + i * 7 + 4, none⟩ = some (.int .i64 e) := hb 4 (by omega) _ rfl
      have b5 : wr.cell? ⟨gb, ob + i * 7 + 5, none⟩ = some (.bool r) := hb 5 (by omega) _ rfl
      have b6 : wr.cell? ⟨gb, ob + i * 7 + 6, none⟩ = some (.int .i64 p) := hb 6 (by omega) _ rfl
      have hlt : (i : Int) < (l.length : Int) := by omega
      clear ha hb hself
      go_wp2_with fail
      go_region_held3 (fun u => u.cell? ⟨ga, oa + i * 7, none⟩ = some (.int .i64 k) ∧ u.cell? ⟨ga, oa + i * 7 + 1, none⟩ = some (.int .i64 f) ∧ u.cell? ⟨ga, oa + i * 7 + 2, none⟩ = some (.int .i64 o) ∧ u.cell? ⟨ga, oa + i * 7 + 3, none⟩ = some (.int .i64 s) ∧ u.cell? ⟨ga, oa + i * 7 + 4, none⟩ = some (.int .i64 e) ∧ u.cell? ⟨ga, oa + i * 7 + 5, none⟩ = some (.bool r) ∧ u.cell? ⟨ga, oa + i * 7 + 6, none⟩ = some (.int .i64 p) ∧ u.cell? ⟨gb, ob + i * 7, none⟩ = some (.int .i64 k) ∧ u.cell? ⟨gb, ob + i * 7 + 1, none⟩ = some (.int .i64 f) ∧ u.cell? ⟨gb, ob + i * 7 + 2, none⟩ = some (.int .i64 o) ∧ u.cell? ⟨gb, ob + i * 7 + 3, none⟩ = some (.int .i64 s) ∧ u.cell? ⟨gb, ob + i * 7 + 4, none⟩ = some (.int .i64 e) ∧ u.cell? ⟨gb, ob + i * 7 + 5, none⟩ = some (.bool r) ∧ u.cell? ⟨gb, ob + i * 7 + 6, none⟩ = some (.int .i64 p)) (go_keep) (fail)
      go_wp2
      exact ⟨⟨i + 1, by omega, by go_num, hide (by with_reducible (first | exact unhide HI | exact (unhide HI).drew | exact (unhide HI).drewN _))⟩, by simp [intOf]; omega⟩
    · obtain rfl : i = l.length := by omega
      clear hself
      go_wp2
      go_ret
      exact ⟨rfl, unhide HI⟩

end Go.Proofs.Ytdbnppbfoohjjaa

