/- The document's writer: Text, Fixed; the law's own function model. -/
import Derived.Test.YtkjoojamkbpfcaaH2
namespace Go.Proofs.Ytkjoojamkbpfcaa
open Go.RowKit

section
variable {w : World} {p g : Nat} {s : Option (List UInt8)}

theorem yFixed (h : YSt w p g s) (t : ByteArray) (size : Int) (hfit : ∀ bs, s = some bs → t.size ≤ 65535 → bs.length + 2 + t.size ≤ 140737488355328) :
    Calls Try.prog 41 #[.pointer (some ⟨p, 0, none⟩), .string t, .int .i64 size] w fun e w' => e = .returned (.tuple #[]) ∧ YPuts p g (stepW s (wFixed t size)) w w' := by
  have H := hide h
  have HFit := hide hfit
  clear h hfit
  have hdl : t.data.toList.length = t.size := rfl
  have HDL := hide hdl
  obtain ⟨c, w1, hcv, HW1⟩ : ∃ c w1, (convert 9 24 (.string t)).run Try.prog w = .ok (.slice (some ⟨w.heap.size, 0, none⟩) t.size c) w1 ∧ Hid (Lies w1 (.slice (some ⟨w.heap.size, 0, none⟩) t.size c) t.data.toList ∧ Fr (fun _ => False) w w1) := by
    refine ⟨_, _, run_bytes_of_string (P := Try.prog) w 9 24 5 t Try.underlying9 Try.underlying24 Try.underlying5, ⟨_, _, rfl, fun _ => ⟨_, 0, rfl, fun j hj => ?_⟩⟩, (Fr.refl _ w).drew.alloc _⟩
    rw [Nat.zero_add]
    have hj2 : j < t.data.size := by simpa using hj
    have hb : ∀ o, (w.drew.alloc o).heap[w.heap.size]? = some o := fun o => by show (w.heap.push o)[w.heap.size]? = _; simp
    unfold World.cell?
    simp only [hb]
    unfold bytesRow
    rw [Array.getElem?_append_left (by simpa using hj2)]
    simp
    exact ⟨_, Array.getElem?_eq_getElem hj2, rfl⟩
  obtain ⟨st, Hst⟩ : ∃ st, Hid (stepW s (wFixed t size) = st) := ⟨_, rfl⟩
  rw [unhide Hst]
  clear hdl
  by_cases hc : 0 ≤ size ∧ size ≤ 65535 ∧ (t.size : Int) = size
  · have d1 : decide (0 ≤ size) = true := by simp; omega
    have d2 : decide (size ≤ 65535) = true := by simp; omega
    have d3 : ((t.size : Int) == size) = true := by simp; omega
    have hst : st = stepW s (some t.data.toList) := by rw [← unhide Hst]; unfold wFixed; rw [if_pos hc]
    have HC := hide hc
    have HS := hide hst
    clear hc hst
    go_enter Try.func41, Try.ntmps41
    go_wp2_with fail
    refine (yput_any ((unhide H).frame (unhide HW1).2 (fun t => t) (fun t => t)) true _ t.data.toList (unhide HW1).1 (fun e bs hbs => by have := unhide HFit bs hbs (by have := unhide HC; omega); rw [unhide HDL]; omega)).mono ?_
    rintro e w3 ⟨rfl, hP⟩
    have hP2 : YPuts p g st w1 w3 := by rw [unhide HS]; exact hP
    have HP := hide (YPuts.later (unhide HW1).2 hP2)
    clear hP2
    clear hP
    go_wp2
    go_end0
    exact ⟨rfl, unhide HP⟩
  have hst : st = none := by rw [← unhide Hst]; unfold wFixed; rw [if_neg hc]; cases s <;> rfl
  subst hst
  by_cases h1 : 0 ≤ size
  · have d1 : decide (0 ≤ size) = true := by simp; omega
    by_cases h2 : size ≤ 65535
    · have d2 : decide (size ≤ 65535) = true := by simp; omega
      have d3 : ((t.size : Int) == size) = false := by simp; omega
      clear hc
      go_enter Try.func41, Try.ntmps41
      go_wp2_with fail
      refine (yput_no ((unhide H).frame (unhide HW1).2 (fun t => t) (fun t => t)) _).mono ?_
      rintro e w3 ⟨rfl, hP⟩
      have HP := hide (YPuts.later (unhide HW1).2 hP)
      clear hP
      go_wp2
      go_end0
      exact ⟨rfl, unhide HP⟩
    · have d2 : decide (size ≤ 65535) = false := by simp; omega
      clear hc
      go_enter Try.func41, Try.ntmps41
      go_wp2_with fail
      refine (yput_no ((unhide H).frame (unhide HW1).2 (fun t => t) (fun t => t)) _).mono ?_
      rintro e w3 ⟨rfl, hP⟩
      have HP := hide (YPuts.later (unhide HW1).2 hP)
      clear hP
      go_wp2
      go_end0
      exact ⟨rfl, unhide HP⟩
  · have d1 : decide (0 ≤ size) = false := by simp; omega
    clear hc
    go_enter Try.func41, Try.ntmps41
    go_wp2_with fail
    refine (yput_no ((unhide H).frame (unhide HW1).2 (fun t => t) (fun t => t)) _).mono ?_
    rintro e w3 ⟨rfl, hP⟩
    have HP := hide (YPuts.later (unhide HW1).2 hP)
    clear hP
    go_wp2
    go_end0
    exact ⟨rfl, unhide HP⟩

end
end Go.Proofs.Ytkjoojamkbpfcaa
