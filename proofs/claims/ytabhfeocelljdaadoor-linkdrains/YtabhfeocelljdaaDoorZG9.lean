import Derived.Test.YtabhfeocelljdaaDoorZF7
/- Contract: the law's Same, of frames that are the same. -/
namespace Go.Proofs.YtabhfeocelljdaaDoor
open Go.RowKit

set_option maxHeartbeats 2000000 in
set_option maxRecDepth 20000 in
theorem same_eq (w : World) (f : Fm) (io : Option Addr) (ic : Nat) (bo : Option Addr) (bc : Nat) (io' : Option Addr) (ic' : Nat) (bo' : Option Addr) (bc' : Nat) (hA : f.At w io bo bc) (hB : f.At w io' bo' bc') :
    Calls Tryd.prog 13 #[.agg (f.cells io ic bo bc), .agg (f.cells io' ic' bo' bc')] w fun e w' => e = .returned (.bool true) ∧ Hid (Fr (fun _ => False) w w') := by
  obtain ⟨kd, ba, sq, its, bts⟩ := f
  simp only [Fm.cells]
  have hF : Fr (fun _ => False) w ((w.alloc (.cells #[.int .i64 kd, .int .i64 ba, .int .i64 sq, .slice io its.length ic, .slice bo bts.length bc] 39)).alloc (.cells #[.int .i64 kd, .int .i64 ba, .int .i64 sq, .slice io' its.length ic', .slice bo' bts.length bc'] 39)) := ((Fr.refl _ _).alloc _).alloc _
  have hA' := hA.later hF
  have hB' := hB.later hF
  have hx := (Bx.new w #[.int .i64 kd, .int .i64 ba, .int .i64 sq, .slice io its.length ic, .slice bo bts.length bc] 39).alloc (.cells #[.int .i64 kd, .int .i64 ba, .int .i64 sq, .slice io' its.length ic', .slice bo' bts.length bc'] 39)
  have hy := Bx.new (w.alloc (.cells #[.int .i64 kd, .int .i64 ba, .int .i64 sq, .slice io its.length ic, .slice bo bts.length bc] 39)) #[.int .i64 kd, .int .i64 ba, .int .i64 sq, .slice io' its.length ic', .slice bo' bts.length bc'] 39
  rw [heap_alloc] at hy
  have hcv1 := conv_batL hA'.bytes
  have hcv2 := conv_batL hB'.bytes
  have hsm := hA.items.small
  have hsI : (its.length : Int) ≤ 140737488355328 := by have h : its.length ≤ 140737488355328 := hsm; omega
  have HX := hide (And.intro hx (And.intro hy (And.intro hA'.items (And.intro hB'.items hF))))
  simp only at hcv1 hcv2
  clear hA hB hA' hB' hx hy hF hsm
  go_enter Tryd.func13, Tryd.ntmps13
  go_wp2
  clear hcv1 hcv2
  generalize (w.alloc (.cells #[.int .i64 kd, .int .i64 ba, .int .i64 sq, .slice io its.length ic, .slice bo bts.length bc] 39)).alloc (.cells #[.int .i64 kd, .int .i64 ba, .int .i64 sq, .slice io' its.length ic', .slice bo' bts.length bc'] 39) = w0 at *
  generalize w.heap.size = B at *
  go_loopw [5] (fun iv wr => ∃ (i : Nat), i ≤ its.length ∧ iv = .int .i64 i ∧ Hid (Fr (fun _ => False) w0 wr)) (fun iv _ => its.length - (intOf iv).toNat)
  case atStart => exact ⟨0, Nat.zero_le _, rfl, hide (Fr.refl _ _)⟩
  case round =>
    obtain ⟨i, hi, rfl, HI⟩ := hrel
    have c3 : wr.cell? ⟨B, 3, none⟩ = some (.slice io its.length ic) := ((unhide HX).1.keep (unhide HI)).cell 3
    have d3 : wr.cell? ⟨B + 1, 3, none⟩ = some (.slice io' its.length ic') := ((unhide HX).2.1.keep (unhide HI)).cell 3
    by_cases hil : i < its.length
    · have hiI : (i : Int) < (its.length : Int) := by omega
      have HR1 := hide ((unhide HX).2.2.1.later (unhide HI))
      have HR2 := hide ((unhide HX).2.2.2.1.later (unhide HI))
      obtain ⟨b1, o1, e1, h1⟩ := (unhide HR1).cells (by omega)
      obtain ⟨b2, o2, e2, h2⟩ := (unhide HR2).cells (by omega)
      obtain ⟨a1, p1, k1, m1⟩ := h1 i hil
      obtain ⟨a2, p2, k2, m2⟩ := h2 i hil
      subst e1 e2
      clear h1 h2
      generalize its[i] = x at *
      have HS : Hid (∀ u, Fr (fun _ => False) wr u → u.cell? ⟨B, 3, none⟩ = some (.slice (some ⟨b1, o1, none⟩) its.length ic) ∧ u.cell? ⟨B + 1, 3, none⟩ = some (.slice (some ⟨b2, o2, none⟩) its.length ic') ∧ u.cell? ⟨b1, o1 + i, none⟩ = some (.slice a1 x.length p1) ∧ u.cell? ⟨b2, o2 + i, none⟩ = some (.slice a2 x.length p2) ∧ (convert 31 9 (.slice a1 x.length p1)).run Tryd.prog u = .ok (.string ⟨x.toArray⟩) u ∧ (convert 31 9 (.slice a2 x.length p2)).run Tryd.prog u = .ok (.string ⟨x.toArray⟩) u) := hide (fun u hu => ⟨(hu.cell (World.block_lt_of_cell? _ _ c3) (fun t => t)).trans c3, (hu.cell (World.block_lt_of_cell? _ _ d3) (fun t => t)).trans d3, (hu.cell (World.block_lt_of_cell? _ _ k1) (fun t => t)).trans k1, (hu.cell (World.block_lt_of_cell? _ _ k2) (fun t => t)).trans k2, conv_batL (m1.later hu), conv_batL (m2.later hu)⟩)
      clear m1 m2 k1 k2
      go_wp2_with fail
      go_region_held3 (fun u => u.cell? ⟨B, 3, none⟩ = some (.slice (some ⟨b1, o1, none⟩) its.length ic) ∧ u.cell? ⟨B + 1, 3, none⟩ = some (.slice (some ⟨b2, o2, none⟩) its.length ic') ∧ u.cell? ⟨b1, o1 + i, none⟩ = some (.slice a1 x.length p1) ∧ u.cell? ⟨b2, o2 + i, none⟩ = some (.slice a2 x.length p2) ∧ (convert 31 9 (.slice a1 x.length p1)).run Tryd.prog u = .ok (.string ⟨x.toArray⟩) u ∧ (convert 31 9 (.slice a2 x.length p2)).run Tryd.prog u = .ok (.string ⟨x.toArray⟩) u) (first | exact unhide HS _ ((Fr.refl _ _).drew)) (fail)
      go_wp2
      exact ⟨⟨i + 1, by omega, by go_num, hide ((unhide HI).drew)⟩, by simp [intOf]; omega⟩
    · obtain rfl : i = its.length := by omega
      go_wp2
      go_ret
      exact ⟨rfl, hide ((unhide HX).2.2.2.2.trans (unhide HI) (fun _ _ t => t))⟩

end Go.Proofs.YtabhfeocelljdaaDoor

