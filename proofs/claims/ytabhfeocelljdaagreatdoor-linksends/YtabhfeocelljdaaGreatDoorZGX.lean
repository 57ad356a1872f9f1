import Derived.Test.YtabhfeocelljdaaGreatDoorZF7
import Derived.Test.YtabhfeocelljdaaGreatDoorZG7
import Derived.Test.YtabhfeocelljdaaGreatDoorZG8
import Derived.Lib.SlBytesConst
/- Contract: the law's Same, of frames that are the same. -/
namespace Go.Proofs.YtabhfeocelljdaaGreatDoor
open Go.RowKit

set_option maxHeartbeats 2000000 in
set_option maxRecDepth 20000 in
theorem same_eq (w : World) (f : Fm) (io : Option Addr) (ic : Nat) (bo : Option Addr) (bc : Nat) (io' : Option Addr) (ic' : Nat) (bo' : Option Addr) (bc' : Nat) (hA : f.At w io bo bc) (hB : f.At w io' bo' bc') :
    Calls Tryz.prog 8 #[.agg (f.cells io ic bo bc), .agg (f.cells io' ic' bo' bc')] w fun e w' => e = .returned (.bool true) ∧ Hid (Fr (fun _ => False) w w') := by
  obtain ⟨kd, ba, sq, its, bts⟩ := f
  simp only [Fm.cells]
  have hF : Fr (fun _ => False) w ((w.alloc (.cells #[.int .i64 kd, .int .i64 ba, .int .i64 sq, .slice io its.length ic, .slice bo bts.length bc] 25)).alloc (.cells #[.int .i64 kd, .int .i64 ba, .int .i64 sq, .slice io' its.length ic', .slice bo' bts.length bc'] 25)) := ((Fr.refl _ _).alloc _).alloc _
  have hA' := hA.later hF
  have hB' := hB.later hF
  have hx := (Bx.new w #[.int .i64 kd, .int .i64 ba, .int .i64 sq, .slice io its.length ic, .slice bo bts.length bc] 25).alloc (.cells #[.int .i64 kd, .int .i64 ba, .int .i64 sq, .slice io' its.length ic', .slice bo' bts.length bc'] 25)
  have hy := Bx.new (w.alloc (.cells #[.int .i64 kd, .int .i64 ba, .int .i64 sq, .slice io its.length ic, .slice bo bts.length bc] 25)) #[.int .i64 kd, .int .i64 ba, .int .i64 sq, .slice io' its.length ic', .slice bo' bts.length bc'] 25
  rw [heap_alloc] at hy
  have hcv1 := conv_batL hA'.bytes
  have hcv2 := conv_batL hB'.bytes
  have hsm := hA.items.small
  have hsI : (its.length : Int) ≤ 140737488355328 := by have h : its.length ≤ 140737488355328 := hsm; omega
  have HX := hide (And.intro hx (And.intro hy (And.intro hA'.items (And.intro hB'.items hF))))
  simp only at hcv1 hcv2
  clear hA hB hA' hB' hx hy hF hsm
  go_enter Tryz.func8, Tryz.ntmps8
  go_wp2
  clear hcv1 hcv2
  generalize (w.alloc (.cells #[.int .i64 kd, .int .i64 ba, .int .i64 sq, .slice io its.length ic, .slice bo bts.length bc] 25)).alloc (.cells #[.int .i64 kd, .int .i64 ba, .int .i64 sq, .slice io' its.length ic', .slice bo' bts.length bc'] 25) = w0 at *
  generalize w.heap.size = B at *
  go_loopw [5] (fun iv wr => ∃ (i : Nat), i ≤ its.length ∧ iv = .int .i64 i ∧ Hid (Fr (fun _ => False) w0 wr)) (fun iv _ => its.length - (intOf iv).toNat)
  case atStart => exact ⟨0, Nat.zero_le _, rfl, hide (Fr.refl _ _)⟩
  case round =>
    obtain ⟨i, hi, rfl, HI⟩ := hrel
    have c3 : wr.cell? ⟨B, 3, none⟩ = some (.slice io its.length ic) := ((unhide HX).1.keep (unhide HI)).cell 3
    have d3 : wr.cell? ⟨B + 1, 3, none⟩ = some (.slice io' its.length ic') := ((unhide HX).2.1.keep (unhide HI)).cell 3
    by_cases hil : i < its.length
    · have hiI : (i : Int) < (its.length : Int) := by omega
      have HR1 := hide ((unhide HX).2.2.1.later (unhide HI))
      have HR2 := hide ((unhide HX).2.2.2.1.later (unhide HI))
      obtain ⟨b1, o1, e1, h1⟩ := (unhide HR1).cells (by omega)
      obtain ⟨b2, o2, e2, h2⟩ := (unhide HR2).cells (by omega)
      obtain ⟨a1, p1, k1, m1⟩ := h1 i hil
      obtain ⟨a2, p2, k2, m2⟩ := h2 i hil
      subst e1 e2
      clear h1 h2
      generalize its[i] = x at *
      have HS : Hid (∀ u, Fr (fun _ => False) wr u → u.cell? ⟨B, 3, none⟩ = some (.slice (some ⟨b1, o1, none⟩) its.length ic) ∧ u.cell? ⟨B + 1, 3, none⟩ = some (.slice (some ⟨b2, o2, none⟩) its.length ic') ∧ u.cell? ⟨b1, o1 + i, none⟩ = some (.slice a1 x.length p1) ∧ u.cell? ⟨b2, o2 + i, none⟩ = some (.slice a2 x.length p2) ∧ (convert 23 9 (.slice a1 x.length p1)).run Tryz.prog u = .ok (.string ⟨x.toArray⟩) u ∧ (convert 23 9 (.slice a2 x.length p2)).run Tryz.prog u = .ok (.string ⟨x.toArray⟩) u) := hide (fun u hu => ⟨(hu.cell (World.block_lt_of_cell? _ _ c3) (fun t => t)).trans c3, (hu.cell (World.block_lt_of_cell? _ _ d3) (fun t => t)).trans d3, (hu.cell (World.block_lt_of_cell? _ _ k1) (fun t => t)).trans k1, (hu.cell (World.block_lt_of_cell? _ _ k2) (fun t => t)).trans k2, conv_batL (m1.later hu), conv_batL (m2.later hu)⟩)
      clear m1 m2 k1 k2
      go_wp2_with fail
      go_region_held3 (fun u => u.cell? ⟨B, 3, none⟩ = some (.slice (some ⟨b1, o1, none⟩) its.length ic) ∧ u.cell? ⟨B + 1, 3, none⟩ = some (.slice (some ⟨b2, o2, none⟩) its.length ic') ∧ u.cell? ⟨b1, o1 + i, none⟩ = some (.slice a1 x.length p1) ∧ u.cell? ⟨b2, o2 + i, none⟩ = some (.slice a2 x.length p2) ∧ (convert 23 9 (.slice a1 x.length p1)).run Tryz.prog u = .ok (.string ⟨x.toArray⟩) u ∧ (convert 23 9 (.slice a2 x.length p2)).run Tryz.prog u = .ok (.string ⟨x.toArray⟩) u) (first | exact unhide HS _ ((Fr.refl _ _).drew)) (fail)
      go_wp2
      exact ⟨⟨i + 1, by omega, by go_num, hide ((unhide HI).drew)⟩, by simp [intOf]; omega⟩
    · obtain rfl : i = its.length := by omega
      go_wp2
      go_ret
      exact ⟨rfl, hide ((unhide HX).2.2.2.2.trans (unhide HI) (fun _ _ t => t))⟩

end Go.Proofs.YtabhfeocelljdaaGreatDoor

/- The document's examples of layer 12: awake. -/
namespace Go.Proofs.YtabhfeocelljdaaGreatDoor
open Go.RowKit Go.Maps

def awIts : List Itm := [⟨5, [97]⟩, ⟨6, [98]⟩, ⟨7, [99]⟩, ⟨8, [100]⟩]
def awF1 : Fm := ⟨1, 5, 5, [[97], [98]], []⟩
def awF2 : Fm := ⟨1, 5, 7, [[99]], []⟩
theorem aw_t1 : tickF ⟨3, 2, 2, 0, []⟩ awIts = (⟨3, 2, 2, 1, [(5, 1), (6, 1), (7, 1)]⟩, [awF1, awF2]) := by kernel_rfl
theorem aw_t2 : tickF ⟨3, 2, 2, 1, [(5, 1), (6, 1), (7, 1)]⟩ awIts = (⟨3, 2, 2, 2, [(5, 1), (6, 1), (7, 1)]⟩, []) := by kernel_rfl
theorem aw_m1 : awF1.may = true := by kernel_rfl
theorem aw_m2 : awF2.may = true := by kernel_rfl
theorem aw_g1 : gotF 0 awF2 = (5, []) := by unfold gotF; rw [if_pos ⟨rfl, aw_m2⟩]; rfl
theorem aw_g2 : gotF 5 awF1 = (5, [⟨5, [97]⟩, ⟨6, [98]⟩]) := by unfold gotF; rw [if_pos ⟨rfl, aw_m1⟩]; rfl
theorem aw_r1 : readOk awF1.raw = true := by kernel_rfl
theorem aw_r2 : (readF awF1.raw).1 = awF1 := by kernel_rfl
theorem aw_mk : makeF [107] awF1 = (sealed [107] awF1.raw, 0) := by unfold makeF; rw [aw_m1]; rfl
theorem parse_sealed (s b : List UInt8) (hs : s.length ≤ 200) (hr : readOk b = true) : parseF s (sealed s b) = ((readF b).1, 0) := by
  have hl := sealed_length s b
  have h1 : (sealed s b).length - 16 = b.length := by omega
  have h2 : (sealed s b).take b.length = b := by unfold sealed; rw [List.take_left]
  have h3 : (sealed s b).drop b.length = (hmac s b).take 16 := by unfold sealed; rw [List.drop_left]
  unfold parseF
  rw [if_neg (by omega), h1, h2, h3, if_neg (by rintro (t | t); omega; exact t rfl), hr]
  rfl
theorem aw_p1 : parseF [107] (sealed [107] awF1.raw) = (awF1, 0) := by rw [parse_sealed _ _ (by decide) aw_r1, aw_r2]
theorem aw_p2 : parseF [111, 116, 104, 101, 114] [] = (zeroFm, 121) := by
  unfold parseF
  rw [if_neg (by decide), if_pos (.inl (by decide))]

end Go.Proofs.YtabhfeocelljdaaGreatDoor

/- The document's examples of layer 12: awake's walk. -/
namespace Go.Proofs.YtabhfeocelljdaaGreatDoor
open Go.RowKit Go.Maps

theorem push5 {α : Type} (a : Array α) (o0 o1 o2 o3 o4 : α) (k : Nat) (hk : k < 5) : (((((a.push o0).push o1).push o2).push o3).push o4)[a.size + k]? = [o0, o1, o2, o3, o4][k]? := by
  have _ := hk
  rw [← Array.getElem?_toList]
  simp only [Array.toList_push, List.append_assoc, List.cons_append, List.nil_append]
  rw [List.getElem?_append_right (by rw [Array.length_toList]; omega), Array.length_toList, Nat.add_sub_cancel_left]
theorem two_of {l : List FrM} {a b : Fm} (h : l.map FrM.f = [a, b]) : ∃ x1 x2, l = [x1, x2] ∧ x1.f = a ∧ x2.f = b := by
  rcases l with _ | ⟨x1, _ | ⟨x2, _ | ⟨x3, l⟩⟩⟩
  · simp at h
  · simp at h
  · simp at h; exact ⟨x1, x2, rfl, h.1, h.2⟩
  · simp at h
/-- The world behind the document's four items. -/
def awW (w2 : World) : World := (((((w2.alloc (.cells #[.int .u8 97] 5 (1, 2))).alloc (.cells #[.int .u8 98] 5 (1, 2))).alloc (.cells #[.int .u8 99] 5 (1, 2))).alloc (.cells #[.int .u8 100] 5 (1, 2))).alloc (.cells #[.int .i64 5, .slice (some ⟨w2.heap.size, 0, none⟩) 1 1, .int .i64 6, .slice (some ⟨w2.heap.size + 1, 0, none⟩) 1 1, .int .i64 7, .slice (some ⟨w2.heap.size + 2, 0, none⟩) 1 1, .int .i64 8, .slice (some ⟨w2.heap.size + 3, 0, none⟩) 1 1] 47))
theorem awW_heap (w2 : World) : (awW w2).heap = (((((w2.heap.push (.cells #[.int .u8 97] 5 (1, 2))).push (.cells #[.int .u8 98] 5 (1, 2))).push (.cells #[.int .u8 99] 5 (1, 2))).push (.cells #[.int .u8 100] 5 (1, 2))).push (.cells #[.int .i64 5, .slice (some ⟨w2.heap.size, 0, none⟩) 1 1, .int .i64 6, .slice (some ⟨w2.heap.size + 1, 0, none⟩) 1 1, .int .i64 7, .slice (some ⟨w2.heap.size + 2, 0, none⟩) 1 1, .int .i64 8, .slice (some ⟨w2.heap.size + 3, 0, none⟩) 1 1] 47)) := rfl
theorem awW_size (w2 : World) : (awW w2).heap.size = w2.heap.size + 5 := by simp [awW]
theorem awW_fr (w2 : World) : Fr (fun _ => False) w2 (awW w2) := (((((Fr.refl _ _).alloc _).alloc _).alloc _).alloc _).alloc _
theorem awW_its (w2 u : World) (hu : ∀ k, w2.heap.size ≤ k → k < w2.heap.size + 5 → u.heap[k]? = (awW w2).heap[k]?) : ItsAt u (some ⟨w2.heap.size + 1 + 1 + 1 + 1, 0, none⟩) awIts := by
  have hb : ∀ (k : Nat) (x : UInt8), k < 5 → u.heap[w2.heap.size + k]? = some (.cells #[.int .u8 (x.toNat : Int)] 5 (1, 2)) → BAt u (some ⟨w2.heap.size + k, 0, none⟩) 1 [x] := fun k x hk h => ⟨fun t => by (cases t), fun _ => ⟨_, 0, rfl, fun j hj => by
    have : j = 0 := by simp at hj; omega
    subst this
    simp [World.cell?, h]⟩, by simp⟩
  have b0 := hb 0 97 (by omega) (by rw [hu _ (by omega) (by omega), awW_heap, push5 _ _ _ _ _ _ _ (by omega)]; rfl)
  have b1 := hb 1 98 (by omega) (by rw [hu _ (by omega) (by omega), awW_heap, push5 _ _ _ _ _ _ _ (by omega)]; rfl)
  have b2 := hb 2 99 (by omega) (by rw [hu _ (by omega) (by omega), awW_heap, push5 _ _ _ _ _ _ _ (by omega)]; rfl)
  have b3 := hb 3 100 (by omega) (by rw [hu _ (by omega) (by omega), awW_heap, push5 _ _ _ _ _ _ _ (by omega)]; rfl)
  have hi : u.heap[w2.heap.size + 4]? = some (.cells #[.int .i64 5, .slice (some ⟨w2.heap.size, 0, none⟩) 1 1, .int .i64 6, .slice (some ⟨w2.heap.size + 1, 0, none⟩) 1 1, .int .i64 7, .slice (some ⟨w2.heap.size + 2, 0, none⟩) 1 1, .int .i64 8, .slice (some ⟨w2.heap.size + 3, 0, none⟩) 1 1] 47) := by rw [hu _ (by omega) (by omega), awW_heap, push5 _ _ _ _ _ _ _ (by omega)]; rfl
  refine ⟨fun _ => ⟨w2.heap.size + 4, 0, rfl, fun i hi' => ?_⟩, by simp [awIts]⟩
  have hi4 : i < 4 := hi'
  have hc : ∀ j, u.cell? ⟨w2.heap.size + 4, j, none⟩ = (#[.int .i64 5, .slice (some ⟨w2.heap.size, 0, none⟩) 1 1, .int .i64 6, .slice (some ⟨w2.heap.size + 1, 0, none⟩) 1 1, .int .i64 7, .slice (some ⟨w2.heap.size + 2, 0, none⟩) 1 1, .int .i64 8, .slice (some ⟨w2.heap.size + 3, 0, none⟩) 1 1] : Array Value)[j]? := fun j => by simp [World.cell?, hi]
  rcases i with _ | _ | _ | _ | i
  · exact ⟨hc 0, _, _, hc 1, b0⟩
  · exact ⟨hc 2, _, _, hc 3, b1⟩
  · exact ⟨hc 4, _, _, hc 5, b2⟩
  · exact ⟨hc 6, _, _, hc 7, b3⟩
  · omega

set_option maxHeartbeats 4000000 in
set_option maxRecDepth 20000 in
theorem awakeL_any (w : World) (hT : TabP w) : Calls Tryz.prog 5 #[] w fun e w' => e = .returned (.bool true) ∧ Hid (Fr (fun _ => False) w w') := by
  have HT := hide hT
  clear hT
  go_enter Tryz.func5, Tryz.ntmps5
  go_wp2_with fail
  refine (newsender_ok w (a := 3) (b := 2) (c := 2) (by decide)).mono ?_
  rintro e w1 ⟨p, m, rfl, h1, h2, h3, h4⟩
  have HS1 := hide (And.intro h1 (And.intro h2 (And.intro h3 h4)))
  clear h1 h2 h3 h4
  go_wp2_with fail
  refine (newreceiver_any w1).mono ?_
  rintro e w2 ⟨rfl, h1, h2⟩
  have HF2 : Hid (Fr (fun _ => False) w w2) := hide (by rw [h2]; exact (unhide HS1).2.1.alloc _)
  have HS2 : Hid (SN w2 p m ⟨3, 2, 2, 0, []⟩) := hide (by rw [h2]; exact (unhide HS1).1.frame ((Fr.refl (fun _ => False) _).alloc _) (fun t => t) (fun t => t))
  have HZ : Hid (w2.heap.size = w1.heap.size + 1 ∧ p < w1.heap.size ∧ m < w1.heap.size ∧ w.heap.size ≤ p ∧ w.heap.size ≤ m) := hide (by rw [h2]; exact ⟨heap_alloc _ _, (unhide HS1).1.bx.lt, (unhide HS1).1.mp.lt, (unhide HS1).2.2⟩)
  have HR2 := hide h1
  clear h1 h2 HS1
  generalize w1.heap.size = q at *
  have hc1 : (convert 23 23 (.slice (some ⟨w2.heap.size, 0, none⟩) 1 1)).run Tryz.prog (w2.alloc (.cells #[.int .u8 97] 5)) = .ok (.slice (some ⟨w2.heap.size, 0, none⟩) 1 1) (w2.alloc (.cells #[.int .u8 97] 5 (1, 2))) := by
    have h := Go.Lib.run_convert_bytes_const (P := Tryz.prog) w2 23 5 #[.int .u8 97] 1 1 Tryz.underlying23 Tryz.underlying5
    try simp only [heap_alloc] at h
    exact h
  have hc2 : (convert 23 23 (.slice (some ⟨w2.heap.size + 1, 0, none⟩) 1 1)).run Tryz.prog ((w2.alloc (.cells #[.int .u8 97] 5 (1, 2))).alloc (.cells #[.int .u8 98] 5)) = .ok (.slice (some ⟨w2.heap.size + 1, 0, none⟩) 1 1) ((w2.alloc (.cells #[.int .u8 97] 5 (1, 2))).alloc (.cells #[.int .u8 98] 5 (1, 2))) := by
    have h := Go.Lib.run_convert_bytes_const (P := Tryz.prog) (w2.alloc (.cells #[.int .u8 97] 5 (1, 2))) 23 5 #[.int .u8 98] 1 1 Tryz.underlying23 Tryz.underlying5
    try simp only [heap_alloc] at h
    exact h
  have hc3 : (convert 23 23 (.slice (some ⟨w2.heap.size + 2, 0, none⟩) 1 1)).run Tryz.prog (((w2.alloc (.cells #[.int .u8 97] 5 (1, 2))).alloc (.cells #[.int .u8 98] 5 (1, 2))).alloc (.cells #[.int .u8 99] 5)) = .ok (.slice (some ⟨w2.heap.size + 2, 0, none⟩) 1 1) (((w2.alloc (.cells #[.int .u8 97] 5 (1, 2))).alloc (.cells #[.int .u8 98] 5 (1, 2))).alloc (.cells #[.int .u8 99] 5 (1, 2))) := by
    have h := Go.Lib.run_convert_bytes_const (P := Tryz.prog) ((w2.alloc (.cells #[.int .u8 97] 5 (1, 2))).alloc (.cells #[.int .u8 98] 5 (1, 2))) 23 5 #[.int .u8 99] 1 1 Tryz.underlying23 Tryz.underlying5
    try simp only [heap_alloc] at h
    exact h
  have hc4 : (convert 23 23 (.slice (some ⟨w2.heap.size + 3, 0, none⟩) 1 1)).run Tryz.prog ((((w2.alloc (.cells #[.int .u8 97] 5 (1, 2))).alloc (.cells #[.int .u8 98] 5 (1, 2))).alloc (.cells #[.int .u8 99] 5 (1, 2))).alloc (.cells #[.int .u8 100] 5)) = .ok (.slice (some ⟨w2.heap.size + 3, 0, none⟩) 1 1) ((((w2.alloc (.cells #[.int .u8 97] 5 (1, 2))).alloc (.cells #[.int .u8 98] 5 (1, 2))).alloc (.cells #[.int .u8 99] 5 (1, 2))).alloc (.cells #[.int .u8 100] 5 (1, 2))) := by
    have h := Go.Lib.run_convert_bytes_const (P := Tryz.prog) (((w2.alloc (.cells #[.int .u8 97] 5 (1, 2))).alloc (.cells #[.int .u8 98] 5 (1, 2))).alloc (.cells #[.int .u8 99] 5 (1, 2))) 23 5 #[.int .u8 100] 1 1 Tryz.underlying23 Tryz.underlying5
    try simp only [heap_alloc] at h
    exact h
  go_wp2_with fail
  clear hc1 hc2 hc3 hc4
  have e3 : (((((w2.alloc (.cells #[.int .u8 97] 5 (1, 2))).alloc (.cells #[.int .u8 98] 5 (1, 2))).alloc (.cells #[.int .u8 99] 5 (1, 2))).alloc (.cells #[.int .u8 100] 5 (1, 2))).alloc (.cells #[.int .i64 5, .slice (some ⟨w2.heap.size, 0, none⟩) 1 1, .int .i64 6, .slice (some ⟨w2.heap.size + 1, 0, none⟩) 1 1, .int .i64 7, .slice (some ⟨w2.heap.size + 2, 0, none⟩) 1 1, .int .i64 8, .slice (some ⟨w2.heap.size + 3, 0, none⟩) 1 1] 47)) = awW w2 := rfl
  rw [e3]
  clear e3
  have HITS : Hid (∀ u, Fr (fun k => k = p ∨ k = m) (awW w2) u → ItsAt u (some ⟨w2.heap.size + 1 + 1 + 1 + 1, 0, none⟩) awIts) := hide (fun u hu => awW_its w2 u (fun k h1 h2 => hu.block k (by rw [awW_size]; exact h2) (by have := unhide HZ; omega)))
  have HS3 := hide ((unhide HS2).frame (awW_fr w2) (fun t => t) (fun t => t))
  have HR3 : Hid (RV (awW w2) q 0) := hide (Bx.keep (unhide HR2) (awW_fr w2))
  have HF3 := hide ((unhide HF2).trans (awW_fr w2) (fun _ _ t => t))
  have HZ3 : Hid (q < (awW w2).heap.size ∧ p < q ∧ m < q ∧ w.heap.size ≤ p ∧ w.heap.size ≤ m ∧ w.heap.size ≤ q) := hide (by rw [awW_size]; have := unhide HZ; omega)
  clear HS2 HR2 HF2 HZ
  generalize awW w2 = w3 at *
  generalize (some ⟨w2.heap.size + 1 + 1 + 1 + 1, 0, none⟩ : Option Addr) = ito at *
  refine (tick_any (unhide HS3) ito 4 awIts (unhide HITS) (by decide) (by decide) (by decide)).mono ?_
  rw [aw_t1]
  rintro e w4 ⟨fo, fc, rfl, h4⟩
  obtain ⟨h41, ⟨fb, xs, h42, h43⟩, h44, h45⟩ := unhide h4
  have HS4 := hide h41
  have HFL4 := hide h42
  have HXS := hide h43
  have HF4 := hide h44
  clear h4 h41 h42 h43 h44 h45
  go_wp2_with fail
  refine (tick_any (unhide HS4) ito 4 awIts (fun u hu => unhide HITS u ((unhide HF4).trans hu (fun _ _ t => t))) (by decide) (by decide) (by decide)).mono ?_
  rw [aw_t2]
  rintro e w5 ⟨fo5, fc5, rfl, h5⟩
  obtain ⟨h51, _, h54, _⟩ := unhide h5
  have HF5 := hide ((unhide HF4).trans h54 (fun _ _ t => t))
  have HFL5 := hide ((unhide HFL4).frame h54 (fun i t => by have := unhide HZ3; omega))
  have HR5 : Hid (RV w5 q 0) := hide (Bx.frame (unhide HR3) (unhide HF5) (by have := unhide HZ3; omega))
  clear h5 h51 h54 HS4 HFL4 HF4 HR3 HS3 HITS
  obtain ⟨x1, x2, rfl, hx1, hx2⟩ := two_of (unhide HXS)
  have HAC : Hid (∀ u, FL w3.heap.size u fo fc fb [x1, x2] → fo = some ⟨fb, 0, none⟩ ∧ (∀ j, j < 10 → u.cell? ⟨fb, j, none⟩ = [Value.int .i64 1, .int .i64 5, .int .i64 5, .slice x1.io 2 x1.ic, .slice none 0 0, .int .i64 1, .int .i64 5, .int .i64 7, .slice x2.io 1 x2.ic, .slice none 0 0][j]?) ∧ awF1.At u x1.io none 0 ∧ awF2.At u x2.io none 0) := hide (fun u hu => by
    have hle := hu.row.le
    rw [flat5] at hle
    have h1 := hu.ok x1 (by simp)
    have h2 := hu.ok x2 (by simp)
    refine ⟨hu.row.ad (by simp at hle; omega), fun j hj => ?_, ⟨?_, ⟨fun _ => ⟨rfl, rfl⟩, fun h => absurd h (by decide), by decide⟩⟩, ⟨?_, ⟨fun _ => ⟨rfl, rfl⟩, fun h => absurd h (by decide), by decide⟩⟩⟩
    · have hlt : j < ([x1, x2].flatMap FrM.cells).length := by rw [flat5]; simp; omega
      rw [hu.row.cells j hlt, ← List.getElem?_eq_getElem hlt]
      simp only [List.flatMap_cons, List.flatMap_nil, FrM.cells, hx1, hx2]
      rfl
    · have := h1.il.rows (by rw [hx1]; decide); rw [hx1] at this; exact this
    · have := h2.il.rows (by rw [hx2]; decide); rw [hx2] at this; exact this)
  obtain ⟨hfo, hcl, hA1, hA2⟩ := unhide HAC w5 (unhide HFL5)
  subst hfo
  have HA5 := hide (And.intro hA1 hA2)
  have a0 : w5.cell? ⟨fb, 0, none⟩ = some (.int .i64 1) := hcl 0 (by omega)
  have a1 : w5.cell? ⟨fb, 1, none⟩ = some (.int .i64 5) := hcl 1 (by omega)
  have a2 : w5.cell? ⟨fb, 2, none⟩ = some (.int .i64 5) := hcl 2 (by omega)
  have a3 : w5.cell? ⟨fb, 3, none⟩ = some (.slice x1.io 2 x1.ic) := hcl 3 (by omega)
  have a4 : w5.cell? ⟨fb, 4, none⟩ = some (.slice none 0 0) := hcl 4 (by omega)
  have b0 : w5.cell? ⟨fb, 5, none⟩ = some (.int .i64 1) := hcl 5 (by omega)
  have b1 : w5.cell? ⟨fb, 6, none⟩ = some (.int .i64 5) := hcl 6 (by omega)
  have b2 : w5.cell? ⟨fb, 7, none⟩ = some (.int .i64 7) := hcl 7 (by omega)
  have b3 : w5.cell? ⟨fb, 8, none⟩ = some (.slice x2.io 1 x2.ic) := hcl 8 (by omega)
  have b4 : w5.cell? ⟨fb, 9, none⟩ = some (.slice none 0 0) := hcl 9 (by omega)
  clear hcl hA1 hA2
  have hfl5 : fb < w5.heap.size := World.block_lt_of_cell? _ _ a0
  go_wp2_with fail
  refine (got_some (unhide HR5) (by decide) awF2 x2.io x2.ic none 0 (fun u hu => (unhide HAC u ((unhide HFL5).frame hu (fun i t => by have t : i = q := t; have := unhide HZ3; omega))).2.2.2) rfl aw_m2).mono ?_
  rw [aw_g1]
  rintro e w6 ⟨ro6, rc6, rfl, h6⟩
  obtain ⟨h61, _, h63, _⟩ := unhide h6
  have HR6 := hide h61
  have HF6 := hide h63
  have HFL6 := hide ((unhide HFL5).frame h63 (fun i t => by have t : i = q := t; have := unhide HZ3; omega))
  clear h6 h61 h63 a0 a1 a2 a3 a4 b0 b1 b2 b3 b4 HR5
  obtain ⟨_, hcl, _, _⟩ := unhide HAC w6 (unhide HFL6)
  have a0 : w6.cell? ⟨fb, 0, none⟩ = some (.int .i64 1) := hcl 0 (by omega)
  have a1 : w6.cell? ⟨fb, 1, none⟩ = some (.int .i64 5) := hcl 1 (by omega)
  have a2 : w6.cell? ⟨fb, 2, none⟩ = some (.int .i64 5) := hcl 2 (by omega)
  have a3 : w6.cell? ⟨fb, 3, none⟩ = some (.slice x1.io 2 x1.ic) := hcl 3 (by omega)
  have a4 : w6.cell? ⟨fb, 4, none⟩ = some (.slice none 0 0) := hcl 4 (by omega)
  clear hcl
  go_wp2_with fail
  refine (got_some (unhide HR6) (by decide) awF1 x1.io x1.ic none 0 (fun u hu => (unhide HAC u ((unhide HFL6).frame hu (fun i t => by have t : i = q := t; have := unhide HZ3; omega))).2.2.1) rfl aw_m1).mono ?_
  rw [aw_g2]
  rintro e w7 ⟨ro7, rc7, rfl, h7⟩
  obtain ⟨h71, _, h73, _⟩ := unhide h7
  have HR7 := hide h71
  have HF7 := hide ((unhide HF6).trans h73 (fun _ _ t => t))
  have HFL7 := hide ((unhide HFL6).frame h73 (fun i t => by have t : i = q := t; have := unhide HZ3; omega))
  clear h7 h71 h73 a0 a1 a2 a3 a4 HR6 HFL6 HF6
  go_wp2_with fail
  refine (take_any (unhide HR7) 5).mono ?_
  rw [show takeF 5 5 = 6 by decide]
  rintro e w8 ⟨rfl, h81, h82, h83⟩
  have HR8 := hide h81
  have HF8 := hide ((unhide HF7).trans h82 (fun _ _ t => t))
  have HFL8 := hide ((unhide HFL7).frame h82 (fun i t => by have t : i = q := t; have := unhide HZ3; omega))
  clear h81 h82 h83 HR7 HFL7 HF7
  go_wp2_with fail
  refine (ack_some (unhide HR8) (by decide) (by decide)).mono ?_
  rintro e w9 ⟨rfl, h9⟩
  have HF9 := hide ((unhide HF8).trans (unhide h9) (fun _ _ t => t.elim))
  have HFL9 := hide ((unhide HFL8).frame (unhide h9) (fun i t => t.elim))
  clear h9 HFL8 HF8 HR8
  have HBA := hide (Bx.new w9 #[.int .i64 2, .int .i64 0, .int .i64 5, .slice none 0 0, .slice none 0 0] 25)
  have HFA : Hid (Fr (fun _ => False) w9 (w9.alloc (.cells #[.int .i64 2, .int .i64 0, .int .i64 5, .slice none 0 0, .slice none 0 0] 25))) := hide ((Fr.refl _ _).alloc _)
  have HFLA := hide ((unhide HFL9).frame (unhide HFA) (fun i t => t.elim))
  obtain ⟨_, hcl, _, _⟩ := unhide HAC _ (unhide HFLA)
  have a0 : (w9.alloc (.cells #[.int .i64 2, .int .i64 0, .int .i64 5, .slice none 0 0, .slice none 0 0] 25)).cell? ⟨fb, 0, none⟩ = some (.int .i64 1) := hcl 0 (by omega)
  have a1 : (w9.alloc (.cells #[.int .i64 2, .int .i64 0, .int .i64 5, .slice none 0 0, .slice none 0 0] 25)).cell? ⟨fb, 1, none⟩ = some (.int .i64 5) := hcl 1 (by omega)
  have a2 : (w9.alloc (.cells #[.int .i64 2, .int .i64 0, .int .i64 5, .slice none 0 0, .slice none 0 0] 25)).cell? ⟨fb, 2, none⟩ = some (.int .i64 5) := hcl 2 (by omega)
  have a3 : (w9.alloc (.cells #[.int .i64 2, .int .i64 0, .int .i64 5, .slice none 0 0, .slice none 0 0] 25)).cell? ⟨fb, 3, none⟩ = some (.slice x1.io 2 x1.ic) := hcl 3 (by omega)
  have a4 : (w9.alloc (.cells #[.int .i64 2, .int .i64 0, .int .i64 5, .slice none 0 0, .slice none 0 0] 25)).cell? ⟨fb, 4, none⟩ = some (.slice none 0 0) := hcl 4 (by omega)
  clear hcl
  have HTT : Hid (∀ u, Fr (fun _ => False) w9 u → TabP u) := hide (fun u hu => (unhide HT).later (((unhide HF3).trans (unhide HF5) (fun i hi t => by have := unhide HZ3; omega)).trans ((unhide HF9).trans hu (fun _ _ t => t.elim)) (fun i hi t => by have t : i = q := t; have := unhide HZ3; omega)))
  go_wp2_with fail
  refine (make_any _ (unhide HTT _ (unhide HFA)) [107] awF1 x1.io x1.ic none 0 (unhide HAC _ (unhide HFLA)).2.2.1).mono ?_
  rw [aw_mk]
  rintro e wB ⟨aoB, capB, rfl, hB⟩
  obtain ⟨⟨gB, hB1, hB2⟩, hB3⟩ := unhide hB
  have hsl : (sealed [107] awF1.raw).length = 41 := by rw [sealed_length]; decide
  have HBB := hide (hB1.batn (by rw [hsl]; decide))
  have HFB := hide ((unhide HFA).trans hB3 (fun _ _ t => t))
  have HFLB := hide ((unhide HFLA).frame hB3 (fun i t => t.elim))
  have HBXB := hide ((unhide HBA).keep hB3)
  clear hB hB1 hB2 hB3 a0 a1 a2 a3 a4 HFLA HBA
  have HP := hide (parse_any wB (unhide HTT _ (unhide HFB)) [107] aoB capB (sealed [107] awF1.raw) (unhide HBB).1 (unhide HBB).2.2)
  rw [aw_p1] at HP
  generalize (sealed [107] awF1.raw).length = LS at *
  clear hsl HBB
  go_wp2_with fail
  refine (unhide HP).mono ?_
  rintro e wC ⟨ioC, icC, boC, bcC, rfl, hC⟩
  clear HP
  have HFC := hide ((unhide HFB).trans (unhide hC).fr (fun _ _ t => t))
  have HFLC := hide ((unhide HFLB).frame (unhide hC).fr (fun i t => t.elim))
  have HBXC := hide ((unhide HBXB).keep (unhide hC).fr)
  have HAC2 : Hid (awF1.At wC ioC boC bcC) := by
    obtain ⟨ib, ds, hil⟩ := (unhide hC).il
    obtain ⟨gb, hb1, hb2⟩ := (unhide hC).bs
    exact hide ⟨hil.rows (by decide), (hb1.bat (by decide)).2⟩
  clear hC HFLB HBXB HFB
  have e1 : awF1.cells ioC icC boC bcC = #[.int .i64 1, .int .i64 5, .int .i64 5, .slice ioC 2 icC, .slice boC 0 bcC] := rfl
  dsimp only
  rw [e1]
  clear e1
  have HFD : Hid (Fr (fun _ => False) wC (wC.alloc (.cells #[.int .i64 1, .int .i64 5, .int .i64 5, .slice ioC 2 icC, .slice boC 0 bcC] 25))) := hide ((Fr.refl _ _).alloc _)
  have HBCD := hide (Bx.new wC #[.int .i64 1, .int .i64 5, .int .i64 5, .slice ioC 2 icC, .slice boC 0 bcC] 25)
  have HPO := hide (parse_any (wC.alloc (.cells #[.int .i64 1, .int .i64 5, .int .i64 5, .slice ioC 2 icC, .slice boC 0 bcC] 25)) (unhide HTT _ ((unhide HFC).trans (unhide HFD) (fun _ _ t => t))) [111, 116, 104, 101, 114] none 0 [] ⟨fun _ => ⟨rfl, rfl⟩, fun h => absurd h (by decide), by decide⟩ (by decide))
  rw [aw_p2] at HPO
  go_wp2_with fail
  refine (unhide HPO).mono ?_
  rintro e wD ⟨ioD, icD, boD, bcD, rfl, hD⟩
  clear HPO
  have e2 : zeroFm.cells ioD icD boD bcD = #[.int .i64 0, .int .i64 0, .int .i64 0, .slice ioD 0 icD, .slice boD 0 bcD] := rfl
  dsimp only
  rw [e2]
  clear e2
  have HFE : Hid (Fr (fun _ => False) wC (wD.alloc (.cells #[.int .i64 0, .int .i64 0, .int .i64 0, .slice ioD 0 icD, .slice boD 0 bcD] 25))) := hide (((unhide HFD).trans (unhide hD).fr (fun _ _ t => t)).alloc _)
  have HFLE := hide ((unhide HFLC).frame (unhide HFE) (fun i t => t.elim))
  have HBXE := hide ((unhide HBXC).keep (unhide HFE))
  have HBCE := hide ((unhide HBCD).keep (((Fr.refl (fun _ => False) _).trans (unhide hD).fr (fun _ _ t => t)).alloc (.cells #[.int .i64 0, .int .i64 0, .int .i64 0, .slice ioD 0 icD, .slice boD 0 bcD] 25)))
  have HAE := hide ((unhide HAC2).later (unhide HFE))
  clear hD HBCD HBXC HFLC HAC2 HFD
  generalize w9.heap.size = A9 at *
  generalize wC.heap.size = C9 at *
  have HFG : Hid (Fr (fun _ => False) w9 (wD.alloc (.cells #[.int .i64 0, .int .i64 0, .int .i64 0, .slice ioD 0 icD, .slice boD 0 bcD] 25))) := hide ((unhide HFC).trans (unhide HFE) (fun _ _ t => t))
  go_wp2_with fail
  generalize (wD.alloc (.cells #[.int .i64 0, .int .i64 0, .int .i64 0, .slice ioD 0 icD, .slice boD 0 bcD] 25)) = wE at *
  have HS : Hid (∀ u, Fr (fun _ => False) wE u → u.cell? ⟨A9, 2, none⟩ = some (.int .i64 5) ∧ u.cell? ⟨C9, 0, none⟩ = some (.int .i64 1) ∧ u.cell? ⟨C9, 1, none⟩ = some (.int .i64 5) ∧ u.cell? ⟨C9, 2, none⟩ = some (.int .i64 5) ∧ u.cell? ⟨C9, 3, none⟩ = some (.slice ioC 2 icC) ∧ u.cell? ⟨C9, 4, none⟩ = some (.slice boC 0 bcC) ∧ u.cell? ⟨fb, 0, none⟩ = some (.int .i64 1) ∧ u.cell? ⟨fb, 1, none⟩ = some (.int .i64 5) ∧ u.cell? ⟨fb, 2, none⟩ = some (.int .i64 5) ∧ u.cell? ⟨fb, 3, none⟩ = some (.slice x1.io 2 x1.ic) ∧ u.cell? ⟨fb, 4, none⟩ = some (.slice none 0 0)) := hide (fun u hu => ⟨((unhide HBXE).keep hu).cell 2, ((unhide HBCE).keep hu).cell 0, ((unhide HBCE).keep hu).cell 1, ((unhide HBCE).keep hu).cell 2, ((unhide HBCE).keep hu).cell 3, ((unhide HBCE).keep hu).cell 4, (unhide HAC u ((unhide HFLE).frame hu (fun i t => t.elim))).2.1 0 (by omega), (unhide HAC u ((unhide HFLE).frame hu (fun i t => t.elim))).2.1 1 (by omega), (unhide HAC u ((unhide HFLE).frame hu (fun i t => t.elim))).2.1 2 (by omega), (unhide HAC u ((unhide HFLE).frame hu (fun i t => t.elim))).2.1 3 (by omega), (unhide HAC u ((unhide HFLE).frame hu (fun i t => t.elim))).2.1 4 (by omega)⟩)
  go_region_held3 (fun u => u.cell? ⟨A9, 2, none⟩ = some (.int .i64 5) ∧ u.cell? ⟨C9, 0, none⟩ = some (.int .i64 1) ∧ u.cell? ⟨C9, 1, none⟩ = some (.int .i64 5) ∧ u.cell? ⟨C9, 2, none⟩ = some (.int .i64 5) ∧ u.cell? ⟨C9, 3, none⟩ = some (.slice ioC 2 icC) ∧ u.cell? ⟨C9, 4, none⟩ = some (.slice boC 0 bcC) ∧ u.cell? ⟨fb, 0, none⟩ = some (.int .i64 1) ∧ u.cell? ⟨fb, 1, none⟩ = some (.int .i64 5) ∧ u.cell? ⟨fb, 2, none⟩ = some (.int .i64 5) ∧ u.cell? ⟨fb, 3, none⟩ = some (.slice x1.io 2 x1.ic) ∧ u.cell? ⟨fb, 4, none⟩ = some (.slice none 0 0)) (first | exact unhide HS _ ((Fr.refl _ _).drew) | exact unhide HS _ (((Fr.refl _ _).drew).trans (unhide hS9) (fun _ _ t => t))) ((go_at_call 8; refine (same_eq _ awF1 ioC icC boC bcC x1.io x1.ic none 0 ((unhide HAE).later ((Fr.refl _ _).drew)) ((unhide HAC wE (unhide HFLE)).2.2.1.later ((Fr.refl _ _).drew))).mono ?_; rintro e w8 ⟨rfl, hS9⟩))
  have HFIN : Hid (Fr (fun _ => False) w w8) := hide ((((unhide HF3).trans (unhide HF5) (fun i hi t => by have := unhide HZ3; omega)).trans ((unhide HF9).trans (unhide HFG) (fun _ _ t => t.elim)) (fun i hi t => by have t : i = q := t; have := unhide HZ3; omega)).trans (((Fr.refl (fun _ => False) wE).drew).trans (unhide hS9) (fun _ _ t => t)) (fun _ _ t => t))
  go_wp2
  go_ret
  exact ⟨rfl, HFIN⟩

end Go.Proofs.YtabhfeocelljdaaGreatDoor

