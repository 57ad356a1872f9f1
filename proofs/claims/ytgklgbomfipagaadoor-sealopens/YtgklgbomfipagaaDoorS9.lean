/- The law's own examples (awake). -/
import Derived.Test.YtgklgbomfipagaaDoorS8
namespace Go.Proofs.YtgklgbomfipagaaDoor
open Go.RowKit

theorem aw_fox : hmac [107, 101, 121] [84, 104, 101, 32, 113, 117, 105, 99, 107, 32, 98, 114, 111, 119, 110, 32, 102, 111, 120, 32, 106, 117, 109, 112, 115, 32, 111, 118, 101, 114, 32, 116, 104, 101, 32, 108, 97, 122, 121, 32, 100, 111, 103] = [247, 188, 131, 244, 48, 83, 132, 36, 177, 50, 152, 230, 170, 111, 177, 67, 239, 77, 89, 161, 73, 70, 23, 89, 151, 71, 157, 188, 45, 26, 60, 216] := by decide +kernel

set_option maxHeartbeats 2000000 in
set_option maxRecDepth 100000 in
theorem awake_any (w : World) (hT : TabP w) : Calls Tryd.prog 9 #[] w fun e w' => e = .returned (.bool true) ∧ Fr (fun _ => False) w w' := by
  have HT := hide hT
  clear hT
  have hcv := fun (w : World) (C : Array Value) (n c : Nat) => Lib.run_convert_bytes_const (P := Tryd.prog) w 22 5 C n c Tryd.underlying22 Tryd.underlying5
  go_enter Tryd.func9, Tryd.ntmps9
  go_wp2_with fail
  have hF0 := (Fr.refl (fun _ => False) w).alloc (.cells (bytesV [84, 104, 101, 32, 113, 117, 105, 99, 107, 32, 98, 114, 111, 119, 110, 32, 102, 111, 120, 32, 106, 117, 109, 112, 115, 32, 111, 118, 101, 114, 32, 116, 104, 101, 32, 108, 97, 122, 121, 32, 100, 111, 103]).toArray 5 (43, 44))
  have HM := hide (macP_any _ ((unhide HT).later hF0) [107, 101, 121] (by simp) _ 43 [84, 104, 101, 32, 113, 117, 105, 99, 107, 32, 98, 114, 111, 119, 110, 32, 102, 111, 120, 32, 106, 117, 109, 112, 115, 32, 111, 118, 101, 114, 32, 116, 104, 101, 32, 108, 97, 122, 121, 32, 100, 111, 103] (bat_lit w [84, 104, 101, 32, 113, 117, 105, 99, 107, 32, 98, 114, 111, 119, 110, 32, 102, 111, 120, 32, 106, 117, 109, 112, 115, 32, 111, 118, 101, 114, 32, 116, 104, 101, 32, 108, 97, 122, 121, 32, 100, 111, 103] 5 (43, 44) (by simp)) (by simp))
  rw [aw_fox] at HM
  refine (unhide HM).mono ?_
  rintro e w1 ⟨mo, mc, rfl, g1, r1, r2, r3⟩
  obtain ⟨_, _, esh, hlc, _, had, _⟩ := r1.shape
  injection esh with e1 e2 e3
  subst e1 e3
  have hao : mo = some ⟨g1, 0, none⟩ := had (by simp at hlc; omega)
  subst hao
  have c0 : w1.cell? ⟨g1, 0, none⟩ = some (.int .u8 247) := r1.cells 0 (by simp)
  have c1 : w1.cell? ⟨g1, 1, none⟩ = some (.int .u8 188) := r1.cells 1 (by simp)
  have c31 : w1.cell? ⟨g1, 31, none⟩ = some (.int .u8 216) := r1.cells 31 (by simp)
  have hl1 : g1 < w1.heap.size := World.block_lt_of_cell? _ _ c0
  have H1 := hide (And.intro c0 (And.intro c1 (And.intro c31 (hF0.trans r2 (fun _ _ t => t)))))
  clear r1 r2 r3 c0 c1 c31 hF0 hlc had HM e2
  go_wp2_with fail
  have hF1 := (Fr.refl (fun _ => False) w1).alloc (.cells (bytesV [97, 98, 99]).toArray 5 (3, 4))
  have hFs := (unhide H1).2.2.2.trans hF1 (fun _ _ t => t)
  refine (seal_any _ ((unhide HT).later hFs) [107, 101, 121] (by simp) _ 3 [97, 98, 99] (bat_lit w1 [97, 98, 99] 5 (3, 4) (by simp)) (by simp) (by simp)).mono ?_
  rintro e w2 ⟨so, sc, rfl, g2, r1, r2, r3⟩
  have hF2 := hFs.trans r2 (fun _ _ t => t)
  have hF12 := hF1.trans r2 (fun _ _ t => t)
  have hb2 := r1.batn (by simp)
  have H2 := hide (And.intro hb2 (And.intro hF2 hF12))
  clear r1 r2 r3 hF2 hF1 hFs hF12 hb2
  go_wp2_with fail
  refine (open_ok w2 ((unhide HT).later (unhide H2).2.1) [107, 101, 121] (by simp) so sc [97, 98, 99] ((hmac [107, 101, 121] [97, 98, 99]).take 16) 3 rfl (take16 _ _) (unhide H2).1.1 (by have := (unhide H2).1.2.2; simpa using this) rfl).mono ?_
  rintro e w3 ⟨xo, xc, rfl, g3, r1, r2, r3⟩
  have hb3 := r1.batn (by simp)
  have cv := conv_bytes hb3.1
  have H3 := hide (And.intro ((unhide H2).2.1.trans r2 (fun _ _ t => t)) ((unhide H2).2.2.trans r2 (fun _ _ t => t)))
  clear r1 r2 r3 hb3 H2
  have cv' : (convert 22 9 (.slice xo 3 xc)).run Tryd.prog w3 = .ok (.string ⟨#[97, 98, 99]⟩) w3 := cv
  clear cv
  go_wp2_with fail
  refine (open_short w3 [107, 101, 121] (by simp) none 0 0 (by omega)).mono ?_
  rintro e w4 ⟨rfl, rfl⟩
  go_wp2_with fail
  refine (key_bad w4 [107, 101, 121] (by simp) (-1) (by omega)).mono ?_
  rintro e w5 ⟨rfl, rfl⟩
  have k0 := ((unhide H3).2.cell (a := ⟨g1, 0, none⟩) hl1 (fun t => t)).trans (unhide H1).1
  have k1 := ((unhide H3).2.cell (a := ⟨g1, 1, none⟩) hl1 (fun t => t)).trans (unhide H1).2.1
  have k31 := ((unhide H3).2.cell (a := ⟨g1, 31, none⟩) hl1 (fun t => t)).trans (unhide H1).2.2.1
  clear hcv
  go_wp2
  go_ret
  exact ⟨rfl, (unhide H3).1⟩

end Go.Proofs.YtgklgbomfipagaaDoor
