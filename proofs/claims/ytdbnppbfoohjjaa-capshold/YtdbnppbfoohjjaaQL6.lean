import Derived.Test.YtdbnppbfoohjjaaQLX
/- The law's own Lent. -/
namespace Go.Proofs.Ytdbnppbfoohjjaa
open Go.RowKit

/-- A lent tariff. -/
structure Lt (w w' : World) (A' : Ad) (t : Tf) (gS gP gB : Nat) : Prop where
  oS : OwnT w w' A'.aS A'.cS gS 3 (stV (t.st ++ [markS]))
  oP : OwnT w w' A'.aP A'.cP gP 5 (spV (t.sp ++ [markP]))
  oB : OwnT w w' A'.aB A'.cB gB 2 (bdV (t.bd ++ [markB]))
  n1 : gS ≠ gP
  n2 : gS ≠ gB
  n3 : gP ≠ gB
  fr : Fr (fun _ => False) w w'

theorem CAt.old {w w' : World} {ao : Option Addr} {vs : List Value} {S : Nat → Prop} (h : CAt w ao vs) (hf : Fr S w w') (hS : ∀ q, q < w.heap.size → ¬ S q) : CAt w' ao vs :=
  fun hl => by
    obtain ⟨b, off, e, hc⟩ := h hl
    exact ⟨b, off, e, fun j hj => (hf.cell (a := ⟨b, off + j, none⟩) (World.block_lt_of_cell? _ _ (hc j hj)) (hS _ (World.block_lt_of_cell? _ _ (hc j hj)))).trans (hc j hj)⟩

set_option maxHeartbeats 2000000 in
set_option maxRecDepth 100000 in
theorem lent_anyT (w : World) (A : Ad) (t : Tf) (h : TAt w A t) : Calls Try.prog 14 #[tv A t] w fun e w' => ∃ A' gS gP gB, e = .returned (tv A' t) ∧ Lt w w' A' t gS gP gB := by
  obtain ⟨B, HBE⟩ : ∃ B, Hid (B = w.heap.size) := ⟨_, rfl⟩
  obtain ⟨W0, hW0⟩ : ∃ W0, W0 = (w.alloc (.cells (tc A t) 27)).alloc (.cells #[.slice none 0 0, .slice none 0 0, .slice none 0 0, .float .f64 0, .int .i64 0, .int .i64 0, .int .i64 0, .int .i64 0, .int .i64 0, .int .i64 0, .int .i64 0, .int .i64 0, .int .i64 0, .int .i64 0] 27) := ⟨_, rfl⟩
  have hF0 : Fr (fun q => q = B) w W0 := by rw [hW0]; exact ((Fr.refl _ w).alloc _).alloc _
  have hb0 : TB W0 B A t := by rw [hW0, unhide HBE]; exact (TB.new w A t).keep ((Fr.refl _ _).alloc _)
  have hG0 : W0.heap[B + 1]? = some (.cells #[.slice none 0 0, .slice none 0 0, .slice none 0 0, .float .f64 0, .int .i64 0, .int .i64 0, .int .i64 0, .int .i64 0, .int .i64 0, .int .i64 0, .int .i64 0, .int .i64 0, .int .i64 0, .int .i64 0] 27 (0, 0)) := by rw [hW0, unhide HBE, ← heap_alloc w (.cells (tc A t) 27)]; exact heap_new _ _
  have hN : ∀ q, q < w.heap.size → ¬ q = B := fun q hq => by rw [unhide HBE]; omega
  have HS := hide (And.intro hF0 (And.intro hb0 hG0))
  have H := hide h
  have HN := hide hN
  clear hF0 hb0 h hG0 hN
  unfold tc at hW0
  unfold tv tc
  go_enter Try.func14, Try.ntmps14
  go_wp2_with fail
  rw [← hW0, ← unhide HBE]
  clear hW0
  refine lent_region0 W0 B A t (unhide HS).2.1 ((unhide H).st.old (unhide HS).1 (unhide HN)) (unhide H).lS _ _ _ _ _ _ _ _ _ _ _ _ _ _ _ _ _ _ _ _ _ _ _ _ _ _ _ _ _ _ _ _ _ _ _ _ _ _ _ _ _ _ _ _ _ _ _ _ _ _ _ ?_
  intro u3 u4 u5 u6 u7 u8 u9 u10 u11 u12 u13 u14 u15 u16 u17 u18 ao0 cap0 g0 W1 hb1 ho0 hf1
  have HS1 : Hid (Fr (fun q => q = B) w W1 ∧ TB W1 B { A with aS := ao0, cS := cap0 } t ∧ W1.heap[B + 1]? = some (.cells #[.slice none 0 0, .slice none 0 0, .slice none 0 0, .float .f64 0, .int .i64 0, .int .i64 0, .int .i64 0, .int .i64 0, .int .i64 0, .int .i64 0, .int .i64 0, .int .i64 0, .int .i64 0, .int .i64 0] 27 (0, 0)) ∧ OwnT W0 W1 ao0 cap0 g0 3 (stV (t.st ++ [markS]))) := hide ⟨(unhide HS).1.trans hf1 (fun _ _ t => t), hb1, (hf1.block _ ((Array.getElem?_eq_some_iff.1 (unhide HS).2.2).1) (by omega)).trans (unhide HS).2.2, ho0⟩
  have HW1 := hide hf1.size
  clear hb1 ho0 hf1
  go_wp2_with fail
  refine lent_region1 W1 B { A with aS := ao0, cS := cap0 } t (unhide HS1).2.1 ((unhide H).sp.old (unhide HS1).1 (unhide HN)) (unhide H).lP _ _ _ _ _ _ _ _ _ _ _ _ _ _ _ _ _ _ _ _ _ _ _ _ _ _ _ _ _ _ _ _ _ _ _ _ _ _ _ _ _ _ _ _ _ _ _ _ _ _ _ ?_
  intro u19 u20 u21 u22 u23 u24 u25 u26 u27 u28 u29 u30 u31 u32 u33 u34 ao1 cap1 g1 W2 hb2 ho1 hf2
  have HS2 : Hid (Fr (fun q => q = B) w W2 ∧ TB W2 B { A with aS := ao0, cS := cap0, aP := ao1, cP := cap1 } t ∧ W2.heap[B + 1]? = some (.cells #[.slice none 0 0, .slice none 0 0, .slice none 0 0, .float .f64 0, .int .i64 0, .int .i64 0, .int .i64 0, .int .i64 0, .int .i64 0, .int .i64 0, .int .i64 0, .int .i64 0, .int .i64 0, .int .i64 0] 27 (0, 0)) ∧ OwnT W0 W2 ao0 cap0 g0 3 (stV (t.st ++ [markS])) ∧ OwnT W1 W2 ao1 cap1 g1 5 (spV (t.sp ++ [markP]))) := hide ⟨(unhide HS1).1.trans hf2 (fun _ _ t => t), hb2, (hf2.block _ ((Array.getElem?_eq_some_iff.1 (unhide HS1).2.2.1).1) (by omega)).trans (unhide HS1).2.2.1, (unhide HS1).2.2.2.frame (by omega) hf2 (by have h1 := (unhide HS1).2.2.2.new; have h2 := (unhide HS).2.1.lt; omega), ho1⟩
  have HW2 := hide hf2.size
  clear hb2 ho1 hf2
  go_wp2_with fail
  refine lent_region2 W2 B { A with aS := ao0, cS := cap0, aP := ao1, cP := cap1 } t (unhide HS2).2.1 ((unhide H).bd.old (unhide HS2).1 (unhide HN)) (unhide H).lB _ _ _ _ _ _ _ _ _ _ _ _ _ _ _ _ _ _ _ _ _ _ _ _ _ _ _ _ _ _ _ _ _ _ _ _ _ _ _ _ _ _ _ _ _ _ _ _ _ _ _ ?_
  intro u35 u36 u37 u38 u39 u40 u41 u42 u43 u44 u45 u46 u47 u48 u49 u50 ao2 cap2 g2 W3 hb3 ho2 hf3
  have HS3 : Hid (Fr (fun q => q = B) w W3 ∧ TB W3 B { A with aS := ao0, cS := cap0, aP := ao1, cP := cap1, aB := ao2, cB := cap2 } t ∧ W3.heap[B + 1]? = some (.cells #[.slice none 0 0, .slice none 0 0, .slice none 0 0, .float .f64 0, .int .i64 0, .int .i64 0, .int .i64 0, .int .i64 0, .int .i64 0, .int .i64 0, .int .i64 0, .int .i64 0, .int .i64 0, .int .i64 0] 27 (0, 0)) ∧ OwnT W0 W3 ao0 cap0 g0 3 (stV (t.st ++ [markS])) ∧ OwnT W1 W3 ao1 cap1 g1 5 (spV (t.sp ++ [markP])) ∧ OwnT W2 W3 ao2 cap2 g2 2 (bdV (t.bd ++ [markB]))) := hide ⟨(unhide HS2).1.trans hf3 (fun _ _ t => t), hb3, (hf3.block _ ((Array.getElem?_eq_some_iff.1 (unhide HS2).2.2.1).1) (by omega)).trans (unhide HS2).2.2.1, (unhide HS2).2.2.2.1.frame (by omega) hf3 (by have h1 := (unhide HS2).2.2.2.1.new; have h2 := (unhide HS).2.1.lt; omega), (unhide HS2).2.2.2.2.frame (by omega) hf3 (by have h1 := (unhide HS2).2.2.2.2.new; have h2 := (unhide HS1).2.1.lt; omega), ho2⟩
  clear hb3 ho2 hf3
  go_wp2_with (first | refine wpList_load_tariff rfl (.tmp 1) rfl (g := B) (A := { A with aS := ao0, cS := cap0, aP := ao1, cP := cap1, aB := ao2, cB := cap2 }) (t := t) rfl (unhide HS3).2.1 ?_ | refine wpList_store_tariff rfl (.tmp 2) (.tmp 51) rfl (g := B + 1) (A := { A with aS := ao0, cS := cap0, aP := ao1, cP := cap1, aB := ao2, cB := cap2 }) (t := t) rfl rfl _ (unhide HS3).2.2.1 rfl ?_)
  refine bodyPost_ret (results_tariff rfl _ _ (g := B + 1) (A := { A with aS := ao0, cS := cap0, aP := ao1, cP := cap1, aB := ao2, cB := cap2 }) (t := t) rfl (TB.set (unhide HS3).2.2.1 _ _)) rfl ⟨_, g0, g1, g2, rfl, ?_⟩
  obtain ⟨k1, k2, k3, k4, k5, k6⟩ := unhide HS3
  have hs := (Fr.refl (fun q => q = B + 1) W3).setRow (g := B + 1) (fun _ => rfl) (tc { A with aS := ao0, cS := cap0, aP := ao1, cP := cap1, aB := ao2, cB := cap2 } t)
  have e1 := (Array.getElem?_eq_some_iff.1 (unhide HS).2.2).1
  have e2 := unhide HW1
  have e3 := unhide HW2
  have a1 := k4.new
  have a2 := k5.new
  have a3 := k6.new
  have b1 := (unhide HS1).2.2.2.row.lt (by omega) (unhide HS1).2.2.2.pos
  have b2 := (unhide HS2).2.2.2.2.row.lt (by omega) (unhide HS2).2.2.2.2.pos
  have eB := unhide HBE
  have o1 := k4.frame (by omega) hs (by omega)
  have o2 := k5.frame (by omega) hs (by omega)
  have o3 := k6.frame (by omega) hs (by omega)
  refine ⟨⟨o1.row, by omega, o1.pos⟩, ⟨o2.row, by omega, o2.pos⟩, ⟨o3.row, by omega, o3.pos⟩, by omega, by omega, by omega, ?_⟩
  exact (k1.mono (T := fun _ => False) (fun q hq e => by omega)).trans hs (fun q hq e => by omega)

end Go.Proofs.Ytdbnppbfoohjjaa

