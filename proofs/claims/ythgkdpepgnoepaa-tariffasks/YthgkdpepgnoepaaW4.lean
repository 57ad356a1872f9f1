/- What a tariff says of stations and zones; what is handed in stays (the walk of TariffAsks). -/
import Derived.Test.YthgkdpepgnoepaaU3
import Derived.Test.YthgkdpepgnoepaaV7
import Derived.Test.YthgkdpepgnoepaaL7
namespace Go.Proofs.Ythgkdpepgnoepaa
open Go.RowKit

/-- A block that is known whole. -/
def Bk (w : World) (g : Nat) (cs : Array Value) (e : TypeId) : Prop := w.heap[g]? = some (.cells cs e (0, 0))
theorem Bk.new (w : World) (cs : Array Value) (e : TypeId) : Bk (w.alloc (.cells cs e)) w.heap.size cs e := heap_new _ _
theorem Bk.lt {w : World} {g : Nat} {cs : Array Value} {e : TypeId} (h : Bk w g cs e) : g < w.heap.size := (Array.getElem?_eq_some_iff.1 h).1
theorem Bk.frame {S : Nat → Prop} {w w' : World} {g : Nat} {cs : Array Value} {e : TypeId} (h : Bk w g cs e) (hf : Fr S w w') (hS : ¬ S g) : Bk w' g cs e := (hf.block g h.lt hS).trans h
theorem Bk.keep {w w' : World} {g : Nat} {cs : Array Value} {e : TypeId} (h : Bk w g cs e) (hf : Fr (fun _ => False) w w') : Bk w' g cs e := h.frame hf (fun t => t)
theorem Bk.cell {w : World} {g : Nat} {cs : Array Value} {e : TypeId} (h : Bk w g cs e) (k : Nat) : w.cell? ⟨g, k, none⟩ = cs[k]? := by
  have h' : w.heap[g]? = some (.cells cs e (0, 0)) := h
  simp [World.cell?, h']

theorem eqB (w : World) (x : Bool) : (binOp .eql 4 (.bool x) (.bool x)).run Try.prog w = .ok (.bool true) w := by cases x <;> rfl

set_option maxHeartbeats 4000000 in
set_option maxRecDepth 100000 in
theorem asks_walk (w : World) (A : Ad) (t : Tf) (h : TAt w A t) (id a b : Int) (pk : Bool) : Calls Try.prog 4 #[tv A t, .int .i64 id, .int .i64 a, .int .i64 b, .bool pk] w fun e w' => e = .returned (.bool true) ∧ Fr (fun _ => False) w w' := by
  obtain ⟨B, HBE⟩ : ∃ B, Hid (w.heap.size = B) := ⟨_, rfl⟩
  have R0 := awake_any (w.alloc (.cells (tc A t) 27))
  have HB0 : Hid (TB (w.alloc (.cells (tc A t) 27)) B A t) := hide (by rw [← unhide HBE]; exact TB.new w A t)
  have HF0 := hide ((Fr.refl (fun _ => False) w).alloc (.cells (tc A t) 27))
  have H := hide h
  clear h
  unfold tv
  go_enter Try.func4, Try.ntmps4
  go_wp2_with fail
  rw [unhide HBE]
  refine R0.mono ?_
  rintro e w1 ⟨rfl, hF⟩
  have HB1 := hide ((unhide HB0).keep hF)
  have HF1 := hide ((unhide HF0).trans hF (fun _ _ t => t))
  clear hF HB0 HF0 R0
  go_wp2_with (refine wpList_load_tariff rfl (.tmp 5) rfl (g := B) (A := A) (t := t) rfl (unhide HB1) ?_)
  refine (lent_any w1 A t ((unhide H).keep (unhide HF1))).mono ?_
  rintro e w2 ⟨A', gS, gP, gB, rfl, hL⟩
  obtain ⟨M, HME⟩ : ∃ M, Hid (w2.heap.size = M) := ⟨_, rfl⟩
  have HG : Hid ((w2.alloc (.cells #[.slice none 0 0, .slice none 0 0, .slice none 0 0, .float .f64 0, .int .i64 0, .int .i64 0, .int .i64 0, .int .i64 0, .int .i64 0, .int .i64 0, .int .i64 0, .int .i64 0, .int .i64 0, .int .i64 0] 27)).heap[M]? = some (.cells #[.slice none 0 0, .slice none 0 0, .slice none 0 0, .float .f64 0, .int .i64 0, .int .i64 0, .int .i64 0, .int .i64 0, .int .i64 0, .int .i64 0, .int .i64 0, .int .i64 0, .int .i64 0, .int .i64 0] 27 (0, 0))) := hide (by rw [← unhide HME]; exact heap_new _ _)
  obtain ⟨w3, HW3⟩ : ∃ w3, Hid (w3 = (w2.alloc (.cells #[.slice none 0 0, .slice none 0 0, .slice none 0 0, .float .f64 0, .int .i64 0, .int .i64 0, .int .i64 0, .int .i64 0, .int .i64 0, .int .i64 0, .int .i64 0, .int .i64 0, .int .i64 0, .int .i64 0] 27)).setRow M (tc A' t)) := ⟨_, rfl⟩
  have hF23 : Fr (fun _ => False) w2 w3 := by rw [unhide HW3]; exact ((Fr.refl _ w2).alloc _).setRow (fun h => absurd h (by have := unhide HME; omega)) _
  have HB3 : Hid (TB w3 B A t) := hide (((unhide HB1).keep hL.fr).keep hF23)
  have HI3 : Hid (TB w3 M A' t) := hide (by rw [unhide HW3]; exact TB.set (unhide HG) A' t)
  have HF3 := hide (((unhide HF1).trans hL.fr (fun _ _ t => t)).trans hF23 (fun _ _ t => t))
  have HT3 : Hid (TAt w3 A' t) := hide ((hL.tat ((unhide H).keep (unhide HF1))).keep hF23)
  have HK3 := hide (hL.kp.keep hF23)
  have HQ : Hid (w.heap.size ≤ gS ∧ w.heap.size ≤ gP ∧ w.heap.size ≤ gB ∧ B ≠ gS ∧ B ≠ gP ∧ B ≠ gB) := hide (by
    have a0 := (unhide HF1).size
    have a1 := hL.oS.new
    have a2 := hL.oP.new
    have a3 := hL.oB.new
    have a4 := (unhide HB1).lt
    exact ⟨by omega, by omega, by omega, by omega, by omega, by omega⟩)
  clear hL hF23 HB1 HF1
  go_wp2_with (first | (rw [unhide HME]; refine wpList_store_tariff rfl (.tmp 12) (.tmp 28) rfl (g := M) (A := A') (t := t) rfl rfl _ (unhide HG) rfl ?_; rw [← unhide HW3]) | refine wpList_load_tariff rfl (.tmp 12) rfl (g := M) (A := A') (t := t) rfl (unhide HI3) ?_)
  obtain ⟨rs, HRS⟩ : ∃ rs, Hid ((stationOf t id).getD ⟨0, 0, 0⟩ = rs) := ⟨_, rfl⟩
  obtain ⟨ri, HRI⟩ : ∃ ri, Hid ((stationOf t id).isSome = ri) := ⟨_, rfl⟩
  obtain ⟨ps, HPS⟩ : ∃ ps, Hid ((spanOf t a b).getD ⟨0, 0, 0, 0, 0⟩ = ps) := ⟨_, rfl⟩
  obtain ⟨pi, HPI⟩ : ∃ pi, Hid ((spanOf t a b).isSome = pi) := ⟨_, rfl⟩
  obtain ⟨n, HN⟩ : ∃ n, Hid ((singleR t a b pk).1 = n) := ⟨_, rfl⟩
  obtain ⟨m, HM⟩ : ∃ m, Hid ((singleR t a b pk).2 = m) := ⟨_, rfl⟩
  have R := station_any w3 A' t (unhide HT3) id
  rw [unhide HRS, unhide HRI] at R
  refine R.mono ?_
  rintro e w4 ⟨rfl, hF⟩
  clear HG HW3 R
  have hF' := hF.alloc (.cells #[.int .i64 rs.id, .int .i64 rs.zone, .int .i64 rs.group] 35)
  have HB4 := hide ((unhide HB3).keep hF')
  have HI4 := hide ((unhide HI3).keep hF')
  have HF4 := hide ((unhide HF3).trans hF' (fun _ _ t => t))
  have HT4 := hide ((unhide HT3).keep hF')
  have HK4 := hide ((unhide HK3).keep hF')
  have HS4 := hide (Bk.new w4 #[.int .i64 rs.id, .int .i64 rs.zone, .int .i64 rs.group] 35)
  have HQ2 : Hid (gS < w4.heap.size ∧ gP < w4.heap.size ∧ gB < w4.heap.size) := hide (by
    have h1 := (unhide HK3).rS.lt (by omega) (unhide HK3).pS
    have h2 := (unhide HK3).rP.lt (by omega) (unhide HK3).pP
    have h3 := (unhide HK3).rB.lt (by omega) (unhide HK3).pB
    have h4 := hF.size
    exact ⟨by omega, by omega, by omega⟩)
  have R := span_any (w4.alloc (.cells #[.int .i64 rs.id, .int .i64 rs.zone, .int .i64 rs.group] 35)) A' t (unhide HT4) a b
  rw [unhide HPS, unhide HPI] at R
  clear hF hF' HB3 HI3 HF3 HT3 HK3
  go_wp2_with (refine wpList_load_tariff rfl (.tmp 12) rfl (g := M) (A := A') (t := t) rfl (unhide HI4) ?_)
  refine R.mono ?_
  rintro e w5 ⟨rfl, hF⟩
  have hF' := hF.alloc (.cells #[.int .i64 ps.fr, .int .i64 ps.to, .int .i64 ps.single, .int .i64 ps.daily, .int .i64 ps.weekly] 39)
  have HB5 := hide ((unhide HB4).keep hF')
  have HI5 := hide ((unhide HI4).keep hF')
  have HF5 := hide ((unhide HF4).trans hF' (fun _ _ t => t))
  have HT5 := hide ((unhide HT4).keep hF')
  have HK5 := hide ((unhide HK4).keep hF')
  have HS5 := hide ((unhide HS4).keep hF')
  have HP5 := hide (Bk.new w5 #[.int .i64 ps.fr, .int .i64 ps.to, .int .i64 ps.single, .int .i64 ps.daily, .int .i64 ps.weekly] 39)
  have HQ3 : Hid (w4.heap.size < w5.heap.size) := hide (by have h1 := (unhide HS4).lt; have h2 := hF.size; omega)
  have R := single_any (w5.alloc (.cells #[.int .i64 ps.fr, .int .i64 ps.to, .int .i64 ps.single, .int .i64 ps.daily, .int .i64 ps.weekly] 39)) A' t (unhide HT5) a b pk
  rw [unhide HN, unhide HM] at R
  clear hF hF' HB4 HI4 HF4 HT4 HK4 HS4
  go_wp2_with (refine wpList_load_tariff rfl (.tmp 12) rfl (g := M) (A := A') (t := t) rfl (unhide HI5) ?_)
  refine R.mono ?_
  rintro e w6 ⟨rfl, hF⟩
  have HB6 := hide ((unhide HB5).keep hF)
  have HI6 := hide ((unhide HI5).keep hF)
  have HF6 := hide ((unhide HF5).trans hF (fun _ _ t => t))
  have HT6 := hide ((unhide HT5).keep hF)
  have HK6 := hide ((unhide HK5).keep hF)
  have HS6 := hide ((unhide HS5).keep hF)
  have HP6 := hide ((unhide HP5).keep hF)
  clear hF HB5 HI5 HF5 HT5 HK5 HS5 HP5 R
  go_wp2_with (first | refine wpList_load_tariff rfl (.tmp 12) rfl (g := M) (A := A') (t := t) rfl (unhide HI6) ?_ | refine wpList_load_tariff rfl (.tmp 5) rfl (g := B) (A := A) (t := t) rfl (unhide HB6) ?_)
  refine (kept_any w6 A' A t gS gP gB (unhide HT6) ((unhide H).keep (unhide HF6)) (unhide HK6)).mono ?_
  rintro e w7 ⟨rfl, hF⟩
  have HB7 := hide ((unhide HB6).frame hF (by have := unhide HQ; omega))
  have HF7 : Hid (Fr (fun _ => False) w w7) := hide ((unhide HF6).trans hF (fun q hq hh => by have := unhide HQ; omega))
  have HS7 := hide ((unhide HS6).frame hF (by have := unhide HQ2; omega))
  have HP7 := hide ((unhide HP6).frame hF (by have := unhide HQ2; have := unhide HQ3; omega))
  clear hF HB6 HI6 HF6 HT6 HK6 HS6 HP6
  have R := rstation_any w7 A t ((unhide H).keep (unhide HF7)) id
  rw [unhide HRS, unhide HRI] at R
  go_wp2_with (refine wpList_load_tariff rfl (.tmp 5) rfl (g := B) (A := A) (t := t) rfl (unhide HB7) ?_)
  refine R.mono ?_
  rintro e w8 ⟨rfl, hF⟩
  have hF' := hF.alloc (.cells #[.int .i64 rs.id, .int .i64 rs.zone, .int .i64 rs.group] 35)
  have HB8 := hide ((unhide HB7).keep hF')
  have HF8 := hide ((unhide HF7).trans hF' (fun _ _ t => t))
  have HS8 := hide ((unhide HS7).keep hF')
  have HP8 := hide ((unhide HP7).keep hF')
  have HX8 := hide (Bk.new w8 #[.int .i64 rs.id, .int .i64 rs.zone, .int .i64 rs.group] 35)
  have R := rspan_any (w8.alloc (.cells #[.int .i64 rs.id, .int .i64 rs.zone, .int .i64 rs.group] 35)) A t ((unhide H).keep (unhide HF8)) a b
  rw [unhide HPS, unhide HPI] at R
  clear hF hF' HB7 HF7 HS7 HP7
  go_wp2_with (refine wpList_load_tariff rfl (.tmp 5) rfl (g := B) (A := A) (t := t) rfl (unhide HB8) ?_)
  refine R.mono ?_
  rintro e w9 ⟨rfl, hF⟩
  have hF' := hF.alloc (.cells #[.int .i64 ps.fr, .int .i64 ps.to, .int .i64 ps.single, .int .i64 ps.daily, .int .i64 ps.weekly] 39)
  have HB9 := hide ((unhide HB8).keep hF')
  have HF9 := hide ((unhide HF8).trans hF' (fun _ _ t => t))
  have HS9 := hide ((unhide HS8).keep hF')
  have HP9 := hide ((unhide HP8).keep hF')
  have HX9 := hide ((unhide HX8).keep hF')
  have HY9 := hide (Bk.new w9 #[.int .i64 ps.fr, .int .i64 ps.to, .int .i64 ps.single, .int .i64 ps.daily, .int .i64 ps.weekly] 39)
  have R := rsingle_any (w9.alloc (.cells #[.int .i64 ps.fr, .int .i64 ps.to, .int .i64 ps.single, .int .i64 ps.daily, .int .i64 ps.weekly] 39)) A t ((unhide H).keep (unhide HF9)) a b pk
  rw [unhide HN, unhide HM] at R
  clear hF hF' HB8 HF8 HS8 HP8 HX8
  go_wp2_with (refine wpList_load_tariff rfl (.tmp 5) rfl (g := B) (A := A) (t := t) rfl (unhide HB9) ?_)
  refine R.mono ?_
  rintro e w10 ⟨rfl, hF⟩
  have HF10 := hide ((unhide HF9).trans hF (fun _ _ t => t))
  have s' := (unhide HS9).keep hF
  have p' := (unhide HP9).keep hF
  have x' := (unhide HX9).keep hF
  have y' := (unhide HY9).keep hF
  have s0 : w10.cell? ⟨w4.heap.size, 0, none⟩ = some (.int .i64 rs.id) := s'.cell 0
  have s1 : w10.cell? ⟨w4.heap.size, 1, none⟩ = some (.int .i64 rs.zone) := s'.cell 1
  have s2 : w10.cell? ⟨w4.heap.size, 2, none⟩ = some (.int .i64 rs.group) := s'.cell 2
  have x0 : w10.cell? ⟨w8.heap.size, 0, none⟩ = some (.int .i64 rs.id) := x'.cell 0
  have x1 : w10.cell? ⟨w8.heap.size, 1, none⟩ = some (.int .i64 rs.zone) := x'.cell 1
  have x2 : w10.cell? ⟨w8.heap.size, 2, none⟩ = some (.int .i64 rs.group) := x'.cell 2
  have p0 : w10.cell? ⟨w5.heap.size, 0, none⟩ = some (.int .i64 ps.fr) := p'.cell 0
  have p1 : w10.cell? ⟨w5.heap.size, 1, none⟩ = some (.int .i64 ps.to) := p'.cell 1
  have p2 : w10.cell? ⟨w5.heap.size, 2, none⟩ = some (.int .i64 ps.single) := p'.cell 2
  have p3 : w10.cell? ⟨w5.heap.size, 3, none⟩ = some (.int .i64 ps.daily) := p'.cell 3
  have p4 : w10.cell? ⟨w5.heap.size, 4, none⟩ = some (.int .i64 ps.weekly) := p'.cell 4
  have y0 : w10.cell? ⟨w9.heap.size, 0, none⟩ = some (.int .i64 ps.fr) := y'.cell 0
  have y1 : w10.cell? ⟨w9.heap.size, 1, none⟩ = some (.int .i64 ps.to) := y'.cell 1
  have y2 : w10.cell? ⟨w9.heap.size, 2, none⟩ = some (.int .i64 ps.single) := y'.cell 2
  have y3 : w10.cell? ⟨w9.heap.size, 3, none⟩ = some (.int .i64 ps.daily) := y'.cell 3
  have y4 : w10.cell? ⟨w9.heap.size, 4, none⟩ = some (.int .i64 ps.weekly) := y'.cell 4
  have e1 := eg35
  have e2 := eg39
  have e3 : ∀ w, (binOp .eql 35 (.agg #[.int .i64 rs.id, .int .i64 rs.zone, .int .i64 rs.group]) (.agg #[.int .i64 rs.id, .int .i64 rs.zone, .int .i64 rs.group])).run Try.prog w = .ok (.bool true) w := fun w => by rw [run_eql_struct, eq35]; simp [Result.andThen]
  have e4 : ∀ w, (binOp .eql 39 (.agg #[.int .i64 ps.fr, .int .i64 ps.to, .int .i64 ps.single, .int .i64 ps.daily, .int .i64 ps.weekly]) (.agg #[.int .i64 ps.fr, .int .i64 ps.to, .int .i64 ps.single, .int .i64 ps.daily, .int .i64 ps.weekly])).run Try.prog w = .ok (.bool true) w := fun w => by rw [run_eql_struct, eq39]; simp [Result.andThen]
  have e5 := eqB
  clear hF HB9 HF9 HS9 HP9 HX9 HY9 R s' p' x' y' HRS HRI HPS HPI HN HM H
  go_wp2
  go_ret
  exact ⟨by first | rfl | simp, unhide HF10⟩

end Go.Proofs.Ythgkdpepgnoepaa
