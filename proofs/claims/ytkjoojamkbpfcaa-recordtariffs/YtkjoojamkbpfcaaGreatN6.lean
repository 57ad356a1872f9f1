/- Records that hold lists: deltas, outages, tariffs; read and written. -/
import Derived.Test.YtkjoojamkbpfcaaGreatN5
namespace Go.Proofs.YtkjoojamkbpfcaaGreat
open Go.RowKit

/-- A list that was made behind w0. -/
structure KL (w0 w : World) (ao : Option Addr) (cap gl k : Nat) (vs : List Value) : Prop where
  row : KRow w ao cap gl k vs
  new : 0 < cap → w0.heap.size ≤ gl

theorem KL.frame {w0 w w' : World} {ao : Option Addr} {cap gl k p b : Nat} {vs : List Value} (h : KL w0 w ao cap gl k vs) (hk : 0 < k) (hf : Fr (fun q => q = p ∨ q = b) w w') (hp : p < w0.heap.size) (hb : b < w0.heap.size) : KL w0 w' ao cap gl k vs :=
  ⟨h.row.stay (fun hc => hf.block gl (h.row.lt hk hc) (by have := h.new hc; omega)), h.new⟩

theorem KL.later {w0 w1 w : World} {ao : Option Addr} {cap gl k : Nat} {vs : List Value} (h : KL w1 w ao cap gl k vs) (hs : w0.heap.size ≤ w1.heap.size) : KL w0 w ao cap gl k vs := ⟨h.row, fun hc => Nat.le_trans hs (h.new hc)⟩

theorem Most.list (ks : List Kd) (rs : List (List Value)) : Most (wrM ks rs) (2 + rs.length * wide ks) := (Most.count _).step (Most.wrN ks rs)

def deltaQ0 (bs : List UInt8) (s : RS) : List Value × RS := rdL bs (List.replicate 1 (.num 8)) s
def deltaS1 (bs : List UInt8) (s : RS) : RS := (deltaQ0 bs s).2
def deltaQ1 (bs : List UInt8) (s : RS) : List (List Value) × RS := rdM bs 1000 tokenK (deltaS1 bs s)
def deltaS2 (bs : List UInt8) (s : RS) : RS := (deltaQ1 bs s).2
def deltaQ2 (bs : List UInt8) (s : RS) : List (List Value) × RS := rdM bs 1000 tokenK (deltaS2 bs s)
def deltaS3 (bs : List UInt8) (s : RS) : RS := (deltaQ2 bs s).2

def tariffQ0 (bs : List UInt8) (s : RS) : List (List Value) × RS := rdM bs 200 stationK s
def tariffS1 (bs : List UInt8) (s : RS) : RS := (tariffQ0 bs s).2
def tariffQ1 (bs : List UInt8) (s : RS) : List (List Value) × RS := rdM bs 45 spanK (tariffS1 bs s)
def tariffS2 (bs : List UInt8) (s : RS) : RS := (tariffQ1 bs s).2
def tariffQ2 (bs : List UInt8) (s : RS) : List (List Value) × RS := rdM bs 8 bandK (tariffS2 bs s)
def tariffS3 (bs : List UInt8) (s : RS) : RS := (tariffQ2 bs s).2
def tariffQ3 (bs : List UInt8) (s : RS) : Value × RS := Kd.rd bs (.float) (tariffS3 bs s)
def tariffS4 (bs : List UInt8) (s : RS) : RS := (tariffQ3 bs s).2
def tariffQ4 (bs : List UInt8) (s : RS) : List Value × RS := rdL bs (List.replicate 3 (.num 4)) (tariffS4 bs s)
def tariffS5 (bs : List UInt8) (s : RS) : RS := (tariffQ4 bs s).2
def tariffQ5 (bs : List UInt8) (s : RS) : List Value × RS := rdL bs (List.replicate 1 (.num 2)) (tariffS5 bs s)
def tariffS6 (bs : List UInt8) (s : RS) : RS := (tariffQ5 bs s).2
def tariffQ6 (bs : List UInt8) (s : RS) : List Value × RS := rdL bs (List.replicate 1 (.num 4)) (tariffS6 bs s)
def tariffS7 (bs : List UInt8) (s : RS) : RS := (tariffQ6 bs s).2
def tariffQ7 (bs : List UInt8) (s : RS) : List Value × RS := rdL bs (List.replicate 4 (.num 2)) (tariffS7 bs s)
def tariffS8 (bs : List UInt8) (s : RS) : RS := (tariffQ7 bs s).2
def tariffQ8 (bs : List UInt8) (s : RS) : List Value × RS := rdL bs (List.replicate 1 (.num 4)) (tariffS8 bs s)
def tariffS9 (bs : List UInt8) (s : RS) : RS := (tariffQ8 bs s).2

set_option maxHeartbeats 2000000 in
theorem tariff_r {w : World} {p g b : Nat} {bs : List UInt8} {s : RS} {t : TypeId} (x3 x4 x5 x6 x7 x8 x9 x10 x11 x12 x13 : Value) (h : RB w p g b bs s #[.slice none 0 0, .slice none 0 0, .slice none 0 0, x3, x4, x5, x6, x7, x8, x9, x10, x11, x12, x13] t) :
    Calls Tryz.prog 18 #[walkR p, .pointer (some ⟨b, 0, none⟩)] w fun e w' => e = .returned (.tuple #[]) ∧ ∃ a0 c0 g0 a1 c1 g1 a2 c2 g2,
      RB w' p g b bs (tariffS9 bs s) #[.slice a0 (tariffQ0 bs s).1.length c0, .slice a1 (tariffQ1 bs s).1.length c1, .slice a2 (tariffQ2 bs s).1.length c2, (tariffQ3 bs s).1, (tariffQ4 bs s).1.getD 0 undef, (tariffQ4 bs s).1.getD 1 undef, (tariffQ4 bs s).1.getD 2 undef, (tariffQ5 bs s).1.getD 0 undef, (tariffQ6 bs s).1.getD 0 undef, (tariffQ7 bs s).1.getD 0 undef, (tariffQ7 bs s).1.getD 1 undef, (tariffQ7 bs s).1.getD 2 undef, (tariffQ7 bs s).1.getD 3 undef, (tariffQ8 bs s).1.getD 0 undef] t ∧ (KL w w' a0 c0 g0 3 (tariffQ0 bs s).1.flatten ∧ KL w w' a1 c1 g1 5 (tariffQ1 bs s).1.flatten ∧ KL w w' a2 c2 g2 2 (tariffQ2 bs s).1.flatten) ∧ ((0 < c0 → 0 < c1 → g0 ≠ g1) ∧ (0 < c0 → 0 < c2 → g0 ≠ g2) ∧ (0 < c1 → 0 < c2 → g1 ≠ g2)) ∧ Fr (fun k => k = p ∨ k = b) w w' := by
  have H := hide h
  have hp := h.plt
  have hb := h.x.lt
  have hbp := h.np
  clear h
  go_enter Tryz.func18, Tryz.ntmps18
  go_wp2_with fail
  have HX0 : Hid (Bx (w.alloc (.cells #[.pointer none, .pointer (some ⟨p, 0, none⟩)] 59)) w.heap.size #[.pointer none, .pointer (some ⟨p, 0, none⟩)] 59) := hide (Bx.new _ _ _)
  have HB0 := hide ((unhide H).alloc (.cells #[.pointer none, .pointer (some ⟨p, 0, none⟩)] 59))
  have HF0 : Hid (Fr (fun k => k = p ∨ k = b) w (w.alloc (.cells #[.pointer none, .pointer (some ⟨p, 0, none⟩)] 59))) := hide ((Fr.refl _ _).alloc _)
  obtain ⟨N, HN⟩ : ∃ N, Hid (w.heap.size = N) := ⟨_, rfl⟩
  have hNp : N ≠ p := by have := unhide HN; omega
  have hNb : N ≠ b := by have := unhide HN; omega
  rw [unhide HN] at HX0 ⊢
  generalize w.alloc (.cells #[.pointer none, .pointer (some ⟨p, 0, none⟩)] 59) = w0 at *
  have m0 : w0.cell? ⟨N, 0, none⟩ = some (.pointer none) := (unhide HX0).cell 0
  have m1 : w0.cell? ⟨N, 1, none⟩ = some (.pointer (some ⟨p, 0, none⟩)) := (unhide HX0).cell 1
  have HC0 := hide (listStation_r (unhide HB0).drew 0 rfl 200 (by omega))
  go_region_held3 (fun w' => w'.cell? ⟨N, 0, none⟩ = some (.pointer none) ∧ w'.cell? ⟨N, 1, none⟩ = some (.pointer (some ⟨p, 0, none⟩))) (go_keep)
    ((go_at_call 37; refine (unhide HC0).mono ?_; rintro e w1 ⟨rfl, a0, c0, g0, hB1, hK, hn, hF1⟩; have hx1 : Fr (fun k => k = p ∨ k = b) w0 w1 := Fr.trans (((Fr.refl (fun _ => False) w0).drew).mono (fun _ _ t => t.elim)) hF1 (fun _ _ t => t); have HK0 : Hid (KL w w1 a0 c0 g0 3 (tariffQ0 bs s).1.flatten) := hide ⟨hK, fun hc => by have h1 := hn hc; have h2 := (unhide HF0).size; have h3 : w0.drew.heap.size = w0.heap.size := rfl; omega⟩; clear hK hn; have k0 : w1.cell? ⟨N, 0, none⟩ = some (.pointer none) := ((unhide HX0).frame hx1 (by omega)).cell 0; have k1 : w1.cell? ⟨N, 1, none⟩ = some (.pointer (some ⟨p, 0, none⟩)) := ((unhide HX0).frame hx1 (by omega)).cell 1; have HX1 := hide ((unhide HX0).frame hx1 (by omega)); have HF1 : Hid (Fr (fun k => k = p ∨ k = b) w w1) := hide ((unhide HF0).trans hx1 (fun _ _ t => t)); have HB1 : Hid (RB w1 p g b bs (tariffS1 bs s) #[.slice a0 (tariffQ0 bs s).1.length c0, .slice none 0 0, .slice none 0 0, x3, x4, x5, x6, x7, x8, x9, x10, x11, x12, x13] t) := hide (hB1); clear hB1 hF1 hx1))
  clear HC0 HX0 HF0 HB0 m0 m1
  have m0 : w1.cell? ⟨N, 0, none⟩ = some (.pointer none) := (unhide HX1).cell 0
  have m1 : w1.cell? ⟨N, 1, none⟩ = some (.pointer (some ⟨p, 0, none⟩)) := (unhide HX1).cell 1
  go_wp2_with fail
  have HC1 := hide (listSpan_r (unhide HB1).drew 1 rfl 45 (by omega))
  go_region_held3 (fun w' => w'.cell? ⟨N, 0, none⟩ = some (.pointer none) ∧ w'.cell? ⟨N, 1, none⟩ = some (.pointer (some ⟨p, 0, none⟩))) (go_keep)
    ((go_at_call 39; refine (unhide HC1).mono ?_; rintro e w2 ⟨rfl, a1, c1, g1, hB2, hK, hn, hF2⟩; have hx2 : Fr (fun k => k = p ∨ k = b) w1 w2 := Fr.trans (((Fr.refl (fun _ => False) w1).drew).mono (fun _ _ t => t.elim)) hF2 (fun _ _ t => t); have HK1 : Hid (KL w w2 a1 c1 g1 5 (tariffQ1 bs s).1.flatten) := hide ⟨hK, fun hc => by have h1 := hn hc; have h2 := (unhide HF1).size; have h3 : w1.drew.heap.size = w1.heap.size := rfl; omega⟩; have HD01 : Hid (0 < c0 → 0 < c1 → g0 ≠ g1) := hide (fun h1 h2 => by have h3 := (unhide HK0).row.lt (by omega) h1; have h4 := hn h2; have h5 : w1.drew.heap.size = w1.heap.size := rfl; omega); clear hK hn; have HK0 := hide ((unhide HK0).frame (by omega) hx2 hp hb); have k0 : w2.cell? ⟨N, 0, none⟩ = some (.pointer none) := ((unhide HX1).frame hx2 (by omega)).cell 0; have k1 : w2.cell? ⟨N, 1, none⟩ = some (.pointer (some ⟨p, 0, none⟩)) := ((unhide HX1).frame hx2 (by omega)).cell 1; have HX2 := hide ((unhide HX1).frame hx2 (by omega)); have HF2 : Hid (Fr (fun k => k = p ∨ k = b) w w2) := hide ((unhide HF1).trans hx2 (fun _ _ t => t)); have HB2 : Hid (RB w2 p g b bs (tariffS2 bs s) #[.slice a0 (tariffQ0 bs s).1.length c0, .slice a1 (tariffQ1 bs s).1.length c1, .slice none 0 0, x3, x4, x5, x6, x7, x8, x9, x10, x11, x12, x13] t) := hide (hB2); clear hB2 hF2 hx2))
  clear HC1 HX1 HF1 HB1 m0 m1
  have m0 : w2.cell? ⟨N, 0, none⟩ = some (.pointer none) := (unhide HX2).cell 0
  have m1 : w2.cell? ⟨N, 1, none⟩ = some (.pointer (some ⟨p, 0, none⟩)) := (unhide HX2).cell 1
  go_wp2_with fail
  have HC2 := hide (listBand_r (unhide HB2).drew 2 rfl 8 (by omega))
  go_region_held3 (fun w' => w'.cell? ⟨N, 0, none⟩ = some (.pointer none) ∧ w'.cell? ⟨N, 1, none⟩ = some (.pointer (some ⟨p, 0, none⟩))) (go_keep)
    ((go_at_call 41; refine (unhide HC2).mono ?_; rintro e w3 ⟨rfl, a2, c2, g2, hB3, hK, hn, hF3⟩; have hx3 : Fr (fun k => k = p ∨ k = b) w2 w3 := Fr.trans (((Fr.refl (fun _ => False) w2).drew).mono (fun _ _ t => t.elim)) hF3 (fun _ _ t => t); have HK2 : Hid (KL w w3 a2 c2 g2 2 (tariffQ2 bs s).1.flatten) := hide ⟨hK, fun hc => by have h1 := hn hc; have h2 := (unhide HF2).size; have h3 : w2.drew.heap.size = w2.heap.size := rfl; omega⟩; have HD02 : Hid (0 < c0 → 0 < c2 → g0 ≠ g2) := hide (fun h1 h2 => by have h3 := (unhide HK0).row.lt (by omega) h1; have h4 := hn h2; have h5 : w2.drew.heap.size = w2.heap.size := rfl; omega); have HD12 : Hid (0 < c1 → 0 < c2 → g1 ≠ g2) := hide (fun h1 h2 => by have h3 := (unhide HK1).row.lt (by omega) h1; have h4 := hn h2; have h5 : w2.drew.heap.size = w2.heap.size := rfl; omega); clear hK hn; have HK0 := hide ((unhide HK0).frame (by omega) hx3 hp hb); have HK1 := hide ((unhide HK1).frame (by omega) hx3 hp hb); have k0 : w3.cell? ⟨N, 0, none⟩ = some (.pointer none) := ((unhide HX2).frame hx3 (by omega)).cell 0; have k1 : w3.cell? ⟨N, 1, none⟩ = some (.pointer (some ⟨p, 0, none⟩)) := ((unhide HX2).frame hx3 (by omega)).cell 1; have HX3 := hide ((unhide HX2).frame hx3 (by omega)); have HF3 : Hid (Fr (fun k => k = p ∨ k = b) w w3) := hide ((unhide HF2).trans hx3 (fun _ _ t => t)); have HB3 : Hid (RB w3 p g b bs (tariffS3 bs s) #[.slice a0 (tariffQ0 bs s).1.length c0, .slice a1 (tariffQ1 bs s).1.length c1, .slice a2 (tariffQ2 bs s).1.length c2, x3, x4, x5, x6, x7, x8, x9, x10, x11, x12, x13] t) := hide (hB3); clear hB3 hF3 hx3))
  clear HC2 HX2 HF2 HB2 m0 m1
  have m0 : w3.cell? ⟨N, 0, none⟩ = some (.pointer none) := (unhide HX3).cell 0
  have m1 : w3.cell? ⟨N, 1, none⟩ = some (.pointer (some ⟨p, 0, none⟩)) := (unhide HX3).cell 1
  go_wp2_with fail
  have HC3 := hide (rate_r (unhide HB3).drew 3 (by simp))
  go_region_held3 (fun w' => w'.cell? ⟨N, 0, none⟩ = some (.pointer none) ∧ w'.cell? ⟨N, 1, none⟩ = some (.pointer (some ⟨p, 0, none⟩))) (go_keep)
    ((go_at_call 43; refine (unhide HC3).mono ?_; rintro e w4 ⟨rfl, hB4, hF4⟩; have hx4 : Fr (fun k => k = p ∨ k = b) w3 w4 := Fr.trans (((Fr.refl (fun _ => False) w3).drew).mono (fun _ _ t => t.elim)) hF4 (fun _ _ t => t); have HK0 := hide ((unhide HK0).frame (by omega) hx4 hp hb); have HK1 := hide ((unhide HK1).frame (by omega) hx4 hp hb); have HK2 := hide ((unhide HK2).frame (by omega) hx4 hp hb); have k0 : w4.cell? ⟨N, 0, none⟩ = some (.pointer none) := ((unhide HX3).frame hx4 (by omega)).cell 0; have k1 : w4.cell? ⟨N, 1, none⟩ = some (.pointer (some ⟨p, 0, none⟩)) := ((unhide HX3).frame hx4 (by omega)).cell 1; have HX4 := hide ((unhide HX3).frame hx4 (by omega)); have HF4 : Hid (Fr (fun k => k = p ∨ k = b) w w4) := hide ((unhide HF3).trans hx4 (fun _ _ t => t)); have HB4 : Hid (RB w4 p g b bs (tariffS4 bs s) #[.slice a0 (tariffQ0 bs s).1.length c0, .slice a1 (tariffQ1 bs s).1.length c1, .slice a2 (tariffQ2 bs s).1.length c2, (tariffQ3 bs s).1, x4, x5, x6, x7, x8, x9, x10, x11, x12, x13] t) := hide (hB4); clear hB4 hF4 hx4))
  clear HC3 HX3 HF3 HB3 m0 m1
  have m0 : w4.cell? ⟨N, 0, none⟩ = some (.pointer none) := (unhide HX4).cell 0
  have m1 : w4.cell? ⟨N, 1, none⟩ = some (.pointer (some ⟨p, 0, none⟩)) := (unhide HX4).cell 1
  go_wp2_with fail
  have HC4 := hide (numbers_r ((unhide HB4).drew.alloc (.cells #[.pointer (some ⟨b, 4, none⟩), .pointer (some ⟨b, 5, none⟩), .pointer (some ⟨b, 6, none⟩)] 98)) w4.heap.size 4 3 4 (ptrs3 w4.drew b 4 _) (by have := (unhide HB4).plt; omega) (by have := (unhide HB4).x.lt; omega) (by simp) (by omega))
  go_region_held3 (fun w' => w'.cell? ⟨N, 0, none⟩ = some (.pointer none) ∧ w'.cell? ⟨N, 1, none⟩ = some (.pointer (some ⟨p, 0, none⟩))) (go_keep)
    ((go_at_call 44; refine (unhide HC4).mono ?_; rintro e w5 ⟨rfl, hB5, hF5⟩; have hx5 : Fr (fun k => k = p ∨ k = b) w4 w5 := Fr.trans ((((Fr.refl (fun _ => False) w4).drew).alloc _).mono (fun _ _ t => t.elim)) hF5 (fun _ _ t => t); have HK0 := hide ((unhide HK0).frame (by omega) hx5 hp hb); have HK1 := hide ((unhide HK1).frame (by omega) hx5 hp hb); have HK2 := hide ((unhide HK2).frame (by omega) hx5 hp hb); have k0 : w5.cell? ⟨N, 0, none⟩ = some (.pointer none) := ((unhide HX4).frame hx5 (by omega)).cell 0; have k1 : w5.cell? ⟨N, 1, none⟩ = some (.pointer (some ⟨p, 0, none⟩)) := ((unhide HX4).frame hx5 (by omega)).cell 1; have HX5 := hide ((unhide HX4).frame hx5 (by omega)); have HF5 : Hid (Fr (fun k => k = p ∨ k = b) w w5) := hide ((unhide HF4).trans hx5 (fun _ _ t => t)); have HB5 : Hid (RB w5 p g b bs (tariffS5 bs s) #[.slice a0 (tariffQ0 bs s).1.length c0, .slice a1 (tariffQ1 bs s).1.length c1, .slice a2 (tariffQ2 bs s).1.length c2, (tariffQ3 bs s).1, (tariffQ4 bs s).1.getD 0 undef, (tariffQ4 bs s).1.getD 1 undef, (tariffQ4 bs s).1.getD 2 undef, x7, x8, x9, x10, x11, x12, x13] t) := hide (hB5); clear hB5 hF5 hx5))
  clear HC4 HX4 HF4 HB4 m0 m1
  have m0 : w5.cell? ⟨N, 0, none⟩ = some (.pointer none) := (unhide HX5).cell 0
  have m1 : w5.cell? ⟨N, 1, none⟩ = some (.pointer (some ⟨p, 0, none⟩)) := (unhide HX5).cell 1
  go_wp2_with fail
  have HC5 := hide (numbers_r ((unhide HB5).drew.alloc (.cells #[.pointer (some ⟨b, 7, none⟩)] 98)) w5.heap.size 7 1 2 (ptrs1 w5.drew b 7 _) (by have := (unhide HB5).plt; omega) (by have := (unhide HB5).x.lt; omega) (by simp) (by omega))
  go_region_held3 (fun w' => w'.cell? ⟨N, 0, none⟩ = some (.pointer none) ∧ w'.cell? ⟨N, 1, none⟩ = some (.pointer (some ⟨p, 0, none⟩))) (go_keep)
    ((go_at_call 44; refine (unhide HC5).mono ?_; rintro e w6 ⟨rfl, hB6, hF6⟩; have hx6 : Fr (fun k => k = p ∨ k = b) w5 w6 := Fr.trans ((((Fr.refl (fun _ => False) w5).drew).alloc _).mono (fun _ _ t => t.elim)) hF6 (fun _ _ t => t); have HK0 := hide ((unhide HK0).frame (by omega) hx6 hp hb); have HK1 := hide ((unhide HK1).frame (by omega) hx6 hp hb); have HK2 := hide ((unhide HK2).frame (by omega) hx6 hp hb); have k0 : w6.cell? ⟨N, 0, none⟩ = some (.pointer none) := ((unhide HX5).frame hx6 (by omega)).cell 0; have k1 : w6.cell? ⟨N, 1, none⟩ = some (.pointer (some ⟨p, 0, none⟩)) := ((unhide HX5).frame hx6 (by omega)).cell 1; have HX6 := hide ((unhide HX5).frame hx6 (by omega)); have HF6 : Hid (Fr (fun k => k = p ∨ k = b) w w6) := hide ((unhide HF5).trans hx6 (fun _ _ t => t)); have HB6 : Hid (RB w6 p g b bs (tariffS6 bs s) #[.slice a0 (tariffQ0 bs s).1.length c0, .slice a1 (tariffQ1 bs s).1.length c1, .slice a2 (tariffQ2 bs s).1.length c2, (tariffQ3 bs s).1, (tariffQ4 bs s).1.getD 0 undef, (tariffQ4 bs s).1.getD 1 undef, (tariffQ4 bs s).1.getD 2 undef, (tariffQ5 bs s).1.getD 0 undef, x8, x9, x10, x11, x12, x13] t) := hide (hB6); clear hB6 hF6 hx6))
  clear HC5 HX5 HF5 HB5 m0 m1
  have m0 : w6.cell? ⟨N, 0, none⟩ = some (.pointer none) := (unhide HX6).cell 0
  have m1 : w6.cell? ⟨N, 1, none⟩ = some (.pointer (some ⟨p, 0, none⟩)) := (unhide HX6).cell 1
  go_wp2_with fail
  have HC6 := hide (numbers_r ((unhide HB6).drew.alloc (.cells #[.pointer (some ⟨b, 8, none⟩)] 98)) w6.heap.size 8 1 4 (ptrs1 w6.drew b 8 _) (by have := (unhide HB6).plt; omega) (by have := (unhide HB6).x.lt; omega) (by simp) (by omega))
  go_region_held3 (fun w' => w'.cell? ⟨N, 0, none⟩ = some (.pointer none) ∧ w'.cell? ⟨N, 1, none⟩ = some (.pointer (some ⟨p, 0, none⟩))) (go_keep)
    ((go_at_call 44; refine (unhide HC6).mono ?_; rintro e w7 ⟨rfl, hB7, hF7⟩; have hx7 : Fr (fun k => k = p ∨ k = b) w6 w7 := Fr.trans ((((Fr.refl (fun _ => False) w6).drew).alloc _).mono (fun _ _ t => t.elim)) hF7 (fun _ _ t => t); have HK0 := hide ((unhide HK0).frame (by omega) hx7 hp hb); have HK1 := hide ((unhide HK1).frame (by omega) hx7 hp hb); have HK2 := hide ((unhide HK2).frame (by omega) hx7 hp hb); have k0 : w7.cell? ⟨N, 0, none⟩ = some (.pointer none) := ((unhide HX6).frame hx7 (by omega)).cell 0; have k1 : w7.cell? ⟨N, 1, none⟩ = some (.pointer (some ⟨p, 0, none⟩)) := ((unhide HX6).frame hx7 (by omega)).cell 1; have HX7 := hide ((unhide HX6).frame hx7 (by omega)); have HF7 : Hid (Fr (fun k => k = p ∨ k = b) w w7) := hide ((unhide HF6).trans hx7 (fun _ _ t => t)); have HB7 : Hid (RB w7 p g b bs (tariffS7 bs s) #[.slice a0 (tariffQ0 bs s).1.length c0, .slice a1 (tariffQ1 bs s).1.length c1, .slice a2 (tariffQ2 bs s).1.length c2, (tariffQ3 bs s).1, (tariffQ4 bs s).1.getD 0 undef, (tariffQ4 bs s).1.getD 1 undef, (tariffQ4 bs s).1.getD 2 undef, (tariffQ5 bs s).1.getD 0 undef, (tariffQ6 bs s).1.getD 0 undef, x9, x10, x11, x12, x13] t) := hide (hB7); clear hB7 hF7 hx7))
  clear HC6 HX6 HF6 HB6 m0 m1
  have m0 : w7.cell? ⟨N, 0, none⟩ = some (.pointer none) := (unhide HX7).cell 0
  have m1 : w7.cell? ⟨N, 1, none⟩ = some (.pointer (some ⟨p, 0, none⟩)) := (unhide HX7).cell 1
  go_wp2_with fail
  have HC7 := hide (numbers_r ((unhide HB7).drew.alloc (.cells #[.pointer (some ⟨b, 9, none⟩), .pointer (some ⟨b, 10, none⟩), .pointer (some ⟨b, 11, none⟩), .pointer (some ⟨b, 12, none⟩)] 98)) w7.heap.size 9 4 2 (ptrs4 w7.drew b 9 _) (by have := (unhide HB7).plt; omega) (by have := (unhide HB7).x.lt; omega) (by simp) (by omega))
  go_region_held3 (fun w' => w'.cell? ⟨N, 0, none⟩ = some (.pointer none) ∧ w'.cell? ⟨N, 1, none⟩ = some (.pointer (some ⟨p, 0, none⟩))) (go_keep)
    ((go_at_call 44; refine (unhide HC7).mono ?_; rintro e w8 ⟨rfl, hB8, hF8⟩; have hx8 : Fr (fun k => k = p ∨ k = b) w7 w8 := Fr.trans ((((Fr.refl (fun _ => False) w7).drew).alloc _).mono (fun _ _ t => t.elim)) hF8 (fun _ _ t => t); have HK0 := hide ((unhide HK0).frame (by omega) hx8 hp hb); have HK1 := hide ((unhide HK1).frame (by omega) hx8 hp hb); have HK2 := hide ((unhide HK2).frame (by omega) hx8 hp hb); have k0 : w8.cell? ⟨N, 0, none⟩ = some (.pointer none) := ((unhide HX7).frame hx8 (by omega)).cell 0; have k1 : w8.cell? ⟨N, 1, none⟩ = some (.pointer (some ⟨p, 0, none⟩)) := ((unhide HX7).frame hx8 (by omega)).cell 1; have HX8 := hide ((unhide HX7).frame hx8 (by omega)); have HF8 : Hid (Fr (fun k => k = p ∨ k = b) w w8) := hide ((unhide HF7).trans hx8 (fun _ _ t => t)); have HB8 : Hid (RB w8 p g b bs (tariffS8 bs s) #[.slice a0 (tariffQ0 bs s).1.length c0, .slice a1 (tariffQ1 bs s).1.length c1, .slice a2 (tariffQ2 bs s).1.length c2, (tariffQ3 bs s).1, (tariffQ4 bs s).1.getD 0 undef, (tariffQ4 bs s).1.getD 1 undef, (tariffQ4 bs s).1.getD 2 undef, (tariffQ5 bs s).1.getD 0 undef, (tariffQ6 bs s).1.getD 0 undef, (tariffQ7 bs s).1.getD 0 undef, (tariffQ7 bs s).1.getD 1 undef, (tariffQ7 bs s).1.getD 2 undef, (tariffQ7 bs s).1.getD 3 undef, x13] t) := hide (hB8); clear hB8 hF8 hx8))
  clear HC7 HX7 HF7 HB7 m0 m1
  have m0 : w8.cell? ⟨N, 0, none⟩ = some (.pointer none) := (unhide HX8).cell 0
  have m1 : w8.cell? ⟨N, 1, none⟩ = some (.pointer (some ⟨p, 0, none⟩)) := (unhide HX8).cell 1
  go_wp2_with fail
  have HC8 := hide (numbers_r ((unhide HB8).drew.alloc (.cells #[.pointer (some ⟨b, 13, none⟩)] 98)) w8.heap.size 13 1 4 (ptrs1 w8.drew b 13 _) (by have := (unhide HB8).plt; omega) (by have := (unhide HB8).x.lt; omega) (by simp) (by omega))
  go_region_held3 (fun w' => w'.cell? ⟨N, 0, none⟩ = some (.pointer none) ∧ w'.cell? ⟨N, 1, none⟩ = some (.pointer (some ⟨p, 0, none⟩))) (go_keep)
    ((go_at_call 44; refine (unhide HC8).mono ?_; rintro e w9 ⟨rfl, hB9, hF9⟩; have hx9 : Fr (fun k => k = p ∨ k = b) w8 w9 := Fr.trans ((((Fr.refl (fun _ => False) w8).drew).alloc _).mono (fun _ _ t => t.elim)) hF9 (fun _ _ t => t); have HK0 := hide ((unhide HK0).frame (by omega) hx9 hp hb); have HK1 := hide ((unhide HK1).frame (by omega) hx9 hp hb); have HK2 := hide ((unhide HK2).frame (by omega) hx9 hp hb); have k0 : w9.cell? ⟨N, 0, none⟩ = some (.pointer none) := ((unhide HX8).frame hx9 (by omega)).cell 0; have k1 : w9.cell? ⟨N, 1, none⟩ = some (.pointer (some ⟨p, 0, none⟩)) := ((unhide HX8).frame hx9 (by omega)).cell 1; have HX9 := hide ((unhide HX8).frame hx9 (by omega)); have HF9 : Hid (Fr (fun k => k = p ∨ k = b) w w9) := hide ((unhide HF8).trans hx9 (fun _ _ t => t)); have HB9 : Hid (RB w9 p g b bs (tariffS9 bs s) #[.slice a0 (tariffQ0 bs s).1.length c0, .slice a1 (tariffQ1 bs s).1.length c1, .slice a2 (tariffQ2 bs s).1.length c2, (tariffQ3 bs s).1, (tariffQ4 bs s).1.getD 0 undef, (tariffQ4 bs s).1.getD 1 undef, (tariffQ4 bs s).1.getD 2 undef, (tariffQ5 bs s).1.getD 0 undef, (tariffQ6 bs s).1.getD 0 undef, (tariffQ7 bs s).1.getD 0 undef, (tariffQ7 bs s).1.getD 1 undef, (tariffQ7 bs s).1.getD 2 undef, (tariffQ7 bs s).1.getD 3 undef, (tariffQ8 bs s).1.getD 0 undef] t) := hide (hB9); clear hB9 hF9 hx9))
  clear HC8 HX8 HF8 HB8 m0 m1
  have m0 : w9.cell? ⟨N, 0, none⟩ = some (.pointer none) := (unhide HX9).cell 0
  have m1 : w9.cell? ⟨N, 1, none⟩ = some (.pointer (some ⟨p, 0, none⟩)) := (unhide HX9).cell 1
  go_wp2
  go_end0
  exact ⟨rfl, a0, c0, g0, a1, c1, g1, a2, c2, g2, unhide HB9, ⟨unhide HK0, unhide HK1, unhide HK2⟩, ⟨unhide HD01, unhide HD02, unhide HD12⟩, unhide HF9⟩

set_option maxHeartbeats 2000000 in
theorem tariff_w {w : World} {p g b : Nat} {st : Option (List UInt8)} {t : TypeId} (a0 : Option Addr) (c0 : Nat) (l0 : List Stn) (a1 : Option Addr) (c1 : Nat) (l1 : List Spn) (a2 : Option Addr) (c2 : Nat) (l2 : List (Int × Int)) (x3 : Nat) (x4 : Int) (x5 : Int) (x6 : Int) (x7 : Int) (x8 : Int) (x9 : Int) (x10 : Int) (x11 : Int) (x12 : Int) (x13 : Int) (h : WB w p g b st #[.slice a0 l0.length c0, .slice a1 l1.length c1, .slice a2 l2.length c2, .float .f64 x3, .int .i64 x4, .int .i64 x5, .int .i64 x6, .int .i64 x7, .int .i64 x8, .int .i64 x9, .int .i64 x10, .int .i64 x11, .int .i64 x12, .int .i64 x13] t) (hc0 : CAt w a0 (stV l0)) (hs0 : ∀ q off, a0 = some ⟨q, off, none⟩ → 0 < l0.length → q ≠ p ∧ q ≠ g ∧ q < w.heap.size) (hm0 : ∀ x ∈ l0, x.id ≤ 9223372036854775807 ∧ x.zone ≤ 9223372036854775807 ∧ x.group ≤ 9223372036854775807) (hl0 : l0.length ≤ 200) (hc1 : CAt w a1 (spV l1)) (hs1 : ∀ q off, a1 = some ⟨q, off, none⟩ → 0 < l1.length → q ≠ p ∧ q ≠ g ∧ q < w.heap.size) (hm1 : ∀ x ∈ l1, x.fr ≤ 9223372036854775807 ∧ x.to ≤ 9223372036854775807 ∧ x.single ≤ 9223372036854775807 ∧ x.daily ≤ 9223372036854775807 ∧ x.weekly ≤ 9223372036854775807) (hl1 : l1.length ≤ 45) (hc2 : CAt w a2 (bdV l2)) (hs2 : ∀ q off, a2 = some ⟨q, off, none⟩ → 0 < l2.length → q ≠ p ∧ q ≠ g ∧ q < w.heap.size) (hm2 : ∀ x ∈ l2, x.1 ≤ 9223372036854775807 ∧ x.2 ≤ 9223372036854775807) (hl2 : l2.length ≤ 8) (h4 : x4 ≤ 9223372036854775807) (h5 : x5 ≤ 9223372036854775807) (h6 : x6 ≤ 9223372036854775807) (h7 : x7 ≤ 9223372036854775807) (h8 : x8 ≤ 9223372036854775807) (h9 : x9 ≤ 9223372036854775807) (h10 : x10 ≤ 9223372036854775807) (h11 : x11 ≤ 9223372036854775807) (h12 : x12 ≤ 9223372036854775807) (h13 : x13 ≤ 9223372036854775807) (Lm : Nat) (hL : Most st Lm) (hfit : Lm ≤ 1000) :
    Calls Tryz.prog 18 #[walkW p, .pointer (some ⟨b, 0, none⟩)] w (WDone p g (stepW (stepW (stepW (stepW (stepW (stepW (stepW (stepW (stepW (st) (wrM stationK (l0.map stC))) (wrM spanK (l1.map spC))) (wrM bandK (l2.map bdC))) ((Kd.float).w (.float .f64 x3))) (wrL (List.replicate 3 (.num 4)) ([x4, x5, x6].map (Value.int .i64)))) (wrL (List.replicate 1 (.num 2)) ([x7].map (Value.int .i64)))) (wrL (List.replicate 1 (.num 4)) ([x8].map (Value.int .i64)))) (wrL (List.replicate 4 (.num 2)) ([x9, x10, x11, x12].map (Value.int .i64)))) (wrL (List.replicate 1 (.num 4)) ([x13].map (Value.int .i64)))) w) := by
  have H := hide h
  have hp := h.plt
  have hb := h.x.lt
  have hbp := h.np
  have hgl := h.gl
  have Jhc0 := hide hc0
  have Jhs0 := hide hs0
  have Jhm0 := hide hm0
  have Jhc1 := hide hc1
  have Jhs1 := hide hs1
  have Jhm1 := hide hm1
  have Jhc2 := hide hc2
  have Jhs2 := hide hs2
  have Jhm2 := hide hm2
  have Jh4 := hide h4
  have Jh5 := hide h5
  have Jh6 := hide h6
  have Jh7 := hide h7
  have Jh8 := hide h8
  have Jh9 := hide h9
  have Jh10 := hide h10
  have Jh11 := hide h11
  have Jh12 := hide h12
  have Jh13 := hide h13
  have HM0 := hide hL
  have HT := hide hfit
  clear h hL hfit hc0 hs0 hm0 hc1 hs1 hm1 hc2 hs2 hm2 h4 h5 h6 h7 h8 h9 h10 h11 h12 h13
  go_enter Tryz.func18, Tryz.ntmps18
  go_wp2_with fail
  have HX0 : Hid (Bx (w.alloc (.cells #[.pointer (some ⟨p, 0, none⟩), .pointer none] 59)) w.heap.size #[.pointer (some ⟨p, 0, none⟩), .pointer none] 59) := hide (Bx.new _ _ _)
  have HB0 := hide ((unhide H).alloc (.cells #[.pointer (some ⟨p, 0, none⟩), .pointer none] 59))
  have HF0 : Hid (Fr (fun k => k = p ∨ k = g) w (w.alloc (.cells #[.pointer (some ⟨p, 0, none⟩), .pointer none] 59)) ∧ (g = g ∨ w.heap.size ≤ g)) := hide ⟨(Fr.refl _ _).alloc _, Or.inl rfl⟩
  obtain ⟨N, HN⟩ : ∃ N, Hid (w.heap.size = N) := ⟨_, rfl⟩
  have hNp : N ≠ p := by have := unhide HN; omega
  have hN0 : N ≠ g := by have := unhide HN; omega
  rw [unhide HN] at HX0 ⊢
  generalize w.alloc (.cells #[.pointer (some ⟨p, 0, none⟩), .pointer none] 59) = w0 at *
  have m0 : w0.cell? ⟨N, 0, none⟩ = some (.pointer (some ⟨p, 0, none⟩)) := (unhide HX0).cell 0
  have m1 : w0.cell? ⟨N, 1, none⟩ = some (.pointer none) := (unhide HX0).cell 1
  have HC0 := hide (listStation_w (unhide HB0).drew 0 a0 c0 l0 rfl ((unhide Jhc0).frame ((unhide HF0).1.drew) (fun q off e h0 => by have h1 := unhide Jhs0 q off e (by rw [stV_length] at h0; omega); omega)) (fun q off e h0 => by have h1 := unhide Jhs0 q off e h0; have h2 := (unhide HF0).2; exact ⟨h1.1, by omega⟩) (unhide Jhm0) (by omega) _ (unhide HM0) (by have := unhide HT; first | omega | (simp only [wide, List.foldr, Kd.n]; omega) | (simp only [wide, List.foldr, Kd.n, List.length_map]; omega) | (simp only [wide, List.foldr, Kd.n, List.replicate, List.length_map]; omega)) 200)
  go_region_held3 (fun w' => w'.cell? ⟨N, 0, none⟩ = some (.pointer (some ⟨p, 0, none⟩)) ∧ w'.cell? ⟨N, 1, none⟩ = some (.pointer none)) (go_keep)
    ((go_at_call 37; refine (unhide HC0).mono ?_; rintro e w1 ⟨rfl, hP⟩; obtain ⟨g1_, hB, hg, hF⟩ := (unhide HB0).next (WP.later ((Fr.refl (fun _ => False) w0).drew) hP); have hN1 : N ≠ g1_ := (by have := (unhide HX0).lt; omega); have k0 : w1.cell? ⟨N, 0, none⟩ = some (.pointer (some ⟨p, 0, none⟩)) := ((unhide HX0).frame hF (by omega)).cell 0; have k1 : w1.cell? ⟨N, 1, none⟩ = some (.pointer none) := ((unhide HX0).frame hF (by omega)).cell 1; have HX1 := hide ((unhide HX0).frame hF (by omega)); have HF1 : Hid (Fr (fun k => k = p ∨ k = g) w w1 ∧ (g1_ = g ∨ w.heap.size ≤ g1_)) := hide (by obtain ⟨q1, q2⟩ := unhide HF0; have := q1.size; exact ⟨q1.trans hF (fun _ _ t => by omega), by omega⟩); have HB1 := hide hB; have HM1 := hide ((unhide HM0).step (Most.list stationK (l0.map stC))); clear hB hF hg hP))
  clear HC0 HX0 HF0 HB0 m0 m1
  have m0 : w1.cell? ⟨N, 0, none⟩ = some (.pointer (some ⟨p, 0, none⟩)) := (unhide HX1).cell 0
  have m1 : w1.cell? ⟨N, 1, none⟩ = some (.pointer none) := (unhide HX1).cell 1
  go_wp2_with fail
  have HC1 := hide (listSpan_w (unhide HB1).drew 1 a1 c1 l1 rfl ((unhide Jhc1).frame ((unhide HF1).1.drew) (fun q off e h0 => by have h1 := unhide Jhs1 q off e (by rw [spV_length] at h0; omega); omega)) (fun q off e h0 => by have h1 := unhide Jhs1 q off e h0; have h2 := (unhide HF1).2; exact ⟨h1.1, by omega⟩) (unhide Jhm1) (by omega) _ (unhide HM1) (by have := unhide HT; first | omega | (simp only [wide, List.foldr, Kd.n]; omega) | (simp only [wide, List.foldr, Kd.n, List.length_map]; omega) | (simp only [wide, List.foldr, Kd.n, List.replicate, List.length_map]; omega)) 45)
  go_region_held3 (fun w' => w'.cell? ⟨N, 0, none⟩ = some (.pointer (some ⟨p, 0, none⟩)) ∧ w'.cell? ⟨N, 1, none⟩ = some (.pointer none)) (go_keep)
    ((go_at_call 39; refine (unhide HC1).mono ?_; rintro e w2 ⟨rfl, hP⟩; obtain ⟨g2_, hB, hg, hF⟩ := (unhide HB1).next (WP.later ((Fr.refl (fun _ => False) w1).drew) hP); have hN2 : N ≠ g2_ := (by have := (unhide HX1).lt; omega); have k0 : w2.cell? ⟨N, 0, none⟩ = some (.pointer (some ⟨p, 0, none⟩)) := ((unhide HX1).frame hF (by omega)).cell 0; have k1 : w2.cell? ⟨N, 1, none⟩ = some (.pointer none) := ((unhide HX1).frame hF (by omega)).cell 1; have HX2 := hide ((unhide HX1).frame hF (by omega)); have HF2 : Hid (Fr (fun k => k = p ∨ k = g) w w2 ∧ (g2_ = g ∨ w.heap.size ≤ g2_)) := hide (by obtain ⟨q1, q2⟩ := unhide HF1; have := q1.size; exact ⟨q1.trans hF (fun _ _ t => by omega), by omega⟩); have HB2 := hide hB; have HM2 := hide ((unhide HM1).step (Most.list spanK (l1.map spC))); clear hB hF hg hP))
  clear HC1 HX1 HF1 HB1 m0 m1
  have m0 : w2.cell? ⟨N, 0, none⟩ = some (.pointer (some ⟨p, 0, none⟩)) := (unhide HX2).cell 0
  have m1 : w2.cell? ⟨N, 1, none⟩ = some (.pointer none) := (unhide HX2).cell 1
  go_wp2_with fail
  have HC2 := hide (listBand_w (unhide HB2).drew 2 a2 c2 l2 rfl ((unhide Jhc2).frame ((unhide HF2).1.drew) (fun q off e h0 => by have h1 := unhide Jhs2 q off e (by rw [bdV_length] at h0; omega); omega)) (fun q off e h0 => by have h1 := unhide Jhs2 q off e h0; have h2 := (unhide HF2).2; exact ⟨h1.1, by omega⟩) (unhide Jhm2) (by omega) _ (unhide HM2) (by have := unhide HT; first | omega | (simp only [wide, List.foldr, Kd.n]; omega) | (simp only [wide, List.foldr, Kd.n, List.length_map]; omega) | (simp only [wide, List.foldr, Kd.n, List.replicate, List.length_map]; omega)) 8)
  go_region_held3 (fun w' => w'.cell? ⟨N, 0, none⟩ = some (.pointer (some ⟨p, 0, none⟩)) ∧ w'.cell? ⟨N, 1, none⟩ = some (.pointer none)) (go_keep)
    ((go_at_call 41; refine (unhide HC2).mono ?_; rintro e w3 ⟨rfl, hP⟩; obtain ⟨g3_, hB, hg, hF⟩ := (unhide HB2).next (WP.later ((Fr.refl (fun _ => False) w2).drew) hP); have hN3 : N ≠ g3_ := (by have := (unhide HX2).lt; omega); have k0 : w3.cell? ⟨N, 0, none⟩ = some (.pointer (some ⟨p, 0, none⟩)) := ((unhide HX2).frame hF (by omega)).cell 0; have k1 : w3.cell? ⟨N, 1, none⟩ = some (.pointer none) := ((unhide HX2).frame hF (by omega)).cell 1; have HX3 := hide ((unhide HX2).frame hF (by omega)); have HF3 : Hid (Fr (fun k => k = p ∨ k = g) w w3 ∧ (g3_ = g ∨ w.heap.size ≤ g3_)) := hide (by obtain ⟨q1, q2⟩ := unhide HF2; have := q1.size; exact ⟨q1.trans hF (fun _ _ t => by omega), by omega⟩); have HB3 := hide hB; have HM3 := hide ((unhide HM2).step (Most.list bandK (l2.map bdC))); clear hB hF hg hP))
  clear HC2 HX2 HF2 HB2 m0 m1
  have m0 : w3.cell? ⟨N, 0, none⟩ = some (.pointer (some ⟨p, 0, none⟩)) := (unhide HX3).cell 0
  have m1 : w3.cell? ⟨N, 1, none⟩ = some (.pointer none) := (unhide HX3).cell 1
  go_wp2_with fail
  have HC3 := hide (rate_w (unhide HB3).drew 3 x3 rfl _ (unhide HM3) (by have := unhide HT; first | omega | (simp only [wide, List.foldr, Kd.n]; omega) | (simp only [wide, List.foldr, Kd.n, List.length_map]; omega) | (simp only [wide, List.foldr, Kd.n, List.replicate, List.length_map]; omega)))
  go_region_held3 (fun w' => w'.cell? ⟨N, 0, none⟩ = some (.pointer (some ⟨p, 0, none⟩)) ∧ w'.cell? ⟨N, 1, none⟩ = some (.pointer none)) (go_keep)
    ((go_at_call 43; refine (unhide HC3).mono ?_; rintro e w4 ⟨rfl, hP⟩; obtain ⟨g4_, hB, hg, hF⟩ := (unhide HB3).next (WP.later ((Fr.refl (fun _ => False) w3).drew) hP); have hN4 : N ≠ g4_ := (by have := (unhide HX3).lt; omega); have k0 : w4.cell? ⟨N, 0, none⟩ = some (.pointer (some ⟨p, 0, none⟩)) := ((unhide HX3).frame hF (by omega)).cell 0; have k1 : w4.cell? ⟨N, 1, none⟩ = some (.pointer none) := ((unhide HX3).frame hF (by omega)).cell 1; have HX4 := hide ((unhide HX3).frame hF (by omega)); have HF4 : Hid (Fr (fun k => k = p ∨ k = g) w w4 ∧ (g4_ = g ∨ w.heap.size ≤ g4_)) := hide (by obtain ⟨q1, q2⟩ := unhide HF3; have := q1.size; exact ⟨q1.trans hF (fun _ _ t => by omega), by omega⟩); have HB4 := hide hB; have HM4 := hide ((unhide HM3).step (Most.kd (Kd.float) (.float .f64 x3))); clear hB hF hg hP))
  clear HC3 HX3 HF3 HB3 m0 m1
  have m0 : w4.cell? ⟨N, 0, none⟩ = some (.pointer (some ⟨p, 0, none⟩)) := (unhide HX4).cell 0
  have m1 : w4.cell? ⟨N, 1, none⟩ = some (.pointer none) := (unhide HX4).cell 1
  go_wp2_with fail
  have HC4 := hide (numbers_w ((unhide HB4).drew.alloc (.cells #[.pointer (some ⟨b, 4, none⟩), .pointer (some ⟨b, 5, none⟩), .pointer (some ⟨b, 6, none⟩)] 98)) w4.heap.size 4 3 4 (ptrs3 w4.drew b 4 _) (by have := (unhide HB4).plt; omega) (by have := (unhide HB4).gl; omega) [x4, x5, x6] rfl (fun j hj => by match j, hj with | 0, _ => rfl | 1, _ => rfl | 2, _ => rfl) (fun x hx => by simp only [List.mem_cons, List.not_mem_nil, or_false] at hx; rcases hx with rfl | rfl | rfl; exact unhide Jh4; exact unhide Jh5; exact unhide Jh6) _ (unhide HM4) (by have := unhide HT; first | omega | (simp only [wide, List.foldr, Kd.n, List.length_map]; omega) | (simp only [wide, List.foldr, Kd.n, List.replicate, List.length_map]; omega)) (by omega) (by omega))
  go_region_held3 (fun w' => w'.cell? ⟨N, 0, none⟩ = some (.pointer (some ⟨p, 0, none⟩)) ∧ w'.cell? ⟨N, 1, none⟩ = some (.pointer none)) (go_keep)
    ((go_at_call 44; refine (unhide HC4).mono ?_; rintro e w5 ⟨rfl, hP⟩; obtain ⟨g5_, hB, hg, hF⟩ := (unhide HB4).next (WP.later (((Fr.refl (fun _ => False) w4).drew).alloc _) hP); have hN5 : N ≠ g5_ := (by have := (unhide HX4).lt; omega); have k0 : w5.cell? ⟨N, 0, none⟩ = some (.pointer (some ⟨p, 0, none⟩)) := ((unhide HX4).frame hF (by omega)).cell 0; have k1 : w5.cell? ⟨N, 1, none⟩ = some (.pointer none) := ((unhide HX4).frame hF (by omega)).cell 1; have HX5 := hide ((unhide HX4).frame hF (by omega)); have HF5 : Hid (Fr (fun k => k = p ∨ k = g) w w5 ∧ (g5_ = g ∨ w.heap.size ≤ g5_)) := hide (by obtain ⟨q1, q2⟩ := unhide HF4; have := q1.size; exact ⟨q1.trans hF (fun _ _ t => by omega), by omega⟩); have HB5 := hide hB; have HM5 := hide ((unhide HM4).step (Most.wr (List.replicate 3 (.num 4)) ([x4, x5, x6].map (Value.int .i64)))); clear hB hF hg hP))
  clear HC4 HX4 HF4 HB4 m0 m1
  have m0 : w5.cell? ⟨N, 0, none⟩ = some (.pointer (some ⟨p, 0, none⟩)) := (unhide HX5).cell 0
  have m1 : w5.cell? ⟨N, 1, none⟩ = some (.pointer none) := (unhide HX5).cell 1
  go_wp2_with fail
  have HC5 := hide (numbers_w ((unhide HB5).drew.alloc (.cells #[.pointer (some ⟨b, 7, none⟩)] 98)) w5.heap.size 7 1 2 (ptrs1 w5.drew b 7 _) (by have := (unhide HB5).plt; omega) (by have := (unhide HB5).gl; omega) [x7] rfl (fun j hj => by match j, hj with | 0, _ => rfl) (fun x hx => by simp only [List.mem_cons, List.not_mem_nil, or_false] at hx; subst hx; exact unhide Jh7) _ (unhide HM5) (by have := unhide HT; first | omega | (simp only [wide, List.foldr, Kd.n, List.length_map]; omega) | (simp only [wide, List.foldr, Kd.n, List.replicate, List.length_map]; omega)) (by omega) (by omega))
  go_region_held3 (fun w' => w'.cell? ⟨N, 0, none⟩ = some (.pointer (some ⟨p, 0, none⟩)) ∧ w'.cell? ⟨N, 1, none⟩ = some (.pointer none)) (go_keep)
    ((go_at_call 44; refine (unhide HC5).mono ?_; rintro e w6 ⟨rfl, hP⟩; obtain ⟨g6_, hB, hg, hF⟩ := (unhide HB5).next (WP.later (((Fr.refl (fun _ => False) w5).drew).alloc _) hP); have hN6 : N ≠ g6_ := (by have := (unhide HX5).lt; omega); have k0 : w6.cell? ⟨N, 0, none⟩ = some (.pointer (some ⟨p, 0, none⟩)) := ((unhide HX5).frame hF (by omega)).cell 0; have k1 : w6.cell? ⟨N, 1, none⟩ = some (.pointer none) := ((unhide HX5).frame hF (by omega)).cell 1; have HX6 := hide ((unhide HX5).frame hF (by omega)); have HF6 : Hid (Fr (fun k => k = p ∨ k = g) w w6 ∧ (g6_ = g ∨ w.heap.size ≤ g6_)) := hide (by obtain ⟨q1, q2⟩ := unhide HF5; have := q1.size; exact ⟨q1.trans hF (fun _ _ t => by omega), by omega⟩); have HB6 := hide hB; have HM6 := hide ((unhide HM5).step (Most.wr (List.replicate 1 (.num 2)) ([x7].map (Value.int .i64)))); clear hB hF hg hP))
  clear HC5 HX5 HF5 HB5 m0 m1
  have m0 : w6.cell? ⟨N, 0, none⟩ = some (.pointer (some ⟨p, 0, none⟩)) := (unhide HX6).cell 0
  have m1 : w6.cell? ⟨N, 1, none⟩ = some (.pointer none) := (unhide HX6).cell 1
  go_wp2_with fail
  have HC6 := hide (numbers_w ((unhide HB6).drew.alloc (.cells #[.pointer (some ⟨b, 8, none⟩)] 98)) w6.heap.size 8 1 4 (ptrs1 w6.drew b 8 _) (by have := (unhide HB6).plt; omega) (by have := (unhide HB6).gl; omega) [x8] rfl (fun j hj => by match j, hj with | 0, _ => rfl) (fun x hx => by simp only [List.mem_cons, List.not_mem_nil, or_false] at hx; subst hx; exact unhide Jh8) _ (unhide HM6) (by have := unhide HT; first | omega | (simp only [wide, List.foldr, Kd.n, List.length_map]; omega) | (simp only [wide, List.foldr, Kd.n, List.replicate, List.length_map]; omega)) (by omega) (by omega))
  go_region_held3 (fun w' => w'.cell? ⟨N, 0, none⟩ = some (.pointer (some ⟨p, 0, none⟩)) ∧ w'.cell? ⟨N, 1, none⟩ = some (.pointer none)) (go_keep)
    ((go_at_call 44; refine (unhide HC6).mono ?_; rintro e w7 ⟨rfl, hP⟩; obtain ⟨g7_, hB, hg, hF⟩ := (unhide HB6).next (WP.later (((Fr.refl (fun _ => False) w6).drew).alloc _) hP); have hN7 : N ≠ g7_ := (by have := (unhide HX6).lt; omega); have k0 : w7.cell? ⟨N, 0, none⟩ = some (.pointer (some ⟨p, 0, none⟩)) := ((unhide HX6).frame hF (by omega)).cell 0; have k1 : w7.cell? ⟨N, 1, none⟩ = some (.pointer none) := ((unhide HX6).frame hF (by omega)).cell 1; have HX7 := hide ((unhide HX6).frame hF (by omega)); have HF7 : Hid (Fr (fun k => k = p ∨ k = g) w w7 ∧ (g7_ = g ∨ w.heap.size ≤ g7_)) := hide (by obtain ⟨q1, q2⟩ := unhide HF6; have := q1.size; exact ⟨q1.trans hF (fun _ _ t => by omega), by omega⟩); have HB7 := hide hB; have HM7 := hide ((unhide HM6).step (Most.wr (List.replicate 1 (.num 4)) ([x8].map (Value.int .i64)))); clear hB hF hg hP))
  clear HC6 HX6 HF6 HB6 m0 m1
  have m0 : w7.cell? ⟨N, 0, none⟩ = some (.pointer (some ⟨p, 0, none⟩)) := (unhide HX7).cell 0
  have m1 : w7.cell? ⟨N, 1, none⟩ = some (.pointer none) := (unhide HX7).cell 1
  go_wp2_with fail
  have HC7 := hide (numbers_w ((unhide HB7).drew.alloc (.cells #[.pointer (some ⟨b, 9, none⟩), .pointer (some ⟨b, 10, none⟩), .pointer (some ⟨b, 11, none⟩), .pointer (some ⟨b, 12, none⟩)] 98)) w7.heap.size 9 4 2 (ptrs4 w7.drew b 9 _) (by have := (unhide HB7).plt; omega) (by have := (unhide HB7).gl; omega) [x9, x10, x11, x12] rfl (fun j hj => by match j, hj with | 0, _ => rfl | 1, _ => rfl | 2, _ => rfl | 3, _ => rfl) (fun x hx => by simp only [List.mem_cons, List.not_mem_nil, or_false] at hx; rcases hx with rfl | rfl | rfl | rfl; exact unhide Jh9; exact unhide Jh10; exact unhide Jh11; exact unhide Jh12) _ (unhide HM7) (by have := unhide HT; first | omega | (simp only [wide, List.foldr, Kd.n, List.length_map]; omega) | (simp only [wide, List.foldr, Kd.n, List.replicate, List.length_map]; omega)) (by omega) (by omega))
  go_region_held3 (fun w' => w'.cell? ⟨N, 0, none⟩ = some (.pointer (some ⟨p, 0, none⟩)) ∧ w'.cell? ⟨N, 1, none⟩ = some (.pointer none)) (go_keep)
    ((go_at_call 44; refine (unhide HC7).mono ?_; rintro e w8 ⟨rfl, hP⟩; obtain ⟨g8_, hB, hg, hF⟩ := (unhide HB7).next (WP.later (((Fr.refl (fun _ => False) w7).drew).alloc _) hP); have hN8 : N ≠ g8_ := (by have := (unhide HX7).lt; omega); have k0 : w8.cell? ⟨N, 0, none⟩ = some (.pointer (some ⟨p, 0, none⟩)) := ((unhide HX7).frame hF (by omega)).cell 0; have k1 : w8.cell? ⟨N, 1, none⟩ = some (.pointer none) := ((unhide HX7).frame hF (by omega)).cell 1; have HX8 := hide ((unhide HX7).frame hF (by omega)); have HF8 : Hid (Fr (fun k => k = p ∨ k = g) w w8 ∧ (g8_ = g ∨ w.heap.size ≤ g8_)) := hide (by obtain ⟨q1, q2⟩ := unhide HF7; have := q1.size; exact ⟨q1.trans hF (fun _ _ t => by omega), by omega⟩); have HB8 := hide hB; have HM8 := hide ((unhide HM7).step (Most.wr (List.replicate 4 (.num 2)) ([x9, x10, x11, x12].map (Value.int .i64)))); clear hB hF hg hP))
  clear HC7 HX7 HF7 HB7 m0 m1
  have m0 : w8.cell? ⟨N, 0, none⟩ = some (.pointer (some ⟨p, 0, none⟩)) := (unhide HX8).cell 0
  have m1 : w8.cell? ⟨N, 1, none⟩ = some (.pointer none) := (unhide HX8).cell 1
  go_wp2_with fail
  have HC8 := hide (numbers_w ((unhide HB8).drew.alloc (.cells #[.pointer (some ⟨b, 13, none⟩)] 98)) w8.heap.size 13 1 4 (ptrs1 w8.drew b 13 _) (by have := (unhide HB8).plt; omega) (by have := (unhide HB8).gl; omega) [x13] rfl (fun j hj => by match j, hj with | 0, _ => rfl) (fun x hx => by simp only [List.mem_cons, List.not_mem_nil, or_false] at hx; subst hx; exact unhide Jh13) _ (unhide HM8) (by have := unhide HT; first | omega | (simp only [wide, List.foldr, Kd.n, List.length_map]; omega) | (simp only [wide, List.foldr, Kd.n, List.replicate, List.length_map]; omega)) (by omega) (by omega))
  go_region_held3 (fun w' => w'.cell? ⟨N, 0, none⟩ = some (.pointer (some ⟨p, 0, none⟩)) ∧ w'.cell? ⟨N, 1, none⟩ = some (.pointer none)) (go_keep)
    ((go_at_call 44; refine (unhide HC8).mono ?_; rintro e w9 ⟨rfl, hP⟩; obtain ⟨g9_, hB, hg, hF⟩ := (unhide HB8).next (WP.later (((Fr.refl (fun _ => False) w8).drew).alloc _) hP); have hN9 : N ≠ g9_ := (by have := (unhide HX8).lt; omega); have k0 : w9.cell? ⟨N, 0, none⟩ = some (.pointer (some ⟨p, 0, none⟩)) := ((unhide HX8).frame hF (by omega)).cell 0; have k1 : w9.cell? ⟨N, 1, none⟩ = some (.pointer none) := ((unhide HX8).frame hF (by omega)).cell 1; have HX9 := hide ((unhide HX8).frame hF (by omega)); have HF9 : Hid (Fr (fun k => k = p ∨ k = g) w w9 ∧ (g9_ = g ∨ w.heap.size ≤ g9_)) := hide (by obtain ⟨q1, q2⟩ := unhide HF8; have := q1.size; exact ⟨q1.trans hF (fun _ _ t => by omega), by omega⟩); have HB9 := hide hB; have HM9 := hide ((unhide HM8).step (Most.wr (List.replicate 1 (.num 4)) ([x13].map (Value.int .i64)))); clear hB hF hg hP))
  clear HC8 HX8 HF8 HB8 m0 m1
  have m0 : w9.cell? ⟨N, 0, none⟩ = some (.pointer (some ⟨p, 0, none⟩)) := (unhide HX9).cell 0
  have m1 : w9.cell? ⟨N, 1, none⟩ = some (.pointer none) := (unhide HX9).cell 1
  go_wp2
  go_end0
  exact ⟨rfl, g9_, (unhide HB9).s, (unhide HB9).gl, (unhide HF9).2, (unhide HF9).1⟩

end Go.Proofs.YtkjoojamkbpfcaaGreat
