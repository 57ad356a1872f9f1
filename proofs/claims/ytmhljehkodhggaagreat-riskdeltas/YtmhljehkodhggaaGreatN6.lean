import Derived.Test.YtmhljehkodhggaaGreatN5
/- Records that hold lists: deltas, outages, tariffs; read and written. -/
namespace Go.Proofs.YtmhljehkodhggaaGreat
open Go.RowKit

/-- A list that was made behind w0. -/
structure KL (w0 w : World) (ao : Option Addr) (cap gl k : Nat) (vs : List Value) : Prop where
  row : KRow w ao cap gl k vs
  new : 0 < cap → w0.heap.size ≤ gl

theorem KL.frame {w0 w w' : World} {ao : Option Addr} {cap gl k p b : Nat} {vs : List Value} (h : KL w0 w ao cap gl k vs) (hk : 0 < k) (hf : Fr (fun q => q = p ∨ q = b) w w') (hp : p < w0.heap.size) (hb : b < w0.heap.size) : KL w0 w' ao cap gl k vs :=
  ⟨h.row.stay (fun hc => hf.block gl (h.row.lt hk hc) (by have := h.new hc; omega)), h.new⟩

theorem KL.later {w0 w1 w : World} {ao : Option Addr} {cap gl k : Nat} {vs : List Value} (h : KL w1 w ao cap gl k vs) (hs : w0.heap.size ≤ w1.heap.size) : KL w0 w ao cap gl k vs := ⟨h.row, fun hc => Nat.le_trans hs (h.new hc)⟩

theorem Most.list (ks : List Kd) (rs : List (List Value)) : Most (wrM ks rs) (2 + rs.length * wide ks) := (Most.count _).step (Most.wrN ks rs)

def deltaQ0 (bs : List UInt8) (s : RS) : List Value × RS := rdL bs (List.replicate 1 (.num 8)) s
def deltaS1 (bs : List UInt8) (s : RS) : RS := (deltaQ0 bs s).2
def deltaQ1 (bs : List UInt8) (s : RS) : List (List Value) × RS := rdM bs 1000 tokenK (deltaS1 bs s)
def deltaS2 (bs : List UInt8) (s : RS) : RS := (deltaQ1 bs s).2
def deltaQ2 (bs : List UInt8) (s : RS) : List (List Value) × RS := rdM bs 1000 tokenK (deltaS2 bs s)
def deltaS3 (bs : List UInt8) (s : RS) : RS := (deltaQ2 bs s).2

set_option maxHeartbeats 2000000 in
theorem delta_r {w : World} {p g b : Nat} {bs : List UInt8} {s : RS} {t : TypeId} (x0 : Value) (h : RB w p g b bs s #[x0, .slice none 0 0, .slice none 0 0] t) :
    Calls Tryz.prog 58 #[walkR p, .pointer (some ⟨b, 0, none⟩)] w fun e w' => e = .returned (.tuple #[]) ∧ ∃ a1 c1 g1 a2 c2 g2,
      RB w' p g b bs (deltaS3 bs s) #[(deltaQ0 bs s).1.getD 0 undef, .slice a1 (deltaQ1 bs s).1.length c1, .slice a2 (deltaQ2 bs s).1.length c2] t ∧ (KL w w' a1 c1 g1 1 (deltaQ1 bs s).1.flatten ∧ KL w w' a2 c2 g2 1 (deltaQ2 bs s).1.flatten) ∧ ((0 < c1 → 0 < c2 → g1 ≠ g2)) ∧ Fr (fun k => k = p ∨ k = b) w w' := by
  have H := hide h
  have hp := h.plt
  have hb := h.x.lt
  have hbp := h.np
  clear h
  go_enter Tryz.func58, Tryz.ntmps58
  go_wp2_with fail
  have HX0 : Hid (Bx (w.alloc (.cells #[.pointer none, .pointer (some ⟨p, 0, none⟩)] 71)) w.heap.size #[.pointer none, .pointer (some ⟨p, 0, none⟩)] 71) := hide (Bx.new _ _ _)
  have HB0 := hide ((unhide H).alloc (.cells #[.pointer none, .pointer (some ⟨p, 0, none⟩)] 71))
  have HF0 : Hid (Fr (fun k => k = p ∨ k = b) w (w.alloc (.cells #[.pointer none, .pointer (some ⟨p, 0, none⟩)] 71))) := hide ((Fr.refl _ _).alloc _)
  obtain ⟨N, HN⟩ : ∃ N, Hid (w.heap.size = N) := ⟨_, rfl⟩
  have hNp : N ≠ p := by have := unhide HN; omega
  have hNb : N ≠ b := by have := unhide HN; omega
  rw [unhide HN] at HX0 ⊢
  generalize w.alloc (.cells #[.pointer none, .pointer (some ⟨p, 0, none⟩)] 71) = w0 at *
  have m0 : w0.cell? ⟨N, 0, none⟩ = some (.pointer none) := (unhide HX0).cell 0
  have m1 : w0.cell? ⟨N, 1, none⟩ = some (.pointer (some ⟨p, 0, none⟩)) := (unhide HX0).cell 1
  have HC0 := hide (numbers_r ((unhide HB0).drew.alloc (.cells #[.pointer (some ⟨b, 0, none⟩)] 91)) w0.heap.size 0 1 8 (ptrs1 w0.drew b 0 _) (by have := (unhide HB0).plt; omega) (by have := (unhide HB0).x.lt; omega) (by simp) (by omega))
  go_region_held3 (fun w' => w'.cell? ⟨N, 0, none⟩ = some (.pointer none) ∧ w'.cell? ⟨N, 1, none⟩ = some (.pointer (some ⟨p, 0, none⟩))) (go_keep)
    ((go_at_call 74; refine (unhide HC0).mono ?_; rintro e w1 ⟨rfl, hB1, hF1⟩; have hx1 : Fr (fun k => k = p ∨ k = b) w0 w1 := Fr.trans ((((Fr.refl (fun _ => False) w0).drew).alloc _).mono (fun _ _ t => t.elim)) hF1 (fun _ _ t => t); have k0 : w1.cell? ⟨N, 0, none⟩ = some (.pointer none) := ((unhide HX0).frame hx1 (by omega)).cell 0; have k1 : w1.cell? ⟨N, 1, none⟩ = some (.pointer (some ⟨p, 0, none⟩)) := ((unhide HX0).frame hx1 (by omega)).cell 1; have HX1 := hide ((unhide HX0).frame hx1 (by omega)); have HF1 : Hid (Fr (fun k => k = p ∨ k = b) w w1) := hide ((unhide HF0).trans hx1 (fun _ _ t => t)); have HB1 : Hid (RB w1 p g b bs (deltaS1 bs s) #[(deltaQ0 bs s).1.getD 0 undef, .slice none 0 0, .slice none 0 0] t) := hide (hB1); clear hB1 hF1 hx1))
  clear HC0 HX0 HF0 HB0 m0 m1
  have m0 : w1.cell? ⟨N, 0, none⟩ = some (.pointer none) := (unhide HX1).cell 0
  have m1 : w1.cell? ⟨N, 1, none⟩ = some (.pointer (some ⟨p, 0, none⟩)) := (unhide HX1).cell 1
  go_wp2_with fail
  have HC1 := hide (listToken_r (unhide HB1).drew 1 rfl 1000 (by omega))
  go_region_held3 (fun w' => w'.cell? ⟨N, 0, none⟩ = some (.pointer none) ∧ w'.cell? ⟨N, 1, none⟩ = some (.pointer (some ⟨p, 0, none⟩))) (go_keep)
    ((go_at_call 75; refine (unhide HC1).mono ?_; rintro e w2 ⟨rfl, a1, c1, g1, hB2, hK, hn, hF2⟩; have hx2 : Fr (fun k => k = p ∨ k = b) w1 w2 := Fr.trans (((Fr.refl (fun _ => False) w1).drew).mono (fun _ _ t => t.elim)) hF2 (fun _ _ t => t); have HK1 : Hid (KL w w2 a1 c1 g1 1 (deltaQ1 bs s).1.flatten) := hide ⟨hK, fun hc => by have h1 := hn hc; have h2 := (unhide HF1).size; have h3 : w1.drew.heap.size = w1.heap.size := rfl; omega⟩; clear hK hn; have k0 : w2.cell? ⟨N, 0, none⟩ = some (.pointer none) := ((unhide HX1).frame hx2 (by omega)).cell 0; have k1 : w2.cell? ⟨N, 1, none⟩ = some (.pointer (some ⟨p, 0, none⟩)) := ((unhide HX1).frame hx2 (by omega)).cell 1; have HX2 := hide ((unhide HX1).frame hx2 (by omega)); have HF2 : Hid (Fr (fun k => k = p ∨ k = b) w w2) := hide ((unhide HF1).trans hx2 (fun _ _ t => t)); have HB2 : Hid (RB w2 p g b bs (deltaS2 bs s) #[(deltaQ0 bs s).1.getD 0 undef, .slice a1 (deltaQ1 bs s).1.length c1, .slice none 0 0] t) := hide (hB2); clear hB2 hF2 hx2))
  clear HC1 HX1 HF1 HB1 m0 m1
  have m0 : w2.cell? ⟨N, 0, none⟩ = some (.pointer none) := (unhide HX2).cell 0
  have m1 : w2.cell? ⟨N, 1, none⟩ = some (.pointer (some ⟨p, 0, none⟩)) := (unhide HX2).cell 1
  go_wp2_with fail
  have HC2 := hide (listToken_r (unhide HB2).drew 2 rfl 1000 (by omega))
  go_region_held3 (fun w' => w'.cell? ⟨N, 0, none⟩ = some (.pointer none) ∧ w'.cell? ⟨N, 1, none⟩ = some (.pointer (some ⟨p, 0, none⟩))) (go_keep)
    ((go_at_call 75; refine (unhide HC2).mono ?_; rintro e w3 ⟨rfl, a2, c2, g2, hB3, hK, hn, hF3⟩; have hx3 : Fr (fun k => k = p ∨ k = b) w2 w3 := Fr.trans (((Fr.refl (fun _ => False) w2).drew).mono (fun _ _ t => t.elim)) hF3 (fun _ _ t => t); have HK2 : Hid (KL w w3 a2 c2 g2 1 (deltaQ2 bs s).1.flatten) := hide ⟨hK, fun hc => by have h1 := hn hc; have h2 := (unhide HF2).size; have h3 : w2.drew.heap.size = w2.heap.size := rfl; omega⟩; have HD12 : Hid (0 < c1 → 0 < c2 → g1 ≠ g2) := hide (fun h1 h2 => by have h3 := (unhide HK1).row.lt (by omega) h1; have h4 := hn h2; have h5 : w2.drew.heap.size = w2.heap.size := rfl; omega); clear hK hn; have HK1 := hide ((unhide HK1).frame (by omega) hx3 hp hb); have k0 : w3.cell? ⟨N, 0, none⟩ = some (.pointer none) := ((unhide HX2).frame hx3 (by omega)).cell 0; have k1 : w3.cell? ⟨N, 1, none⟩ = some (.pointer (some ⟨p, 0, none⟩)) := ((unhide HX2).frame hx3 (by omega)).cell 1; have HX3 := hide ((unhide HX2).frame hx3 (by omega)); have HF3 : Hid (Fr (fun k => k = p ∨ k = b) w w3) := hide ((unhide HF2).trans hx3 (fun _ _ t => t)); have HB3 : Hid (RB w3 p g b bs (deltaS3 bs s) #[(deltaQ0 bs s).1.getD 0 undef, .slice a1 (deltaQ1 bs s).1.length c1, .slice a2 (deltaQ2 bs s).1.length c2] t) := hide (hB3); clear hB3 hF3 hx3))
  clear HC2 HX2 HF2 HB2 m0 m1
  have m0 : w3.cell? ⟨N, 0, none⟩ = some (.pointer none) := (unhide HX3).cell 0
  have m1 : w3.cell? ⟨N, 1, none⟩ = some (.pointer (some ⟨p, 0, none⟩)) := (unhide HX3).cell 1
  go_wp2
  go_end0
  exact ⟨rfl, a1, c1, g1, a2, c2, g2, unhide HB3, ⟨unhide HK1, unhide HK2⟩, unhide HD12, unhide HF3⟩

set_option maxHeartbeats 2000000 in
theorem delta_w {w : World} {p g b : Nat} {st : Option (List UInt8)} {t : TypeId} (x0 : Int) (a1 : Option Addr) (c1 : Nat) (l1 : List ByteArray) (a2 : Option Addr) (c2 : Nat) (l2 : List ByteArray) (h : WB w p g b st #[.int .i64 x0, .slice a1 l1.length c1, .slice a2 l2.length c2] t) (hc1 : CAt w a1 (tkV l1)) (hs1 : ∀ q off, a1 = some ⟨q, off, none⟩ → 0 < l1.length → q ≠ p ∧ q ≠ g ∧ q < w.heap.size) (hl1 : l1.length ≤ 1000) (hc2 : CAt w a2 (tkV l2)) (hs2 : ∀ q off, a2 = some ⟨q, off, none⟩ → 0 < l2.length → q ≠ p ∧ q ≠ g ∧ q < w.heap.size) (hl2 : l2.length ≤ 1000) (h0 : x0 ≤ 9223372036854775807) (Lm : Nat) (hL : Most st Lm) (hfit : Lm ≤ 1000) :
    Calls Tryz.prog 58 #[walkW p, .pointer (some ⟨b, 0, none⟩)] w (WDone p g (stepW (stepW (stepW (st) (wrL (List.replicate 1 (.num 8)) ([x0].map (Value.int .i64)))) (wrM tokenK (l1.map tkC))) (wrM tokenK (l2.map tkC))) w) := by
  have H := hide h
  have hp := h.plt
  have hb := h.x.lt
  have hbp := h.np
  have hgl := h.gl
  have Jhc1 := hide hc1
  have Jhs1 := hide hs1
  have Jhc2 := hide hc2
  have Jhs2 := hide hs2
  have Jh0 := hide h0
  have HM0 := hide hL
  have HT := hide hfit
  clear h hL hfit hc1 hs1 hc2 hs2 h0
  go_enter Tryz.func58, Tryz.ntmps58
  go_wp2_with fail
  have HX0 : Hid (Bx (w.alloc (.cells #[.pointer (some ⟨p, 0, none⟩), .pointer none] 71)) w.heap.size #[.pointer (some ⟨p, 0, none⟩), .pointer none] 71) := hide (Bx.new _ _ _)
  have HB0 := hide ((unhide H).alloc (.cells #[.pointer (some ⟨p, 0, none⟩), .pointer none] 71))
  have HF0 : Hid (Fr (fun k => k = p ∨ k = g) w (w.alloc (.cells #[.pointer (some ⟨p, 0, none⟩), .pointer none] 71)) ∧ (g = g ∨ w.heap.size ≤ g)) := hide ⟨(Fr.refl _ _).alloc _, Or.inl rfl⟩
  obtain ⟨N, HN⟩ : ∃ N, Hid (w.heap.size = N) := ⟨_, rfl⟩
  have hNp : N ≠ p := by have := unhide HN; omega
  have hN0 : N ≠ g := by have := unhide HN; omega
  rw [unhide HN] at HX0 ⊢
  generalize w.alloc (.cells #[.pointer (some ⟨p, 0, none⟩), .pointer none] 71) = w0 at *
  have m0 : w0.cell? ⟨N, 0, none⟩ = some (.pointer (some ⟨p, 0, none⟩)) := (unhide HX0).cell 0
  have m1 : w0.cell? ⟨N, 1, none⟩ = some (.pointer none) := (unhide HX0).cell 1
  have HC0 := hide (numbers_w ((unhide HB0).drew.alloc (.cells #[.pointer (some ⟨b, 0, none⟩)] 91)) w0.heap.size 0 1 8 (ptrs1 w0.drew b 0 _) (by have := (unhide HB0).plt; omega) (by have := (unhide HB0).gl; omega) [x0] rfl (fun j hj => by match j, hj with | 0, _ => rfl) (fun x hx => by simp only [List.mem_cons, List.not_mem_nil, or_false] at hx; subst hx; exact unhide Jh0) _ (unhide HM0) (by have := unhide HT; first | omega | (simp only [wide, List.foldr, Kd.n, List.replicate]; omega) | (simp only [wide, List.foldr, Kd.n, List.length_map]; omega) | (simp only [wide, List.foldr, Kd.n, List.replicate, List.length_map]; omega)) (by omega) (by omega))
  go_region_held3 (fun w' => w'.cell? ⟨N, 0, none⟩ = some (.pointer (some ⟨p, 0, none⟩)) ∧ w'.cell? ⟨N, 1, none⟩ = some (.pointer none)) (go_keep)
    ((go_at_call 74; refine (unhide HC0).mono ?_; rintro e w1 ⟨rfl, hP⟩; obtain ⟨g1_, hB, hg, hF⟩ := (unhide HB0).next (WP.later (((Fr.refl (fun _ => False) w0).drew).alloc _) hP); have hN1 : N ≠ g1_ := (by have := (unhide HX0).lt; omega); have k0 : w1.cell? ⟨N, 0, none⟩ = some (.pointer (some ⟨p, 0, none⟩)) := ((unhide HX0).frame hF (by omega)).cell 0; have k1 : w1.cell? ⟨N, 1, none⟩ = some (.pointer none) := ((unhide HX0).frame hF (by omega)).cell 1; have HX1 := hide ((unhide HX0).frame hF (by omega)); have HF1 : Hid (Fr (fun k => k = p ∨ k = g) w w1 ∧ (g1_ = g ∨ w.heap.size ≤ g1_)) := hide (by obtain ⟨q1, q2⟩ := unhide HF0; have := q1.size; exact ⟨q1.trans hF (fun _ _ t => by omega), by omega⟩); have HB1 := hide hB; have HM1 := hide ((unhide HM0).step (Most.wr (List.replicate 1 (.num 8)) ([x0].map (Value.int .i64)))); clear hB hF hg hP))
  clear HC0 HX0 HF0 HB0 m0 m1
  have m0 : w1.cell? ⟨N, 0, none⟩ = some (.pointer (some ⟨p, 0, none⟩)) := (unhide HX1).cell 0
  have m1 : w1.cell? ⟨N, 1, none⟩ = some (.pointer none) := (unhide HX1).cell 1
  go_wp2_with fail
  have HC1 := hide (listToken_w (unhide HB1).drew 1 a1 c1 l1 rfl ((unhide Jhc1).frame ((unhide HF1).1.drew) (fun q off e h0 => by have h1 := unhide Jhs1 q off e (by rw [tkV_length] at h0; omega); omega)) (fun q off e h0 => by have h1 := unhide Jhs1 q off e h0; have h2 := (unhide HF1).2; exact ⟨h1.1, by omega⟩) (by omega) _ (unhide HM1) (by have := unhide HT; first | omega | (simp only [wide, List.foldr, Kd.n]; omega) | (simp only [wide, List.foldr, Kd.n, List.replicate]; omega) | (simp only [wide, List.foldr, Kd.n, List.length_map]; omega) | (simp only [wide, List.foldr, Kd.n, List.replicate, List.length_map]; omega)) 1000)
  go_region_held3 (fun w' => w'.cell? ⟨N, 0, none⟩ = some (.pointer (some ⟨p, 0, none⟩)) ∧ w'.cell? ⟨N, 1, none⟩ = some (.pointer none)) (go_keep)
    ((go_at_call 75; refine (unhide HC1).mono ?_; rintro e w2 ⟨rfl, hP⟩; obtain ⟨g2_, hB, hg, hF⟩ := (unhide HB1).next (WP.later ((Fr.refl (fun _ => False) w1).drew) hP); have hN2 : N ≠ g2_ := (by have := (unhide HX1).lt; omega); have k0 : w2.cell? ⟨N, 0, none⟩ = some (.pointer (some ⟨p, 0, none⟩)) := ((unhide HX1).frame hF (by omega)).cell 0; have k1 : w2.cell? ⟨N, 1, none⟩ = some (.pointer none) := ((unhide HX1).frame hF (by omega)).cell 1; have HX2 := hide ((unhide HX1).frame hF (by omega)); have HF2 : Hid (Fr (fun k => k = p ∨ k = g) w w2 ∧ (g2_ = g ∨ w.heap.size ≤ g2_)) := hide (by obtain ⟨q1, q2⟩ := unhide HF1; have := q1.size; exact ⟨q1.trans hF (fun _ _ t => by omega), by omega⟩); have HB2 := hide hB; have HM2 := hide ((unhide HM1).step (Most.list tokenK (l1.map tkC))); clear hB hF hg hP))
  clear HC1 HX1 HF1 HB1 m0 m1
  have m0 : w2.cell? ⟨N, 0, none⟩ = some (.pointer (some ⟨p, 0, none⟩)) := (unhide HX2).cell 0
  have m1 : w2.cell? ⟨N, 1, none⟩ = some (.pointer none) := (unhide HX2).cell 1
  go_wp2_with fail
  have HC2 := hide (listToken_w (unhide HB2).drew 2 a2 c2 l2 rfl ((unhide Jhc2).frame ((unhide HF2).1.drew) (fun q off e h0 => by have h1 := unhide Jhs2 q off e (by rw [tkV_length] at h0; omega); omega)) (fun q off e h0 => by have h1 := unhide Jhs2 q off e h0; have h2 := (unhide HF2).2; exact ⟨h1.1, by omega⟩) (by omega) _ (unhide HM2) (by have := unhide HT; first | omega | (simp only [wide, List.foldr, Kd.n]; omega) | (simp only [wide, List.foldr, Kd.n, List.replicate]; omega) | (simp only [wide, List.foldr, Kd.n, List.length_map]; omega) | (simp only [wide, List.foldr, Kd.n, List.replicate, List.length_map]; omega)) 1000)
  go_region_held3 (fun w' => w'.cell? ⟨N, 0, none⟩ = some (.pointer (some ⟨p, 0, none⟩)) ∧ w'.cell? ⟨N, 1, none⟩ = some (.pointer none)) (go_keep)
    ((go_at_call 75; refine (unhide HC2).mono ?_; rintro e w3 ⟨rfl, hP⟩; obtain ⟨g3_, hB, hg, hF⟩ := (unhide HB2).next (WP.later ((Fr.refl (fun _ => False) w2).drew) hP); have hN3 : N ≠ g3_ := (by have := (unhide HX2).lt; omega); have k0 : w3.cell? ⟨N, 0, none⟩ = some (.pointer (some ⟨p, 0, none⟩)) := ((unhide HX2).frame hF (by omega)).cell 0; have k1 : w3.cell? ⟨N, 1, none⟩ = some (.pointer none) := ((unhide HX2).frame hF (by omega)).cell 1; have HX3 := hide ((unhide HX2).frame hF (by omega)); have HF3 : Hid (Fr (fun k => k = p ∨ k = g) w w3 ∧ (g3_ = g ∨ w.heap.size ≤ g3_)) := hide (by obtain ⟨q1, q2⟩ := unhide HF2; have := q1.size; exact ⟨q1.trans hF (fun _ _ t => by omega), by omega⟩); have HB3 := hide hB; have HM3 := hide ((unhide HM2).step (Most.list tokenK (l2.map tkC))); clear hB hF hg hP))
  clear HC2 HX2 HF2 HB2 m0 m1
  have m0 : w3.cell? ⟨N, 0, none⟩ = some (.pointer (some ⟨p, 0, none⟩)) := (unhide HX3).cell 0
  have m1 : w3.cell? ⟨N, 1, none⟩ = some (.pointer none) := (unhide HX3).cell 1
  go_wp2
  go_end0
  exact ⟨rfl, g3_, (unhide HB3).s, (unhide HB3).gl, (unhide HF3).2, (unhide HF3).1⟩

def tariffQ0 (bs : List UInt8) (s : RS) : List (List Value) × RS := rdM bs 200 stationK s
def tariffS1 (bs : List UInt8) (s : RS) : RS := (tariffQ0 bs s).2
def tariffQ1 (bs : List UInt8) (s : RS) : List (List Value) × RS := rdM bs 45 spanK (tariffS1 bs s)
def tariffS2 (bs : List UInt8) (s : RS) : RS := (tariffQ1 bs s).2
def tariffQ2 (bs : List UInt8) (s : RS) : List (List Value) × RS := rdM bs 8 bandK (tariffS2 bs s)
def tariffS3 (bs : List UInt8) (s : RS) : RS := (tariffQ2 bs s).2
def tariffQ3 (bs : List UInt8) (s : RS) : Value × RS := Kd.rd bs (.float) (tariffS3 bs s)
def tariffS4 (bs : List UInt8) (s : RS) : RS := (tariffQ3 bs s).2
def tariffQ4 (bs : List UInt8) (s : RS) : List Value × RS := rdL bs (List.replicate 3 (.num 4)) (tariffS4 bs s)
def tariffS5 (bs : List UInt8) (s : RS) : RS := (tariffQ4 bs s).2
def tariffQ5 (bs : List UInt8) (s : RS) : List Value × RS := rdL bs (List.replicate 1 (.num 2)) (tariffS5 bs s)
def tariffS6 (bs : List UInt8) (s : RS) : RS := (tariffQ5 bs s).2
def tariffQ6 (bs : List UInt8) (s : RS) : List Value × RS := rdL bs (List.replicate 1 (.num 4)) (tariffS6 bs s)
def tariffS7 (bs : List UInt8) (s : RS) : RS := (tariffQ6 bs s).2
def tariffQ7 (bs : List UInt8) (s : RS) : List Value × RS := rdL bs (List.replicate 4 (.num 2)) (tariffS7 bs s)
def tariffS8 (bs : List UInt8) (s : RS) : RS := (tariffQ7 bs s).2
def tariffQ8 (bs : List UInt8) (s : RS) : List Value × RS := rdL bs (List.replicate 1 (.num 4)) (tariffS8 bs s)
def tariffS9 (bs : List UInt8) (s : RS) : RS := (tariffQ8 bs s).2

end Go.Proofs.YtmhljehkodhggaaGreat

