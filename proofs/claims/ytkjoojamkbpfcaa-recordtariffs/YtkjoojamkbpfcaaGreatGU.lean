import Derived.Test.YtkjoojamkbpfcaaGreatNU
import Derived.Test.YtkjoojamkbpfcaaGreatQVX
import Derived.Test.YtkjoojamkbpfcaaGreatGX
import Derived.Deep.Cut
/- The document's own readings: tariffs. -/
namespace Go.Proofs.YtkjoojamkbpfcaaGreat
open Go.RowKit
attribute [local go_sem] run_store_float

theorem XAt.frameT {S : Nat → Prop} {w w' : World} {p : Nat} {ao : Option Addr} {cap : Nat} {bs : List UInt8} {s : RS} (h : XAt w p ao cap bs s) (hf : Fr S w w') (hp : ¬ S p) (hr : ∀ b off, ao = some ⟨b, off, none⟩ → 0 < bs.length → ¬ S b) : XAt w' p ao cap bs s :=
  h.stay (hf.block p h.lt hp) (fun b off e h0 hb => hf.block b hb (hr b off e h0))

/-- What the document's reader of a tariff holds. -/
structure XT (w v : World) (M p B R1 Tb : Nat) (ao : Option Addr) (cap : Nat) (bs : List UInt8) (s : RS) (cs : Array Value) : Prop where
  fr : Fr (fun _ => False) w v
  r : XAt v p ao cap bs s
  b : Bx v B #[.slice none 0 0, .slice none 0 0, .slice none 0 0, .float .f64 0, .int .i64 0, .int .i64 0, .int .i64 0, .int .i64 0, .int .i64 0, .int .i64 0, .int .i64 0, .int .i64 0, .int .i64 0, .int .i64 0] 27
  f : Bx v R1 #[.int .i64 0, .int .i64 0] 37
  t : Bx v Tb cs 27
  lt : w.heap.size ≤ B ∧ B < R1 ∧ R1 < p ∧ p < Tb ∧ Tb < M
  sz : M ≤ v.heap.size
  src : ∀ b off, ao = some ⟨b, off, none⟩ → 0 < bs.length → b < w.heap.size

section
variable {w v v' : World} {M p B R1 Tb : Nat} {ao : Option Addr} {cap : Nat} {bs : List UInt8} {s s' : RS} {cs : Array Value}
theorem XT.read (h : XT w v M p B R1 Tb ao cap bs s cs) (hr : XAt v' p ao cap bs s') (hf : Fr (· = p) v v') : XT w v' M p B R1 Tb ao cap bs s' cs := by
  obtain ⟨l1, l2, l3, l4, l5⟩ := h.lt
  exact ⟨h.fr.trans hf (fun q hq t => by have : q = p := t; omega), hr, h.b.frame hf (fun t => by have : B = p := t; omega), h.f.frame hf (fun t => by have : R1 = p := t; omega), h.t.frame hf (fun t => by have : Tb = p := t; omega), h.lt, Nat.le_trans h.sz hf.size, h.src⟩
theorem XT.go {S : Nat → Prop} (h : XT w v M p B R1 Tb ao cap bs s cs) (hf : Fr S v v') (hS : ∀ q, S q → M ≤ q) : XT w v' M p B R1 Tb ao cap bs s cs := by
  obtain ⟨l1, l2, l3, l4, l5⟩ := h.lt
  exact ⟨h.fr.trans hf (fun q hq t => by have := hS q t; omega), h.r.frameT hf (fun t => by have := hS _ t; omega) (fun b off e h0 t => by have := hS _ t; have := h.src b off e h0; omega), h.b.frame hf (fun t => by have := hS _ t; omega), h.f.frame hf (fun t => by have := hS _ t; omega), h.t.frame hf (fun t => by have := hS _ t; omega), h.lt, Nat.le_trans h.sz hf.size, h.src⟩
theorem XT.put (h : XT w v M p B R1 Tb ao cap bs s cs) (c : Nat) (x : Value) : XT w (v.setCell ⟨Tb, c, none⟩ x) M p B R1 Tb ao cap bs s (cs.setIfInBounds c x) := by
  obtain ⟨l1, l2, l3, l4, l5⟩ := h.lt
  have hf : Fr (fun q => q = Tb) v (v.setCell ⟨Tb, c, none⟩ x) := (Fr.refl (fun q => q = Tb) v).setCell (p := ⟨Tb, c, none⟩) (fun _ => rfl) x
  exact ⟨h.fr.trans hf (fun q hq t => by omega), h.r.frameT hf (fun t => by omega) (fun b off e h0 t => by have := h.src b off e h0; omega), h.b.frame hf (fun t => by omega), h.f.frame hf (fun t => by omega), h.t.setCell c x, h.lt, Nat.le_trans h.sz hf.size, h.src⟩

/-- A list that it is reading. -/
structure LS (w wj u : World) (M p B R1 Tb : Nat) (ao : Option Addr) (cap : Nat) (bs : List UInt8) (s : RS) (cs : Array Value) (la : Option Addr) (lc gl k : Nat) (vs : List Value) : Prop where
  x : XT w u M p B R1 Tb ao cap bs s cs
  l : KL wj u la lc gl k vs
  fr : Fr (fun q => q = p ∨ q = Tb) wj u
  mj : M ≤ wj.heap.size
variable {wj u u' : World} {la : Option Addr} {lc gl k : Nat} {vs : List Value}
theorem LS.read (h : LS w wj u M p B R1 Tb ao cap bs s cs la lc gl k vs) (hk : 0 < k) (hr : XAt u' p ao cap bs s') (hf : Fr (· = p) u u') : LS w wj u' M p B R1 Tb ao cap bs s' cs la lc gl k vs := by
  obtain ⟨l1, l2, l3, l4, l5⟩ := h.x.lt
  have := h.mj
  exact ⟨h.x.read hr hf, h.l.goT hk hf (fun q hq => by have : q = p := hq; omega), h.fr.trans hf (fun q _ t => Or.inl t), h.mj⟩
theorem LS.keep (h : LS w wj u M p B R1 Tb ao cap bs s cs la lc gl k vs) (hk : 0 < k) (hf : Fr (fun _ => False) u u') : LS w wj u' M p B R1 Tb ao cap bs s cs la lc gl k vs :=
  ⟨h.x.go hf (fun _ t => t.elim), h.l.goT hk hf (fun _ t => t.elim), h.fr.trans hf (fun _ _ t => t.elim), h.mj⟩
theorem LS.setO (h : LS w wj u M p B R1 Tb ao cap bs s cs la lc gl k vs) (hk : 0 < k) {O : Nat} (hO : wj.heap.size ≤ O) (hg : 0 < lc → gl < O) (j : Nat) (x : Value) : LS w wj (u.setCell ⟨O, j, none⟩ x) M p B R1 Tb ao cap bs s cs la lc gl k vs := by
  have hf : Fr (fun q => q = O) u (u.setCell ⟨O, j, none⟩ x) := (Fr.refl (fun q => q = O) u).setCell (p := ⟨O, j, none⟩) (fun _ => rfl) x
  have := h.mj
  refine ⟨h.x.go hf (fun q hq => by have : q = O := hq; omega), ⟨h.l.row.stay (fun hc => hf.block gl (h.l.row.lt hk hc) (fun t => by have := hg hc; omega)), h.l.new⟩, h.fr.trans hf (fun q hq t => by have : q = O := t; omega), h.mj⟩
theorem LS.app {la' : Option Addr} {lc' gl' : Nat} {news : List Value} (h : LS w wj u M p B R1 Tb ao cap bs s cs la lc gl k vs) (hr : KRow u' la' lc' gl' k (vs ++ news)) (hg : Grew u gl lc u' gl' lc') : LS w wj u' M p B R1 Tb ao cap bs s cs la' lc' gl' k (vs ++ news) := by
  have h1 := h.fr.size
  have h2 := h.mj
  have hF : Fr (fun q => q = gl ∧ 0 < lc) u u' := by
    rcases hg with ⟨_, _, hf⟩ | ⟨_, _, hf⟩
    · exact hf
    · exact hf.mono (fun _ _ t => t.elim)
  have hn : 0 < lc' → wj.heap.size ≤ gl' := by
    intro hc
    rcases hg with ⟨e1, e2, _⟩ | ⟨e1, _, _⟩
    · rw [e1]; exact h.l.new (by omega)
    · omega
  exact ⟨h.x.go hF (fun q hq => by have := h.l.new hq.2; omega), ⟨hr, hn⟩, h.fr.trans hF (fun q hq t => by have := h.l.new t.2; omega), h2⟩
theorem LS.put (h : LS w wj u M p B R1 Tb ao cap bs s cs la lc gl k vs) (hk : 0 < k) (c : Nat) (x : Value) : LS w wj (u.setCell ⟨Tb, c, none⟩ x) M p B R1 Tb ao cap bs s (cs.setIfInBounds c x) la lc gl k vs := by
  obtain ⟨l1, l2, l3, l4, l5⟩ := h.x.lt
  have := h.mj
  have hf : Fr (fun q => q = Tb) u (u.setCell ⟨Tb, c, none⟩ x) := (Fr.refl (fun q => q = Tb) u).setCell (p := ⟨Tb, c, none⟩) (fun _ => rfl) x
  exact ⟨h.x.put c x, h.l.goT hk hf (fun q hq => by omega), h.fr.trans hf (fun q _ t => Or.inr t), h.mj⟩
end

theorem cnt_all (bs : List UInt8) (most : Nat) (ks : List Kd) (s : RS) : stepR s (.int .i64 0) (oCount bs s.a most) = (.int .i64 ((rdM bs most ks s).1.length : Int), (cntR bs most s).2) ∧ rdM bs most ks s = rdN bs ks (rdM bs most ks s).1.length (cntR bs most s).2 := by
  have h1 := (cnt_spec bs most s).1
  have hl : (rdM bs most ks s).1.length = cnt bs most s := by unfold rdM; rw [rdN_length]
  rw [hl]
  exact ⟨Prod.ext h1 rfl, rfl⟩

set_option maxHeartbeats 16000000 in
set_option maxRecDepth 100000 in
theorem refReadTariff_any (w : World) (ao : Option Addr) (cap : Nat) (bs : List UInt8) (hB : BInC w ao cap bs) : Calls Tryz.prog 12 #[.slice ao bs.length cap] w (ReadTariff w (tarRd bs)) := by
  have hSH := tar_shape bs s00
  have hM0 := cnt_all bs 200 stationK (s00)
  obtain ⟨C0, HC0⟩ : ∃ C, Hid ((cntR bs 200 (s00)).2 = C) := ⟨_, rfl⟩
  rw [unhide HC0] at hM0
  have hM1 := cnt_all bs 45 spanK (tariffS1 bs s00)
  obtain ⟨C1, HC1⟩ : ∃ C, Hid ((cntR bs 45 (tariffS1 bs s00)).2 = C) := ⟨_, rfl⟩
  rw [unhide HC1] at hM1
  have hM2 := cnt_all bs 8 bandK (tariffS2 bs s00)
  obtain ⟨C2, HC2⟩ : ∃ C, Hid ((cntR bs 8 (tariffS2 bs s00)).2 = C) := ⟨_, rfl⟩
  rw [unhide HC2] at hM2
  obtain ⟨⟨sa, sb, sc⟩, ⟨sd, se, sf⟩, sg, ⟨e0, e1, e2, e3, e4, e5, e6, e7, e8, e9⟩, sz⟩ := hSH
  have HQ0 : Hid (stepR (s00) (.int .i64 0) (oCount bs (s00).a 200) = (.int .i64 ((tarOf bs s00).st.length : Int), C0)) := hide (by rw [← sa]; exact hM0.1)
  have HN0 : Hid ((rdN bs stationK (tarOf bs s00).st.length C0).1.flatten = stV (tarOf bs s00).st ∧ (rdN bs stationK (tarOf bs s00).st.length C0).2 = tariffS1 bs s00) := hide (by
    have h2 : tariffQ0 bs s00 = rdN bs stationK (tarOf bs s00).st.length C0 := by rw [← sa]; exact hM0.2
    rw [← h2, ← sd]
    exact ⟨rfl, rfl⟩)
  have HQ1 : Hid (stepR (tariffS1 bs s00) (.int .i64 0) (oCount bs (tariffS1 bs s00).a 45) = (.int .i64 ((tarOf bs s00).sp.length : Int), C1)) := hide (by rw [← sb]; exact hM1.1)
  have HN1 : Hid ((rdN bs spanK (tarOf bs s00).sp.length C1).1.flatten = spV (tarOf bs s00).sp ∧ (rdN bs spanK (tarOf bs s00).sp.length C1).2 = tariffS2 bs s00) := hide (by
    have h2 : tariffQ1 bs s00 = rdN bs spanK (tarOf bs s00).sp.length C1 := by rw [← sb]; exact hM1.2
    rw [← h2, ← se]
    exact ⟨rfl, rfl⟩)
  have HQ2 : Hid (stepR (tariffS2 bs s00) (.int .i64 0) (oCount bs (tariffS2 bs s00).a 8) = (.int .i64 ((tarOf bs s00).bd.length : Int), C2)) := hide (by rw [← sc]; exact hM2.1)
  have HN2 : Hid ((rdN bs bandK (tarOf bs s00).bd.length C2).1.flatten = bdV (tarOf bs s00).bd ∧ (rdN bs bandK (tarOf bs s00).bd.length C2).2 = tariffS3 bs s00) := hide (by
    have h2 : tariffQ2 bs s00 = rdN bs bandK (tarOf bs s00).bd.length C2 := by rw [← sc]; exact hM2.2
    rw [← h2, ← sf]
    exact ⟨rfl, rfl⟩)
  have HQ3 : Hid (stepR (tariffS3 bs s00) (.float .f64 0) (oFloat bs (tariffS3 bs s00).a) = (.float .f64 (tarOf bs s00).off, tariffS4 bs s00)) := hide (Prod.ext sg rfl)
  have HV0 : Hid (stepR (tariffS4 bs s00) (.int .i64 0) (oNumber bs (tariffS4 bs s00).a 4) = (.int .i64 (tarOf bs s00).bus, ((Kd.num 4).rd bs (tariffS4 bs s00)).2)) := hide (Prod.ext e0 rfl)
  have HV1 : Hid (stepR (((Kd.num 4).rd bs (tariffS4 bs s00)).2) (.int .i64 0) (oNumber bs (((Kd.num 4).rd bs (tariffS4 bs s00)).2).a 4) = (.int .i64 (tarOf bs s00).busDaily, ((Kd.num 4).rd bs (((Kd.num 4).rd bs (tariffS4 bs s00)).2)).2)) := hide (Prod.ext e1 rfl)
  have HV2 : Hid (stepR (((Kd.num 4).rd bs (((Kd.num 4).rd bs (tariffS4 bs s00)).2)).2) (.int .i64 0) (oNumber bs (((Kd.num 4).rd bs (((Kd.num 4).rd bs (tariffS4 bs s00)).2)).2).a 4) = (.int .i64 (tarOf bs s00).busWeekly, ((Kd.num 4).rd bs (((Kd.num 4).rd bs (((Kd.num 4).rd bs (tariffS4 bs s00)).2)).2)).2)) := hide (Prod.ext e2 rfl)
  have HV3 : Hid (stepR (((Kd.num 4).rd bs (((Kd.num 4).rd bs (((Kd.num 4).rd bs (tariffS4 bs s00)).2)).2)).2) (.int .i64 0) (oNumber bs (((Kd.num 4).rd bs (((Kd.num 4).rd bs (((Kd.num 4).rd bs (tariffS4 bs s00)).2)).2)).2).a 2) = (.int .i64 (tarOf bs s00).hopper, ((Kd.num 2).rd bs (((Kd.num 4).rd bs (((Kd.num 4).rd bs (((Kd.num 4).rd bs (tariffS4 bs s00)).2)).2)).2)).2)) := hide (Prod.ext e3 rfl)
  have HV4 : Hid (stepR (((Kd.num 2).rd bs (((Kd.num 4).rd bs (((Kd.num 4).rd bs (((Kd.num 4).rd bs (tariffS4 bs s00)).2)).2)).2)).2) (.int .i64 0) (oNumber bs (((Kd.num 2).rd bs (((Kd.num 4).rd bs (((Kd.num 4).rd bs (((Kd.num 4).rd bs (tariffS4 bs s00)).2)).2)).2)).2).a 4) = (.int .i64 (tarOf bs s00).most, ((Kd.num 4).rd bs (((Kd.num 2).rd bs (((Kd.num 4).rd bs (((Kd.num 4).rd bs (((Kd.num 4).rd bs (tariffS4 bs s00)).2)).2)).2)).2)).2)) := hide (Prod.ext e4 rfl)
  have HV5 : Hid (stepR (((Kd.num 4).rd bs (((Kd.num 2).rd bs (((Kd.num 4).rd bs (((Kd.num 4).rd bs (((Kd.num 4).rd bs (tariffS4 bs s00)).2)).2)).2)).2)).2) (.int .i64 0) (oNumber bs (((Kd.num 4).rd bs (((Kd.num 2).rd bs (((Kd.num 4).rd bs (((Kd.num 4).rd bs (((Kd.num 4).rd bs (tariffS4 bs s00)).2)).2)).2)).2)).2).a 2) = (.int .i64 (tarOf bs s00).longest, ((Kd.num 2).rd bs (((Kd.num 4).rd bs (((Kd.num 2).rd bs (((Kd.num 4).rd bs (((Kd.num 4).rd bs (((Kd.num 4).rd bs (tariffS4 bs s00)).2)).2)).2)).2)).2)).2)) := hide (Prod.ext e5 rfl)
  have HV6 : Hid (stepR (((Kd.num 2).rd bs (((Kd.num 4).rd bs (((Kd.num 2).rd bs (((Kd.num 4).rd bs (((Kd.num 4).rd bs (((Kd.num 4).rd bs (tariffS4 bs s00)).2)).2)).2)).2)).2)).2) (.int .i64 0) (oNumber bs (((Kd.num 2).rd bs (((Kd.num 4).rd bs (((Kd.num 2).rd bs (((Kd.num 4).rd bs (((Kd.num 4).rd bs (((Kd.num 4).rd bs (tariffS4 bs s00)).2)).2)).2)).2)).2)).2).a 2) = (.int .i64 (tarOf bs s00).change, ((Kd.num 2).rd bs (((Kd.num 2).rd bs (((Kd.num 4).rd bs (((Kd.num 2).rd bs (((Kd.num 4).rd bs (((Kd.num 4).rd bs (((Kd.num 4).rd bs (tariffS4 bs s00)).2)).2)).2)).2)).2)).2)).2)) := hide (Prod.ext e6 rfl)
  have HV7 : Hid (stepR (((Kd.num 2).rd bs (((Kd.num 2).rd bs (((Kd.num 4).rd bs (((Kd.num 2).rd bs (((Kd.num 4).rd bs (((Kd.num 4).rd bs (((Kd.num 4).rd bs (tariffS4 bs s00)).2)).2)).2)).2)).2)).2)).2) (.int .i64 0) (oNumber bs (((Kd.num 2).rd bs (((Kd.num 2).rd bs (((Kd.num 4).rd bs (((Kd.num 2).rd bs (((Kd.num 4).rd bs (((Kd.num 4).rd bs (((Kd.num 4).rd bs (tariffS4 bs s00)).2)).2)).2)).2)).2)).2)).2).a 2) = (.int .i64 (tarOf bs s00).passback, ((Kd.num 2).rd bs (((Kd.num 2).rd bs (((Kd.num 2).rd bs (((Kd.num 4).rd bs (((Kd.num 2).rd bs (((Kd.num 4).rd bs (((Kd.num 4).rd bs (((Kd.num 4).rd bs (tariffS4 bs s00)).2)).2)).2)).2)).2)).2)).2)).2)) := hide (Prod.ext e7 rfl)
  have HV8 : Hid (stepR (((Kd.num 2).rd bs (((Kd.num 2).rd bs (((Kd.num 2).rd bs (((Kd.num 4).rd bs (((Kd.num 2).rd bs (((Kd.num 4).rd bs (((Kd.num 4).rd bs (((Kd.num 4).rd bs (tariffS4 bs s00)).2)).2)).2)).2)).2)).2)).2)).2) (.int .i64 0) (oNumber bs (((Kd.num 2).rd bs (((Kd.num 2).rd bs (((Kd.num 2).rd bs (((Kd.num 4).rd bs (((Kd.num 2).rd bs (((Kd.num 4).rd bs (((Kd.num 4).rd bs (((Kd.num 4).rd bs (tariffS4 bs s00)).2)).2)).2)).2)).2)).2)).2)).2).a 2) = (.int .i64 (tarOf bs s00).delay, ((Kd.num 2).rd bs (((Kd.num 2).rd bs (((Kd.num 2).rd bs (((Kd.num 2).rd bs (((Kd.num 4).rd bs (((Kd.num 2).rd bs (((Kd.num 4).rd bs (((Kd.num 4).rd bs (((Kd.num 4).rd bs (tariffS4 bs s00)).2)).2)).2)).2)).2)).2)).2)).2)).2)) := hide (Prod.ext e8 rfl)
  have HV9 : Hid (stepR (((Kd.num 2).rd bs (((Kd.num 2).rd bs (((Kd.num 2).rd bs (((Kd.num 2).rd bs (((Kd.num 4).rd bs (((Kd.num 2).rd bs (((Kd.num 4).rd bs (((Kd.num 4).rd bs (((Kd.num 4).rd bs (tariffS4 bs s00)).2)).2)).2)).2)).2)).2)).2)).2)).2) (.int .i64 0) (oNumber bs (((Kd.num 2).rd bs (((Kd.num 2).rd bs (((Kd.num 2).rd bs (((Kd.num 2).rd bs (((Kd.num 4).rd bs (((Kd.num 2).rd bs (((Kd.num 4).rd bs (((Kd.num 4).rd bs (((Kd.num 4).rd bs (tariffS4 bs s00)).2)).2)).2)).2)).2)).2)).2)).2)).2).a 4) = (.int .i64 (tarOf bs s00).threshold, ((Kd.num 4).rd bs (((Kd.num 2).rd bs (((Kd.num 2).rd bs (((Kd.num 2).rd bs (((Kd.num 2).rd bs (((Kd.num 4).rd bs (((Kd.num 2).rd bs (((Kd.num 4).rd bs (((Kd.num 4).rd bs (((Kd.num 4).rd bs (tariffS4 bs s00)).2)).2)).2)).2)).2)).2)).2)).2)).2)).2)) := hide (Prod.ext e9 rfl)
  have HE : Hid (tariffS9 bs s00 = ((Kd.num 4).rd bs (((Kd.num 2).rd bs (((Kd.num 2).rd bs (((Kd.num 2).rd bs (((Kd.num 2).rd bs (((Kd.num 4).rd bs (((Kd.num 2).rd bs (((Kd.num 4).rd bs (((Kd.num 4).rd bs (((Kd.num 4).rd bs (tariffS4 bs s00)).2)).2)).2)).2)).2)).2)).2)).2)).2)).2) := hide rfl
  obtain ⟨R, HRe⟩ : ∃ R, Hid (tarRd bs = R) := ⟨_, rfl⟩
  have HR : Hid (R = if (endR (tariffS9 bs s00) bs.length).c ≠ 0 then (tarZ, (endR (tariffS9 bs s00) bs.length).c, (endR (tariffS9 bs s00) bs.length).f) else if rightE (tarOf bs s00) = 0 then (tarOf bs s00, 0, 0) else (tarZ, rightE (tarOf bs s00), -1)) := hide (by rw [← unhide HRe]; rfl)
  have HCL : Hid (Clean (endR (tariffS9 bs s00) bs.length)) := hide (endR_clean (rdL_clean _ (rdL_clean _ (rdL_clean _ (rdL_clean _ (rdL_clean _ (rd_clean (rdM_clean _ _ (rdM_clean _ _ (rdM_clean _ _ clean0))) _)))))) _)
  rw [unhide HRe]
  rw [unhide HE] at HR HCL
  generalize ((Kd.num 4).rd bs (((Kd.num 2).rd bs (((Kd.num 2).rd bs (((Kd.num 2).rd bs (((Kd.num 2).rd bs (((Kd.num 4).rd bs (((Kd.num 2).rd bs (((Kd.num 4).rd bs (((Kd.num 4).rd bs (((Kd.num 4).rd bs (tariffS4 bs s00)).2)).2)).2)).2)).2)).2)).2)).2)).2)).2 = y10 at *
  generalize ((Kd.num 2).rd bs (((Kd.num 2).rd bs (((Kd.num 2).rd bs (((Kd.num 2).rd bs (((Kd.num 4).rd bs (((Kd.num 2).rd bs (((Kd.num 4).rd bs (((Kd.num 4).rd bs (((Kd.num 4).rd bs (tariffS4 bs s00)).2)).2)).2)).2)).2)).2)).2)).2)).2 = y9 at *
  generalize ((Kd.num 2).rd bs (((Kd.num 2).rd bs (((Kd.num 2).rd bs (((Kd.num 4).rd bs (((Kd.num 2).rd bs (((Kd.num 4).rd bs (((Kd.num 4).rd bs (((Kd.num 4).rd bs (tariffS4 bs s00)).2)).2)).2)).2)).2)).2)).2)).2 = y8 at *
  generalize ((Kd.num 2).rd bs (((Kd.num 2).rd bs (((Kd.num 4).rd bs (((Kd.num 2).rd bs (((Kd.num 4).rd bs (((Kd.num 4).rd bs (((Kd.num 4).rd bs (tariffS4 bs s00)).2)).2)).2)).2)).2)).2)).2 = y7 at *
  generalize ((Kd.num 2).rd bs (((Kd.num 4).rd bs (((Kd.num 2).rd bs (((Kd.num 4).rd bs (((Kd.num 4).rd bs (((Kd.num 4).rd bs (tariffS4 bs s00)).2)).2)).2)).2)).2)).2 = y6 at *
  generalize ((Kd.num 4).rd bs (((Kd.num 2).rd bs (((Kd.num 4).rd bs (((Kd.num 4).rd bs (((Kd.num 4).rd bs (tariffS4 bs s00)).2)).2)).2)).2)).2 = y5 at *
  generalize ((Kd.num 2).rd bs (((Kd.num 4).rd bs (((Kd.num 4).rd bs (((Kd.num 4).rd bs (tariffS4 bs s00)).2)).2)).2)).2 = y4 at *
  generalize ((Kd.num 4).rd bs (((Kd.num 4).rd bs (((Kd.num 4).rd bs (tariffS4 bs s00)).2)).2)).2 = y3 at *
  generalize ((Kd.num 4).rd bs (((Kd.num 4).rd bs (tariffS4 bs s00)).2)).2 = y2 at *
  generalize ((Kd.num 4).rd bs (tariffS4 bs s00)).2 = y1 at *
  generalize tariffS4 bs s00 = y0 at *
  generalize tariffS3 bs s00 = S3 at *
  generalize tariffS2 bs s00 = S2 at *
  generalize tariffS1 bs s00 = S1 at *
  have HSZ := hide sz
  generalize tarOf bs s00 = d at *
  clear HE HRe sa sb sc sd se sf sg e0 e1 e2 e3 e4 e5 e6 e7 e8 e9 sz hM0 hM1 hM2 HC0 HC1 HC2
  obtain ⟨z, Hz⟩ : ∃ z, Hid (endR y10 bs.length = z) := ⟨_, rfl⟩
  rw [unhide Hz] at HR HCL
  have HBI := hide hB
  have hn0 := (unhide HSZ).1
  have hn1 := (unhide HSZ).2.1
  have hn2 := (unhide HSZ).2.2.1
  clear hB
  obtain ⟨info0, hi, hzz⟩ := Option.map_eq_some_iff.1 Station_info
  simp only [Prod.mk.injEq] at hzz
  have HI0 := hide (And.intro hi hzz)
  clear hi hzz
  obtain ⟨info1, hi, hzz⟩ := Option.map_eq_some_iff.1 Span_info
  simp only [Prod.mk.injEq] at hzz
  have HI1 := hide (And.intro hi hzz)
  clear hi hzz
  obtain ⟨info2, hi, hzz⟩ := Option.map_eq_some_iff.1 Band_info
  simp only [Prod.mk.injEq] at hzz
  have HI2 := hide (And.intro hi hzz)
  clear hi hzz
  go_enter Tryz.func12, Tryz.ntmps12
  go_wp2_with fail
  obtain ⟨M, HM⟩ : ∃ M, Hid (((((w.alloc (.cells #[.slice none 0 0, .slice none 0 0, .slice none 0 0, .float .f64 0, .int .i64 0, .int .i64 0, .int .i64 0, .int .i64 0, .int .i64 0, .int .i64 0, .int .i64 0, .int .i64 0, .int .i64 0, .int .i64 0] 27)).alloc (.cells #[.int .i64 0, .int .i64 0] 37)).alloc (.cells #[.slice ao bs.length cap, .int .i64 0, .int .i64 0, .int .i64 0, .int .i64 0] 71)).alloc (.cells #[.slice none 0 0, .slice none 0 0, .slice none 0 0, .float .f64 0, .int .i64 0, .int .i64 0, .int .i64 0, .int .i64 0, .int .i64 0, .int .i64 0, .int .i64 0, .int .i64 0, .int .i64 0, .int .i64 0] 27)).heap.size = M) := ⟨_, rfl⟩
  have HX : Hid (XT w ((((w.alloc (.cells #[.slice none 0 0, .slice none 0 0, .slice none 0 0, .float .f64 0, .int .i64 0, .int .i64 0, .int .i64 0, .int .i64 0, .int .i64 0, .int .i64 0, .int .i64 0, .int .i64 0, .int .i64 0, .int .i64 0] 27)).alloc (.cells #[.int .i64 0, .int .i64 0] 37)).alloc (.cells #[.slice ao bs.length cap, .int .i64 0, .int .i64 0, .int .i64 0, .int .i64 0] 71)).alloc (.cells #[.slice none 0 0, .slice none 0 0, .slice none 0 0, .float .f64 0, .int .i64 0, .int .i64 0, .int .i64 0, .int .i64 0, .int .i64 0, .int .i64 0, .int .i64 0, .int .i64 0, .int .i64 0, .int .i64 0] 27)) M (w.heap.size + 1 + 1) w.heap.size (w.heap.size + 1) (w.heap.size + 1 + 1 + 1) ao cap bs s00 #[.slice none 0 0, .slice none 0 0, .slice none 0 0, .float .f64 0, .int .i64 0, .int .i64 0, .int .i64 0, .int .i64 0, .int .i64 0, .int .i64 0, .int .i64 0, .int .i64 0, .int .i64 0, .int .i64 0]) := hide (by
    have hb := (unhide HBI).keep (((Fr.refl (fun _ => False) w).alloc (.cells #[.slice none 0 0, .slice none 0 0, .slice none 0 0, .float .f64 0, .int .i64 0, .int .i64 0, .int .i64 0, .int .i64 0, .int .i64 0, .int .i64 0, .int .i64 0, .int .i64 0, .int .i64 0, .int .i64 0] 27)).alloc (.cells #[.int .i64 0, .int .i64 0] 37))
    have hx := newX _ ao cap bs hb.b hb.le hb.max 71
    have h1 := (((Bx.new w #[.slice none 0 0, .slice none 0 0, .slice none 0 0, .float .f64 0, .int .i64 0, .int .i64 0, .int .i64 0, .int .i64 0, .int .i64 0, .int .i64 0, .int .i64 0, .int .i64 0, .int .i64 0, .int .i64 0] 27).alloc (.cells #[.int .i64 0, .int .i64 0] 37)).alloc (.cells #[.slice ao bs.length cap, .int .i64 0, .int .i64 0, .int .i64 0, .int .i64 0] 71)).alloc (.cells #[.slice none 0 0, .slice none 0 0, .slice none 0 0, .float .f64 0, .int .i64 0, .int .i64 0, .int .i64 0, .int .i64 0, .int .i64 0, .int .i64 0, .int .i64 0, .int .i64 0, .int .i64 0, .int .i64 0] 27)
    have h2 := ((Bx.new (w.alloc (.cells #[.slice none 0 0, .slice none 0 0, .slice none 0 0, .float .f64 0, .int .i64 0, .int .i64 0, .int .i64 0, .int .i64 0, .int .i64 0, .int .i64 0, .int .i64 0, .int .i64 0, .int .i64 0, .int .i64 0] 27)) #[.int .i64 0, .int .i64 0] 37).alloc (.cells #[.slice ao bs.length cap, .int .i64 0, .int .i64 0, .int .i64 0, .int .i64 0] 71)).alloc (.cells #[.slice none 0 0, .slice none 0 0, .slice none 0 0, .float .f64 0, .int .i64 0, .int .i64 0, .int .i64 0, .int .i64 0, .int .i64 0, .int .i64 0, .int .i64 0, .int .i64 0, .int .i64 0, .int .i64 0] 27)
    have h3 := Bx.new (((w.alloc (.cells #[.slice none 0 0, .slice none 0 0, .slice none 0 0, .float .f64 0, .int .i64 0, .int .i64 0, .int .i64 0, .int .i64 0, .int .i64 0, .int .i64 0, .int .i64 0, .int .i64 0, .int .i64 0, .int .i64 0] 27)).alloc (.cells #[.int .i64 0, .int .i64 0] 37)).alloc (.cells #[.slice ao bs.length cap, .int .i64 0, .int .i64 0, .int .i64 0, .int .i64 0] 71)) #[.slice none 0 0, .slice none 0 0, .slice none 0 0, .float .f64 0, .int .i64 0, .int .i64 0, .int .i64 0, .int .i64 0, .int .i64 0, .int .i64 0, .int .i64 0, .int .i64 0, .int .i64 0, .int .i64 0] 27
    have hM := unhide HM
    rw [heap_alloc, heap_alloc, heap_alloc, heap_alloc] at hM
    rw [heap_alloc, heap_alloc] at hx
    rw [heap_alloc] at h2
    rw [heap_alloc, heap_alloc, heap_alloc] at h3
    exact ⟨((((Fr.refl _ w).alloc _).alloc _).alloc _).alloc _, hx.frameT ((Fr.refl (fun _ => False) _).alloc _) (fun t => t) (fun _ _ _ _ t => t), h1, h2, h3, by omega, by rw [heap_alloc, heap_alloc, heap_alloc, heap_alloc]; omega, fun b off e h0 => by
      obtain ⟨b', off', e', hc⟩ := (unhide HBI).b.cell h0
      rw [e'] at e
      injection e with e
      injection e with e1 e2 e3
      subst e1
      exact World.block_lt_of_cell? _ _ (hc 0 h0)⟩)
  generalize ((((w.alloc (.cells #[.slice none 0 0, .slice none 0 0, .slice none 0 0, .float .f64 0, .int .i64 0, .int .i64 0, .int .i64 0, .int .i64 0, .int .i64 0, .int .i64 0, .int .i64 0, .int .i64 0, .int .i64 0, .int .i64 0] 27)).alloc (.cells #[.int .i64 0, .int .i64 0] 37)).alloc (.cells #[.slice ao bs.length cap, .int .i64 0, .int .i64 0, .int .i64 0, .int .i64 0] 71)).alloc (.cells #[.slice none 0 0, .slice none 0 0, .slice none 0 0, .float .f64 0, .int .i64 0, .int .i64 0, .int .i64 0, .int .i64 0, .int .i64 0, .int .i64 0, .int .i64 0, .int .i64 0, .int .i64 0, .int .i64 0] 27)) = w0 at *
  obtain ⟨B, HBb⟩ : ∃ B, Hid (w.heap.size = B) := ⟨_, rfl⟩
  obtain ⟨R1, HR1⟩ : ∃ B, Hid (w.heap.size + 1 = B) := ⟨_, rfl⟩
  obtain ⟨p, Hp⟩ : ∃ B, Hid (w.heap.size + 1 + 1 = B) := ⟨_, rfl⟩
  obtain ⟨Tb, HTb⟩ : ∃ B, Hid (w.heap.size + 1 + 1 + 1 = B) := ⟨_, rfl⟩
  rw [unhide HTb, unhide Hp, unhide HR1, unhide HBb] at HX ⊢
  clear HTb Hp HR1 HBb
  refine (xCount (unhide HX).r 200).mono ?_
  rw [unhide HQ0]
  unfold XDone
  rintro e u0 ⟨rfl, hXA, hF⟩
  have HY0 : Hid (XT w u0 M p B R1 Tb ao cap bs C0 #[.slice none 0 0, .slice none 0 0, .slice none 0 0, .float .f64 0, .int .i64 0, .int .i64 0, .int .i64 0, .int .i64 0, .int .i64 0, .int .i64 0, .int .i64 0, .int .i64 0, .int .i64 0, .int .i64 0]) := hide ((unhide HX).read hXA hF)
  clear hXA hF HX
  have HL : Hid (LS w u0 u0 M p B R1 Tb ao cap bs C0 #[.slice none 0 0, .slice none 0 0, .slice none 0 0, .float .f64 0, .int .i64 0, .int .i64 0, .int .i64 0, .int .i64 0, .int .i64 0, .int .i64 0, .int .i64 0, .int .i64 0, .int .i64 0, .int .i64 0] none 0 0 3 []) := hide ⟨(unhide HY0), KL.noneT _ _ _ _, Fr.refl _ _, (unhide HY0).sz⟩
  go_wp2
  go_loopw [7, 8] (fun iv _ wr => ∃ i : Nat, i ≤ d.st.length ∧ iv = .int .i64 i ∧ ∃ la lc gl, Hid (LS w u0 wr M p B R1 Tb ao cap bs (rdN bs stationK i C0).2 #[.slice la i lc, .slice none 0 0, .slice none 0 0, .float .f64 0, .int .i64 0, .int .i64 0, .int .i64 0, .int .i64 0, .int .i64 0, .int .i64 0, .int .i64 0, .int .i64 0, .int .i64 0, .int .i64 0] la lc gl 3 (rdN bs stationK i C0).1.flatten)) (fun iv _ _ => d.st.length - (intOf iv).toNat)
  case atStart => exact ⟨0, Nat.zero_le _, rfl, none, 0, 0, unhide HL⟩
  case round =>
    clear HL
    obtain ⟨i, hi', rfl, la, lc, gl, HS⟩ := hrel
    obtain ⟨wa, rfl⟩ : ∃ wa, wa = wr := ⟨_, rfl⟩
    by_cases hlt : i < d.st.length
    · obtain ⟨s1, Hs1⟩ : ∃ s1, Hid (rdN bs stationK i C0 = s1) := ⟨_, rfl⟩
      have HLE : Hid (s1.1.flatten.length = i * 3) := hide (by
        rw [← unhide Hs1, flat_len _ 3, rdN_length]
        intro l hl
        obtain ⟨s', rfl⟩ := rdN_mem _ _ _ _ l hl
        rw [rdL_length]
        rfl)
      rw [unhide Hs1] at HS
      obtain ⟨r0, Hr0⟩ : ∃ r, Hid ((Kd.num 2).rd bs s1.2 = r) := ⟨_, rfl⟩
      obtain ⟨r1, Hr1⟩ : ∃ r, Hid ((Kd.num 1).rd bs r0.2 = r) := ⟨_, rfl⟩
      obtain ⟨r2, Hr2⟩ : ∃ r, Hid ((Kd.num 2).rd bs r1.2 = r) := ⟨_, rfl⟩
      obtain ⟨v0, hv0⟩ := rd_num bs (.num 2) s1.2 (Or.inl ⟨_, rfl⟩)
      obtain ⟨v1, hv1⟩ := rd_num bs (.num 1) r0.2 (Or.inl ⟨_, rfl⟩)
      obtain ⟨v2, hv2⟩ := rd_num bs (.num 2) r1.2 (Or.inl ⟨_, rfl⟩)
      rw [unhide Hr0] at hv0
      rw [unhide Hr1] at hv1
      rw [unhide Hr2] at hv2
      have HNX : Hid ((rdN bs stationK (i + 1) C0).1.flatten = s1.1.flatten ++ [.int .i64 v0, .int .i64 v1, .int .i64 v2] ∧ (rdN bs stationK (i + 1) C0).2 = r2.2) := hide (by
        have e : rdL bs stationK s1.2 = ([r0.1, r1.1, r2.1], r2.2) := by
          simp only [rdL, unhide Hr0, unhide Hr1, unhide Hr2]
        rw [rdN_snoc, unhide Hs1, e, hv0, hv1, hv2]
        simp)
      have HS0 : Hid (LS w u0 (wa.alloc (.cells #[.int .i64 0, .int .i64 0, .int .i64 0] 42)) M p B R1 Tb ao cap bs s1.2 #[.slice la i lc, .slice none 0 0, .slice none 0 0, .float .f64 0, .int .i64 0, .int .i64 0, .int .i64 0, .int .i64 0, .int .i64 0, .int .i64 0, .int .i64 0, .int .i64 0, .int .i64 0, .int .i64 0] la lc gl 3 s1.1.flatten ∧ Bx (wa.alloc (.cells #[.int .i64 0, .int .i64 0, .int .i64 0] 42)) wa.heap.size #[.int .i64 0, .int .i64 0, .int .i64 0] 42) := hide ⟨(unhide HS).keep (by omega) ((Fr.refl (fun _ => False) wa).alloc _), Bx.new _ _ _⟩
      have HO : Hid (u0.heap.size ≤ wa.heap.size ∧ p < wa.heap.size ∧ Tb < wa.heap.size ∧ (0 < lc → gl < wa.heap.size)) := hide ⟨(unhide HS).fr.size, (unhide HS).x.r.lt, (unhide HS).x.t.lt, fun hc => (unhide HS).l.row.lt (by omega) hc⟩
      clear HS
      go_wp2_with fail
      generalize wa.alloc (.cells #[.int .i64 0, .int .i64 0, .int .i64 0] 42) = x0 at *
      generalize wa.heap.size = O at *
      refine (xNumber (unhide HS0).1.x.r 2).mono ?_
      rw [show stepR s1.2 (.int .i64 0) (oNumber bs s1.2.a 2) = r0 from unhide Hr0]
      unfold XDone
      rw [hv0]
      rintro e n0 ⟨rfl, hXA, hF⟩
      have HS1 : Hid (LS w u0 (n0.setCell ⟨O, 0, none⟩ (.int .i64 v0)) M p B R1 Tb ao cap bs r0.2 #[.slice la i lc, .slice none 0 0, .slice none 0 0, .float .f64 0, .int .i64 0, .int .i64 0, .int .i64 0, .int .i64 0, .int .i64 0, .int .i64 0, .int .i64 0, .int .i64 0, .int .i64 0, .int .i64 0] la lc gl 3 s1.1.flatten ∧ Bx (n0.setCell ⟨O, 0, none⟩ (.int .i64 v0)) O #[.int .i64 v0, .int .i64 0, .int .i64 0] 42) := hide (by
        obtain ⟨k1, k2⟩ := unhide HS0
        obtain ⟨o1, o2, o3, o4⟩ := unhide HO
        exact ⟨(k1.read (by omega) hXA hF).setO (by omega) o1 o4 _ _, (k2.frame hF (fun t => by omega)).setCell 0 _⟩)
      have c' : n0.cell? ⟨O, 0, none⟩ = some (.int .i64 0) := ((unhide HS0).2.frame hF (fun t => by have := unhide HO; omega)).cell 0
      have f' : n0.frozen? ⟨O, 0, none⟩ = false := ((unhide HS0).2.frame hF (fun t => by have := unhide HO; omega)).frozen 0
      clear hXA hF HS0
      go_wp2_with fail
      clear c' f'
      generalize n0.setCell ⟨O, 0, none⟩ (.int .i64 v0) = x1 at *
      refine (xNumber (unhide HS1).1.x.r 1).mono ?_
      rw [show stepR r0.2 (.int .i64 0) (oNumber bs r0.2.a 1) = r1 from unhide Hr1]
      unfold XDone
      rw [hv1]
      rintro e n1 ⟨rfl, hXA, hF⟩
      have HS2 : Hid (LS w u0 (n1.setCell ⟨O, 1, none⟩ (.int .i64 v1)) M p B R1 Tb ao cap bs r1.2 #[.slice la i lc, .slice none 0 0, .slice none 0 0, .float .f64 0, .int .i64 0, .int .i64 0, .int .i64 0, .int .i64 0, .int .i64 0, .int .i64 0, .int .i64 0, .int .i64 0, .int .i64 0, .int .i64 0] la lc gl 3 s1.1.flatten ∧ Bx (n1.setCell ⟨O, 1, none⟩ (.int .i64 v1)) O #[.int .i64 v0, .int .i64 v1, .int .i64 0] 42) := hide (by
        obtain ⟨k1, k2⟩ := unhide HS1
        obtain ⟨o1, o2, o3, o4⟩ := unhide HO
        exact ⟨(k1.read (by omega) hXA hF).setO (by omega) o1 o4 _ _, (k2.frame hF (fun t => by omega)).setCell 1 _⟩)
      have c' : n1.cell? ⟨O, 1, none⟩ = some (.int .i64 0) := ((unhide HS1).2.frame hF (fun t => by have := unhide HO; omega)).cell 1
      have f' : n1.frozen? ⟨O, 1, none⟩ = false := ((unhide HS1).2.frame hF (fun t => by have := unhide HO; omega)).frozen 1
      clear hXA hF HS1
      go_wp2_with fail
      clear c' f'
      generalize n1.setCell ⟨O, 1, none⟩ (.int .i64 v1) = x2 at *
      refine (xNumber (unhide HS2).1.x.r 2).mono ?_
      rw [show stepR r1.2 (.int .i64 0) (oNumber bs r1.2.a 2) = r2 from unhide Hr2]
      unfold XDone
      rw [hv2]
      rintro e n2 ⟨rfl, hXA, hF⟩
      have HS3 : Hid (LS w u0 (n2.setCell ⟨O, 2, none⟩ (.int .i64 v2)) M p B R1 Tb ao cap bs r2.2 #[.slice la i lc, .slice none 0 0, .slice none 0 0, .float .f64 0, .int .i64 0, .int .i64 0, .int .i64 0, .int .i64 0, .int .i64 0, .int .i64 0, .int .i64 0, .int .i64 0, .int .i64 0, .int .i64 0] la lc gl 3 s1.1.flatten ∧ Bx (n2.setCell ⟨O, 2, none⟩ (.int .i64 v2)) O #[.int .i64 v0, .int .i64 v1, .int .i64 v2] 42) := hide (by
        obtain ⟨k1, k2⟩ := unhide HS2
        obtain ⟨o1, o2, o3, o4⟩ := unhide HO
        exact ⟨(k1.read (by omega) hXA hF).setO (by omega) o1 o4 _ _, (k2.frame hF (fun t => by omega)).setCell 2 _⟩)
      have c' : n2.cell? ⟨O, 2, none⟩ = some (.int .i64 0) := ((unhide HS2).2.frame hF (fun t => by have := unhide HO; omega)).cell 2
      have f' : n2.frozen? ⟨O, 2, none⟩ = false := ((unhide HS2).2.frame hF (fun t => by have := unhide HO; omega)).frozen 2
      clear hXA hF HS2
      go_upto_region 11 with (fail)
      clear c' f'
      generalize n2.setCell ⟨O, 2, none⟩ (.int .i64 v2) = x3 at *
      have b0 : x3.cell? ⟨O, 0, none⟩ = some (.int .i64 v0) := (unhide HS3).2.cell 0
      have b1 : x3.cell? ⟨O, 1, none⟩ = some (.int .i64 v1) := (unhide HS3).2.cell 1
      have b2 : x3.cell? ⟨O, 2, none⟩ = some (.int .i64 v2) := (unhide HS3).2.cell 2
      have tb : x3.cell? ⟨Tb, 0, none⟩ = some (.slice la i lc) := (unhide HS3).1.x.t.cell 0
      have HS9 := hide ((unhide HS3).1.keep (by omega) ((Fr.refl (fun _ => False) x3).alloc (.cells #[.int .i64 v0, .int .i64 v1, .int .i64 v2] 42)))
      have HSR := hide (src_one (P := Tryz.prog) x3 [.int .i64 v0, .int .i64 v1, .int .i64 v2] 22 42 3 Tryz.underlying22 rfl (fun u hu => by simp only [List.mem_cons, List.not_mem_nil, or_false] at hu; rcases hu with rfl | rfl | rfl <;> rfl) (W := x3.alloc (.cells #[.int .i64 v0, .int .i64 v1, .int .i64 v2] 42)) (fun j => by rw [World.cell?_alloc_new]; simp))
      clear hv0 hv1 hv2
      go_wp2_with (at_builtin; refine wpList_append_krow _ rfl (.tmp 37) (.tmp 39) 22 22 rfl 42 info0 _ 3 (by omega) Tryz.underlying22 (unhide HI0).1 (unhide HI0).2.1 rfl (unhide HI0).2.2.1 rfl (unhide HS9).l.row (unhide HLE) _ _ 1 rfl (unhide HSR) (by rw [(unhide HI0).2.2.2]; omega) (by omega) ?_)
      intro la' lc' w3 gl' hK hG
      have HL3 : Hid (LS w u0 w3 M p B R1 Tb ao cap bs (rdN bs stationK (i + 1) C0).2 #[.slice la i lc, .slice none 0 0, .slice none 0 0, .float .f64 0, .int .i64 0, .int .i64 0, .int .i64 0, .int .i64 0, .int .i64 0, .int .i64 0, .int .i64 0, .int .i64 0, .int .i64 0, .int .i64 0] la' lc' gl' 3 (rdN bs stationK (i + 1) C0).1.flatten) := hide (by
        rw [(unhide HNX).1, (unhide HNX).2]
        exact (unhide HS9).app hK hG)
      have HL4 : Hid (LS w u0 (w3.setCell ⟨Tb, 0, none⟩ (.slice la' (i + 1) lc')) M p B R1 Tb ao cap bs (rdN bs stationK (i + 1) C0).2 #[.slice la' (i + 1) lc', .slice none 0 0, .slice none 0 0, .float .f64 0, .int .i64 0, .int .i64 0, .int .i64 0, .int .i64 0, .int .i64 0, .int .i64 0, .int .i64 0, .int .i64 0, .int .i64 0, .int .i64 0] la' lc' gl' 3 (rdN bs stationK (i + 1) C0).1.flatten) := hide ((unhide HL3).put (by omega) 0 _)
      have tc' : w3.cell? ⟨Tb, 0, none⟩ = some (.slice la i lc) := (unhide HL3).x.t.cell 0
      have tf' : w3.frozen? ⟨Tb, 0, none⟩ = false := (unhide HL3).x.t.frozen 0
      clear hK hG HS9 HSR HS3 b0 b1 b2 tb HL3
      go_wp2
      exact ⟨⟨i + 1, by omega, by go_num, la', lc', gl', unhide HL4⟩, by simp [intOf]; omega⟩
    · obtain rfl : i = d.st.length := by omega
      rw [(unhide HN0).1, (unhide HN0).2] at HS
      obtain ⟨a0, ha⟩ : ∃ x, x = la := ⟨_, rfl⟩
      obtain ⟨c0, hc'⟩ : ∃ x, x = lc := ⟨_, rfl⟩
      obtain ⟨g0, hg'⟩ : ∃ x, x = gl := ⟨_, rfl⟩
      subst ha hc' hg'
      have HW0 : Hid (w0.heap.size = M) := HM
      have HX : Hid (XT w wa M p B R1 Tb ao cap bs S1 #[.slice a0 d.st.length c0, .slice none 0 0, .slice none 0 0, .float .f64 0, .int .i64 0, .int .i64 0, .int .i64 0, .int .i64 0, .int .i64 0, .int .i64 0, .int .i64 0, .int .i64 0, .int .i64 0, .int .i64 0] ∧ KL w0 wa a0 c0 g0 3 (stV d.st) ∧ (0 < c0 → g0 < wa.heap.size)) := hide ⟨(unhide HS).x, (unhide HS).l.later (by have := (unhide HS).mj; have := unhide HW0; omega), fun hc => (unhide HS).l.row.lt (by omega) hc⟩
      clear HS hlt hi'
      obtain ⟨wb0, hw⟩ : ∃ v, v = wa := ⟨_, rfl⟩
      subst hw
      go_wp2_with fail
      refine (xCount (unhide HX).1.r 45).mono ?_
      rw [unhide HQ1]
      unfold XDone
      rintro e u1 ⟨rfl, hXA, hF⟩
      have HY1 : Hid (XT w u1 M p B R1 Tb ao cap bs C1 #[.slice a0 d.st.length c0, .slice none 0 0, .slice none 0 0, .float .f64 0, .int .i64 0, .int .i64 0, .int .i64 0, .int .i64 0, .int .i64 0, .int .i64 0, .int .i64 0, .int .i64 0, .int .i64 0, .int .i64 0] ∧ KL w0 u1 a0 c0 g0 3 (stV d.st) ∧ (0 < c0 → g0 < u1.heap.size)) := hide ⟨(unhide HX).1.read hXA hF, (unhide HX).2.1.goT (by omega) hF (fun q hq => by have : q = p := hq; have := (unhide HX).1.lt; have := (unhide HW0); omega), fun hc => Nat.lt_of_lt_of_le ((unhide HX).2.2 hc) hF.size⟩
      clear hXA hF HX
      have HL : Hid (LS w u1 u1 M p B R1 Tb ao cap bs C1 #[.slice a0 d.st.length c0, .slice none 0 0, .slice none 0 0, .float .f64 0, .int .i64 0, .int .i64 0, .int .i64 0, .int .i64 0, .int .i64 0, .int .i64 0, .int .i64 0, .int .i64 0, .int .i64 0, .int .i64 0] none 0 0 5 []) := hide ⟨(unhide HY1).1, KL.noneT _ _ _ _, Fr.refl _ _, (unhide HY1).1.sz⟩
      go_wp2
      go_loopw [9, 10] (fun iv _ wr => ∃ i : Nat, i ≤ d.sp.length ∧ iv = .int .i64 i ∧ ∃ la lc gl, Hid (LS w u1 wr M p B R1 Tb ao cap bs (rdN bs spanK i C1).2 #[.slice a0 d.st.length c0, .slice la i lc, .slice none 0 0, .float .f64 0, .int .i64 0, .int .i64 0, .int .i64 0, .int .i64 0, .int .i64 0, .int .i64 0, .int .i64 0, .int .i64 0, .int .i64 0, .int .i64 0] la lc gl 5 (rdN bs spanK i C1).1.flatten)) (fun iv _ _ => d.sp.length - (intOf iv).toNat)
      case atStart => exact ⟨0, Nat.zero_le _, rfl, none, 0, 0, unhide HL⟩
      case round =>
        clear HL
        obtain ⟨i, hi', rfl, la, lc, gl, HS⟩ := hrel
        obtain ⟨wa, rfl⟩ : ∃ wa, wa = wr := ⟨_, rfl⟩
        by_cases hlt : i < d.sp.length
        · obtain ⟨s1, Hs1⟩ : ∃ s1, Hid (rdN bs spanK i C1 = s1) := ⟨_, rfl⟩
          have HLE : Hid (s1.1.flatten.length = i * 5) := hide (by
            rw [← unhide Hs1, flat_len _ 5, rdN_length]
            intro l hl
            obtain ⟨s', rfl⟩ := rdN_mem _ _ _ _ l hl
            rw [rdL_length]
            rfl)
          rw [unhide Hs1] at HS
          obtain ⟨r0, Hr0⟩ : ∃ r, Hid ((Kd.num 1).rd bs s1.2 = r) := ⟨_, rfl⟩
          obtain ⟨r1, Hr1⟩ : ∃ r, Hid ((Kd.num 1).rd bs r0.2 = r) := ⟨_, rfl⟩
          obtain ⟨r2, Hr2⟩ : ∃ r, Hid ((Kd.num 4).rd bs r1.2 = r) := ⟨_, rfl⟩
          obtain ⟨r3, Hr3⟩ : ∃ r, Hid ((Kd.num 4).rd bs r2.2 = r) := ⟨_, rfl⟩
          obtain ⟨r4, Hr4⟩ : ∃ r, Hid ((Kd.num 4).rd bs r3.2 = r) := ⟨_, rfl⟩
          obtain ⟨v0, hv0⟩ := rd_num bs (.num 1) s1.2 (Or.inl ⟨_, rfl⟩)
          obtain ⟨v1, hv1⟩ := rd_num bs (.num 1) r0.2 (Or.inl ⟨_, rfl⟩)
          obtain ⟨v2, hv2⟩ := rd_num bs (.num 4) r1.2 (Or.inl ⟨_, rfl⟩)
          obtain ⟨v3, hv3⟩ := rd_num bs (.num 4) r2.2 (Or.inl ⟨_, rfl⟩)
          obtain ⟨v4, hv4⟩ := rd_num bs (.num 4) r3.2 (Or.inl ⟨_, rfl⟩)
          rw [unhide Hr0] at hv0
          rw [unhide Hr1] at hv1
          rw [unhide Hr2] at hv2
          rw [unhide Hr3] at hv3
          rw [unhide Hr4] at hv4
          have HNX : Hid ((rdN bs spanK (i + 1) C1).1.flatten = s1.1.flatten ++ [.int .i64 v0, .int .i64 v1, .int .i64 v2, .int .i64 v3, .int .i64 v4] ∧ (rdN bs spanK (i + 1) C1).2 = r4.2) := hide (by
            have e : rdL bs spanK s1.2 = ([r0.1, r1.1, r2.1, r3.1, r4.1], r4.2) := by
              simp only [rdL, unhide Hr0, unhide Hr1, unhide Hr2, unhide Hr3, unhide Hr4]
            rw [rdN_snoc, unhide Hs1, e, hv0, hv1, hv2, hv3, hv4]
            simp)
          have HS0 : Hid (LS w u1 (wa.alloc (.cells #[.int .i64 0, .int .i64 0, .int .i64 0, .int .i64 0, .int .i64 0] 44)) M p B R1 Tb ao cap bs s1.2 #[.slice a0 d.st.length c0, .slice la i lc, .slice none 0 0, .float .f64 0, .int .i64 0, .int .i64 0, .int .i64 0, .int .i64 0, .int .i64 0, .int .i64 0, .int .i64 0, .int .i64 0, .int .i64 0, .int .i64 0] la lc gl 5 s1.1.flatten ∧ Bx (wa.alloc (.cells #[.int .i64 0, .int .i64 0, .int .i64 0, .int .i64 0, .int .i64 0] 44)) wa.heap.size #[.int .i64 0, .int .i64 0, .int .i64 0, .int .i64 0, .int .i64 0] 44) := hide ⟨(unhide HS).keep (by omega) ((Fr.refl (fun _ => False) wa).alloc _), Bx.new _ _ _⟩
          have HO : Hid (u1.heap.size ≤ wa.heap.size ∧ p < wa.heap.size ∧ Tb < wa.heap.size ∧ (0 < lc → gl < wa.heap.size)) := hide ⟨(unhide HS).fr.size, (unhide HS).x.r.lt, (unhide HS).x.t.lt, fun hc => (unhide HS).l.row.lt (by omega) hc⟩
          clear HS
          go_wp2_with fail
          generalize wa.alloc (.cells #[.int .i64 0, .int .i64 0, .int .i64 0, .int .i64 0, .int .i64 0] 44) = x0 at *
          generalize wa.heap.size = O at *
          refine (xNumber (unhide HS0).1.x.r 1).mono ?_
          rw [show stepR s1.2 (.int .i64 0) (oNumber bs s1.2.a 1) = r0 from unhide Hr0]
          unfold XDone
          rw [hv0]
          rintro e n0 ⟨rfl, hXA, hF⟩
          have HS1 : Hid (LS w u1 (n0.setCell ⟨O, 0, none⟩ (.int .i64 v0)) M p B R1 Tb ao cap bs r0.2 #[.slice a0 d.st.length c0, .slice la i lc, .slice none 0 0, .float .f64 0, .int .i64 0, .int .i64 0, .int .i64 0, .int .i64 0, .int .i64 0, .int .i64 0, .int .i64 0, .int .i64 0, .int .i64 0, .int .i64 0] la lc gl 5 s1.1.flatten ∧ Bx (n0.setCell ⟨O, 0, none⟩ (.int .i64 v0)) O #[.int .i64 v0, .int .i64 0, .int .i64 0, .int .i64 0, .int .i64 0] 44) := hide (by
            obtain ⟨k1, k2⟩ := unhide HS0
            obtain ⟨o1, o2, o3, o4⟩ := unhide HO
            exact ⟨(k1.read (by omega) hXA hF).setO (by omega) o1 o4 _ _, (k2.frame hF (fun t => by omega)).setCell 0 _⟩)
          have c' : n0.cell? ⟨O, 0, none⟩ = some (.int .i64 0) := ((unhide HS0).2.frame hF (fun t => by have := unhide HO; omega)).cell 0
          have f' : n0.frozen? ⟨O, 0, none⟩ = false := ((unhide HS0).2.frame hF (fun t => by have := unhide HO; omega)).frozen 0
          clear hXA hF HS0
          go_wp2_with fail
          clear c' f'
          generalize n0.setCell ⟨O, 0, none⟩ (.int .i64 v0) = x1 at *
          refine (xNumber (unhide HS1).1.x.r 1).mono ?_
          rw [show stepR r0.2 (.int .i64 0) (oNumber bs r0.2.a 1) = r1 from unhide Hr1]
          unfold XDone
          rw [hv1]
          rintro e n1 ⟨rfl, hXA, hF⟩
          have HS2 : Hid (LS w u1 (n1.setCell ⟨O, 1, none⟩ (.int .i64 v1)) M p B R1 Tb ao cap bs r1.2 #[.slice a0 d.st.length c0, .slice la i lc, .slice none 0 0, .float .f64 0, .int .i64 0, .int .i64 0, .int .i64 0, .int .i64 0, .int .i64 0, .int .i64 0, .int .i64 0, .int .i64 0, .int .i64 0, .int .i64 0] la lc gl 5 s1.1.flatten ∧ Bx (n1.setCell ⟨O, 1, none⟩ (.int .i64 v1)) O #[.int .i64 v0, .int .i64 v1, .int .i64 0, .int .i64 0, .int .i64 0] 44) := hide (by
            obtain ⟨k1, k2⟩ := unhide HS1
            obtain ⟨o1, o2, o3, o4⟩ := unhide HO
            exact ⟨(k1.read (by omega) hXA hF).setO (by omega) o1 o4 _ _, (k2.frame hF (fun t => by omega)).setCell 1 _⟩)
          have c' : n1.cell? ⟨O, 1, none⟩ = some (.int .i64 0) := ((unhide HS1).2.frame hF (fun t => by have := unhide HO; omega)).cell 1
          have f' : n1.frozen? ⟨O, 1, none⟩ = false := ((unhide HS1).2.frame hF (fun t => by have := unhide HO; omega)).frozen 1
          clear hXA hF HS1
          go_wp2_with fail
          clear c' f'
          generalize n1.setCell ⟨O, 1, none⟩ (.int .i64 v1) = x2 at *
          refine (xNumber (unhide HS2).1.x.r 4).mono ?_
          rw [show stepR r1.2 (.int .i64 0) (oNumber bs r1.2.a 4) = r2 from unhide Hr2]
          unfold XDone
          rw [hv2]
          rintro e n2 ⟨rfl, hXA, hF⟩
          have HS3 : Hid (LS w u1 (n2.setCell ⟨O, 2, none⟩ (.int .i64 v2)) M p B R1 Tb ao cap bs r2.2 #[.slice a0 d.st.length c0, .slice la i lc, .slice none 0 0, .float .f64 0, .int .i64 0, .int .i64 0, .int .i64 0, .int .i64 0, .int .i64 0, .int .i64 0, .int .i64 0, .int .i64 0, .int .i64 0, .int .i64 0] la lc gl 5 s1.1.flatten ∧ Bx (n2.setCell ⟨O, 2, none⟩ (.int .i64 v2)) O #[.int .i64 v0, .int .i64 v1, .int .i64 v2, .int .i64 0, .int .i64 0] 44) := hide (by
            obtain ⟨k1, k2⟩ := unhide HS2
            obtain ⟨o1, o2, o3, o4⟩ := unhide HO
            exact ⟨(k1.read (by omega) hXA hF).setO (by omega) o1 o4 _ _, (k2.frame hF (fun t => by omega)).setCell 2 _⟩)
          have c' : n2.cell? ⟨O, 2, none⟩ = some (.int .i64 0) := ((unhide HS2).2.frame hF (fun t => by have := unhide HO; omega)).cell 2
          have f' : n2.frozen? ⟨O, 2, none⟩ = false := ((unhide HS2).2.frame hF (fun t => by have := unhide HO; omega)).frozen 2
          clear hXA hF HS2
          go_wp2_with fail
          clear c' f'
          generalize n2.setCell ⟨O, 2, none⟩ (.int .i64 v2) = x3 at *
          refine (xNumber (unhide HS3).1.x.r 4).mono ?_
          rw [show stepR r2.2 (.int .i64 0) (oNumber bs r2.2.a 4) = r3 from unhide Hr3]
          unfold XDone
          rw [hv3]
          rintro e n3 ⟨rfl, hXA, hF⟩
          have HS4 : Hid (LS w u1 (n3.setCell ⟨O, 3, none⟩ (.int .i64 v3)) M p B R1 Tb ao cap bs r3.2 #[.slice a0 d.st.length c0, .slice la i lc, .slice none 0 0, .float .f64 0, .int .i64 0, .int .i64 0, .int .i64 0, .int .i64 0, .int .i64 0, .int .i64 0, .int .i64 0, .int .i64 0, .int .i64 0, .int .i64 0] la lc gl 5 s1.1.flatten ∧ Bx (n3.setCell ⟨O, 3, none⟩ (.int .i64 v3)) O #[.int .i64 v0, .int .i64 v1, .int .i64 v2, .int .i64 v3, .int .i64 0] 44) := hide (by
            obtain ⟨k1, k2⟩ := unhide HS3
            obtain ⟨o1, o2, o3, o4⟩ := unhide HO
            exact ⟨(k1.read (by omega) hXA hF).setO (by omega) o1 o4 _ _, (k2.frame hF (fun t => by omega)).setCell 3 _⟩)
          have c' : n3.cell? ⟨O, 3, none⟩ = some (.int .i64 0) := ((unhide HS3).2.frame hF (fun t => by have := unhide HO; omega)).cell 3
          have f' : n3.frozen? ⟨O, 3, none⟩ = false := ((unhide HS3).2.frame hF (fun t => by have := unhide HO; omega)).frozen 3
          clear hXA hF HS3
          go_wp2_with fail
          clear c' f'
          generalize n3.setCell ⟨O, 3, none⟩ (.int .i64 v3) = x4 at *
          refine (xNumber (unhide HS4).1.x.r 4).mono ?_
          rw [show stepR r3.2 (.int .i64 0) (oNumber bs r3.2.a 4) = r4 from unhide Hr4]
          unfold XDone
          rw [hv4]
          rintro e n4 ⟨rfl, hXA, hF⟩
          have HS5 : Hid (LS w u1 (n4.setCell ⟨O, 4, none⟩ (.int .i64 v4)) M p B R1 Tb ao cap bs r4.2 #[.slice a0 d.st.length c0, .slice la i lc, .slice none 0 0, .float .f64 0, .int .i64 0, .int .i64 0, .int .i64 0, .int .i64 0, .int .i64 0, .int .i64 0, .int .i64 0, .int .i64 0, .int .i64 0, .int .i64 0] la lc gl 5 s1.1.flatten ∧ Bx (n4.setCell ⟨O, 4, none⟩ (.int .i64 v4)) O #[.int .i64 v0, .int .i64 v1, .int .i64 v2, .int .i64 v3, .int .i64 v4] 44) := hide (by
            obtain ⟨k1, k2⟩ := unhide HS4
            obtain ⟨o1, o2, o3, o4⟩ := unhide HO
            exact ⟨(k1.read (by omega) hXA hF).setO (by omega) o1 o4 _ _, (k2.frame hF (fun t => by omega)).setCell 4 _⟩)
          have c' : n4.cell? ⟨O, 4, none⟩ = some (.int .i64 0) := ((unhide HS4).2.frame hF (fun t => by have := unhide HO; omega)).cell 4
          have f' : n4.frozen? ⟨O, 4, none⟩ = false := ((unhide HS4).2.frame hF (fun t => by have := unhide HO; omega)).frozen 4
          clear hXA hF HS4
          go_upto_region 22 with (fail)
          clear c' f'
          generalize n4.setCell ⟨O, 4, none⟩ (.int .i64 v4) = x5 at *
          have b0 : x5.cell? ⟨O, 0, none⟩ = some (.int .i64 v0) := (unhide HS5).2.cell 0
          have b1 : x5.cell? ⟨O, 1, none⟩ = some (.int .i64 v1) := (unhide HS5).2.cell 1
          have b2 : x5.cell? ⟨O, 2, none⟩ = some (.int .i64 v2) := (unhide HS5).2.cell 2
          have b3 : x5.cell? ⟨O, 3, none⟩ = some (.int .i64 v3) := (unhide HS5).2.cell 3
          have b4 : x5.cell? ⟨O, 4, none⟩ = some (.int .i64 v4) := (unhide HS5).2.cell 4
          have tb : x5.cell? ⟨Tb, 1, none⟩ = some (.slice la i lc) := (unhide HS5).1.x.t.cell 1
          have HS9 := hide ((unhide HS5).1.keep (by omega) ((Fr.refl (fun _ => False) x5).alloc (.cells #[.int .i64 v0, .int .i64 v1, .int .i64 v2, .int .i64 v3, .int .i64 v4] 44)))
          have HSR := hide (src_one (P := Tryz.prog) x5 [.int .i64 v0, .int .i64 v1, .int .i64 v2, .int .i64 v3, .int .i64 v4] 23 44 5 Tryz.underlying23 rfl (fun u hu => by simp only [List.mem_cons, List.not_mem_nil, or_false] at hu; rcases hu with rfl | rfl | rfl | rfl | rfl <;> rfl) (W := x5.alloc (.cells #[.int .i64 v0, .int .i64 v1, .int .i64 v2, .int .i64 v3, .int .i64 v4] 44)) (fun j => by rw [World.cell?_alloc_new]; simp))
          clear hv0 hv1 hv2 hv3 hv4
          go_wp2_with (at_builtin; refine wpList_append_krow _ rfl (.tmp 66) (.tmp 68) 23 23 rfl 44 info1 _ 5 (by omega) Tryz.underlying23 (unhide HI1).1 (unhide HI1).2.1 rfl (unhide HI1).2.2.1 rfl (unhide HS9).l.row (unhide HLE) _ _ 1 rfl (unhide HSR) (by rw [(unhide HI1).2.2.2]; omega) (by omega) ?_)
          intro la' lc' w3 gl' hK hG
          have HL3 : Hid (LS w u1 w3 M p B R1 Tb ao cap bs (rdN bs spanK (i + 1) C1).2 #[.slice a0 d.st.length c0, .slice la i lc, .slice none 0 0, .float .f64 0, .int .i64 0, .int .i64 0, .int .i64 0, .int .i64 0, .int .i64 0, .int .i64 0, .int .i64 0, .int .i64 0, .int .i64 0, .int .i64 0] la' lc' gl' 5 (rdN bs spanK (i + 1) C1).1.flatten) := hide (by
            rw [(unhide HNX).1, (unhide HNX).2]
            exact (unhide HS9).app hK hG)
          have HL4 : Hid (LS w u1 (w3.setCell ⟨Tb, 1, none⟩ (.slice la' (i + 1) lc')) M p B R1 Tb ao cap bs (rdN bs spanK (i + 1) C1).2 #[.slice a0 d.st.length c0, .slice la' (i + 1) lc', .slice none 0 0, .float .f64 0, .int .i64 0, .int .i64 0, .int .i64 0, .int .i64 0, .int .i64 0, .int .i64 0, .int .i64 0, .int .i64 0, .int .i64 0, .int .i64 0] la' lc' gl' 5 (rdN bs spanK (i + 1) C1).1.flatten) := hide ((unhide HL3).put (by omega) 1 _)
          have tc' : w3.cell? ⟨Tb, 1, none⟩ = some (.slice la i lc) := (unhide HL3).x.t.cell 1
          have tf' : w3.frozen? ⟨Tb, 1, none⟩ = false := (unhide HL3).x.t.frozen 1
          clear hK hG HS9 HSR HS5 b0 b1 b2 b3 b4 tb HL3
          go_wp2
          exact ⟨⟨i + 1, by omega, by go_num, la', lc', gl', unhide HL4⟩, by simp [intOf]; omega⟩
        · obtain rfl : i = d.sp.length := by omega
          rw [(unhide HN1).1, (unhide HN1).2] at HS
          obtain ⟨a1, ha⟩ : ∃ x, x = la := ⟨_, rfl⟩
          obtain ⟨c1, hc'⟩ : ∃ x, x = lc := ⟨_, rfl⟩
          obtain ⟨g1, hg'⟩ : ∃ x, x = gl := ⟨_, rfl⟩
          subst ha hc' hg'
          have HX : Hid (XT w wa M p B R1 Tb ao cap bs S2 #[.slice a0 d.st.length c0, .slice a1 d.sp.length c1, .slice none 0 0, .float .f64 0, .int .i64 0, .int .i64 0, .int .i64 0, .int .i64 0, .int .i64 0, .int .i64 0, .int .i64 0, .int .i64 0, .int .i64 0, .int .i64 0] ∧ KL w0 wa a0 c0 g0 3 (stV d.st) ∧ (0 < c0 → g0 < wa.heap.size) ∧ KL w0 wa a1 c1 g1 5 (spV d.sp) ∧ (0 < c1 → g1 < wa.heap.size)) := hide ⟨(unhide HS).x, (unhide HY1).2.1.goT (by omega) (unhide HS).fr (fun q hq => by have := (unhide HS).x.lt; have := unhide HW0; omega), fun hc => Nat.lt_of_lt_of_le ((unhide HY1).2.2 hc) (unhide HS).fr.size, (unhide HS).l.later (by have := (unhide HS).mj; have := unhide HW0; omega), fun hc => (unhide HS).l.row.lt (by omega) hc⟩
          have HNE01 : Hid (0 < c0 → 0 < c1 → g0 ≠ g1) := hide (fun h1 h2 => by have h3 := (unhide HY1).2.2 h1; have h4 := (unhide HS).l.new h2; omega)
          clear HS hlt hi'
          obtain ⟨wb1, hw⟩ : ∃ v, v = wa := ⟨_, rfl⟩
          subst hw
          go_wp2_with fail
          refine (xCount (unhide HX).1.r 8).mono ?_
          rw [unhide HQ2]
          unfold XDone
          rintro e u2 ⟨rfl, hXA, hF⟩
          have HY2 : Hid (XT w u2 M p B R1 Tb ao cap bs C2 #[.slice a0 d.st.length c0, .slice a1 d.sp.length c1, .slice none 0 0, .float .f64 0, .int .i64 0, .int .i64 0, .int .i64 0, .int .i64 0, .int .i64 0, .int .i64 0, .int .i64 0, .int .i64 0, .int .i64 0, .int .i64 0] ∧ KL w0 u2 a0 c0 g0 3 (stV d.st) ∧ (0 < c0 → g0 < u2.heap.size) ∧ KL w0 u2 a1 c1 g1 5 (spV d.sp) ∧ (0 < c1 → g1 < u2.heap.size)) := hide ⟨(unhide HX).1.read hXA hF, (unhide HX).2.1.goT (by omega) hF (fun q hq => by have : q = p := hq; have := (unhide HX).1.lt; have := (unhide HW0); omega), fun hc => Nat.lt_of_lt_of_le ((unhide HX).2.2.1 hc) hF.size, (unhide HX).2.2.2.1.goT (by omega) hF (fun q hq => by have : q = p := hq; have := (unhide HX).1.lt; have := (unhide HW0); omega), fun hc => Nat.lt_of_lt_of_le ((unhide HX).2.2.2.2 hc) hF.size⟩
          clear hXA hF HX
          have HL : Hid (LS w u2 u2 M p B R1 Tb ao cap bs C2 #[.slice a0 d.st.length c0, .slice a1 d.sp.length c1, .slice none 0 0, .float .f64 0, .int .i64 0, .int .i64 0, .int .i64 0, .int .i64 0, .int .i64 0, .int .i64 0, .int .i64 0, .int .i64 0, .int .i64 0, .int .i64 0] none 0 0 2 []) := hide ⟨(unhide HY2).1, KL.noneT _ _ _ _, Fr.refl _ _, (unhide HY2).1.sz⟩
          go_wp2
          go_loopw [11, 12] (fun iv _ wr => ∃ i : Nat, i ≤ d.bd.length ∧ iv = .int .i64 i ∧ ∃ la lc gl, Hid (LS w u2 wr M p B R1 Tb ao cap bs (rdN bs bandK i C2).2 #[.slice a0 d.st.length c0, .slice a1 d.sp.length c1, .slice la i lc, .float .f64 0, .int .i64 0, .int .i64 0, .int .i64 0, .int .i64 0, .int .i64 0, .int .i64 0, .int .i64 0, .int .i64 0, .int .i64 0, .int .i64 0] la lc gl 2 (rdN bs bandK i C2).1.flatten)) (fun iv _ _ => d.bd.length - (intOf iv).toNat)
          case atStart => exact ⟨0, Nat.zero_le _, rfl, none, 0, 0, unhide HL⟩
          case round =>
            clear HL
            obtain ⟨i, hi', rfl, la, lc, gl, HS⟩ := hrel
            obtain ⟨wa, rfl⟩ : ∃ wa, wa = wr := ⟨_, rfl⟩
            by_cases hlt : i < d.bd.length
            · obtain ⟨s1, Hs1⟩ : ∃ s1, Hid (rdN bs bandK i C2 = s1) := ⟨_, rfl⟩
              have HLE : Hid (s1.1.flatten.length = i * 2) := hide (by
                rw [← unhide Hs1, flat_len _ 2, rdN_length]
                intro l hl
                obtain ⟨s', rfl⟩ := rdN_mem _ _ _ _ l hl
                rw [rdL_length]
                rfl)
              rw [unhide Hs1] at HS
              obtain ⟨r0, Hr0⟩ : ∃ r, Hid ((Kd.num 2).rd bs s1.2 = r) := ⟨_, rfl⟩
              obtain ⟨r1, Hr1⟩ : ∃ r, Hid ((Kd.num 2).rd bs r0.2 = r) := ⟨_, rfl⟩
              obtain ⟨v0, hv0⟩ := rd_num bs (.num 2) s1.2 (Or.inl ⟨_, rfl⟩)
              obtain ⟨v1, hv1⟩ := rd_num bs (.num 2) r0.2 (Or.inl ⟨_, rfl⟩)
              rw [unhide Hr0] at hv0
              rw [unhide Hr1] at hv1
              have HNX : Hid ((rdN bs bandK (i + 1) C2).1.flatten = s1.1.flatten ++ [.int .i64 v0, .int .i64 v1] ∧ (rdN bs bandK (i + 1) C2).2 = r1.2) := hide (by
                have e : rdL bs bandK s1.2 = ([r0.1, r1.1], r1.2) := by
                  simp only [rdL, unhide Hr0, unhide Hr1]
                rw [rdN_snoc, unhide Hs1, e, hv0, hv1]
                simp)
              have HS0 : Hid (LS w u2 (wa.alloc (.cells #[.int .i64 0, .int .i64 0] 52)) M p B R1 Tb ao cap bs s1.2 #[.slice a0 d.st.length c0, .slice a1 d.sp.length c1, .slice la i lc, .float .f64 0, .int .i64 0, .int .i64 0, .int .i64 0, .int .i64 0, .int .i64 0, .int .i64 0, .int .i64 0, .int .i64 0, .int .i64 0, .int .i64 0] la lc gl 2 s1.1.flatten ∧ Bx (wa.alloc (.cells #[.int .i64 0, .int .i64 0] 52)) wa.heap.size #[.int .i64 0, .int .i64 0] 52) := hide ⟨(unhide HS).keep (by omega) ((Fr.refl (fun _ => False) wa).alloc _), Bx.new _ _ _⟩
              have HO : Hid (u2.heap.size ≤ wa.heap.size ∧ p < wa.heap.size ∧ Tb < wa.heap.size ∧ (0 < lc → gl < wa.heap.size)) := hide ⟨(unhide HS).fr.size, (unhide HS).x.r.lt, (unhide HS).x.t.lt, fun hc => (unhide HS).l.row.lt (by omega) hc⟩
              clear HS
              go_wp2_with fail
              generalize wa.alloc (.cells #[.int .i64 0, .int .i64 0] 52) = x0 at *
              generalize wa.heap.size = O at *
              refine (xNumber (unhide HS0).1.x.r 2).mono ?_
              rw [show stepR s1.2 (.int .i64 0) (oNumber bs s1.2.a 2) = r0 from unhide Hr0]
              unfold XDone
              rw [hv0]
              rintro e n0 ⟨rfl, hXA, hF⟩
              have HS1 : Hid (LS w u2 (n0.setCell ⟨O, 0, none⟩ (.int .i64 v0)) M p B R1 Tb ao cap bs r0.2 #[.slice a0 d.st.length c0, .slice a1 d.sp.length c1, .slice la i lc, .float .f64 0, .int .i64 0, .int .i64 0, .int .i64 0, .int .i64 0, .int .i64 0, .int .i64 0, .int .i64 0, .int .i64 0, .int .i64 0, .int .i64 0] la lc gl 2 s1.1.flatten ∧ Bx (n0.setCell ⟨O, 0, none⟩ (.int .i64 v0)) O #[.int .i64 v0, .int .i64 0] 52) := hide (by
                obtain ⟨k1, k2⟩ := unhide HS0
                obtain ⟨o1, o2, o3, o4⟩ := unhide HO
                exact ⟨(k1.read (by omega) hXA hF).setO (by omega) o1 o4 _ _, (k2.frame hF (fun t => by omega)).setCell 0 _⟩)
              have c' : n0.cell? ⟨O, 0, none⟩ = some (.int .i64 0) := ((unhide HS0).2.frame hF (fun t => by have := unhide HO; omega)).cell 0
              have f' : n0.frozen? ⟨O, 0, none⟩ = false := ((unhide HS0).2.frame hF (fun t => by have := unhide HO; omega)).frozen 0
              clear hXA hF HS0
              go_wp2_with fail
              clear c' f'
              generalize n0.setCell ⟨O, 0, none⟩ (.int .i64 v0) = x1 at *
              refine (xNumber (unhide HS1).1.x.r 2).mono ?_
              rw [show stepR r0.2 (.int .i64 0) (oNumber bs r0.2.a 2) = r1 from unhide Hr1]
              unfold XDone
              rw [hv1]
              rintro e n1 ⟨rfl, hXA, hF⟩
              have HS2 : Hid (LS w u2 (n1.setCell ⟨O, 1, none⟩ (.int .i64 v1)) M p B R1 Tb ao cap bs r1.2 #[.slice a0 d.st.length c0, .slice a1 d.sp.length c1, .slice la i lc, .float .f64 0, .int .i64 0, .int .i64 0, .int .i64 0, .int .i64 0, .int .i64 0, .int .i64 0, .int .i64 0, .int .i64 0, .int .i64 0, .int .i64 0] la lc gl 2 s1.1.flatten ∧ Bx (n1.setCell ⟨O, 1, none⟩ (.int .i64 v1)) O #[.int .i64 v0, .int .i64 v1] 52) := hide (by
                obtain ⟨k1, k2⟩ := unhide HS1
                obtain ⟨o1, o2, o3, o4⟩ := unhide HO
                exact ⟨(k1.read (by omega) hXA hF).setO (by omega) o1 o4 _ _, (k2.frame hF (fun t => by omega)).setCell 1 _⟩)
              have c' : n1.cell? ⟨O, 1, none⟩ = some (.int .i64 0) := ((unhide HS1).2.frame hF (fun t => by have := unhide HO; omega)).cell 1
              have f' : n1.frozen? ⟨O, 1, none⟩ = false := ((unhide HS1).2.frame hF (fun t => by have := unhide HO; omega)).frozen 1
              clear hXA hF HS1
              go_upto_region 30 with (fail)
              clear c' f'
              generalize n1.setCell ⟨O, 1, none⟩ (.int .i64 v1) = x2 at *
              have b0 : x2.cell? ⟨O, 0, none⟩ = some (.int .i64 v0) := (unhide HS2).2.cell 0
              have b1 : x2.cell? ⟨O, 1, none⟩ = some (.int .i64 v1) := (unhide HS2).2.cell 1
              have tb : x2.cell? ⟨Tb, 2, none⟩ = some (.slice la i lc) := (unhide HS2).1.x.t.cell 2
              have HS9 := hide ((unhide HS2).1.keep (by omega) ((Fr.refl (fun _ => False) x2).alloc (.cells #[.int .i64 v0, .int .i64 v1] 52)))
              have HSR := hide (src_one (P := Tryz.prog) x2 [.int .i64 v0, .int .i64 v1] 24 52 2 Tryz.underlying24 rfl (fun u hu => by simp only [List.mem_cons, List.not_mem_nil, or_false] at hu; rcases hu with rfl | rfl <;> rfl) (W := x2.alloc (.cells #[.int .i64 v0, .int .i64 v1] 52)) (fun j => by rw [World.cell?_alloc_new]; simp))
              clear hv0 hv1
              go_wp2_with (at_builtin; refine wpList_append_krow _ rfl (.tmp 86) (.tmp 88) 24 24 rfl 52 info2 _ 2 (by omega) Tryz.underlying24 (unhide HI2).1 (unhide HI2).2.1 rfl (unhide HI2).2.2.1 rfl (unhide HS9).l.row (unhide HLE) _ _ 1 rfl (unhide HSR) (by rw [(unhide HI2).2.2.2]; omega) (by omega) ?_)
              intro la' lc' w3 gl' hK hG
              have HL3 : Hid (LS w u2 w3 M p B R1 Tb ao cap bs (rdN bs bandK (i + 1) C2).2 #[.slice a0 d.st.length c0, .slice a1 d.sp.length c1, .slice la i lc, .float .f64 0, .int .i64 0, .int .i64 0, .int .i64 0, .int .i64 0, .int .i64 0, .int .i64 0, .int .i64 0, .int .i64 0, .int .i64 0, .int .i64 0] la' lc' gl' 2 (rdN bs bandK (i + 1) C2).1.flatten) := hide (by
                rw [(unhide HNX).1, (unhide HNX).2]
                exact (unhide HS9).app hK hG)
              have HL4 : Hid (LS w u2 (w3.setCell ⟨Tb, 2, none⟩ (.slice la' (i + 1) lc')) M p B R1 Tb ao cap bs (rdN bs bandK (i + 1) C2).2 #[.slice a0 d.st.length c0, .slice a1 d.sp.length c1, .slice la' (i + 1) lc', .float .f64 0, .int .i64 0, .int .i64 0, .int .i64 0, .int .i64 0, .int .i64 0, .int .i64 0, .int .i64 0, .int .i64 0, .int .i64 0, .int .i64 0] la' lc' gl' 2 (rdN bs bandK (i + 1) C2).1.flatten) := hide ((unhide HL3).put (by omega) 2 _)
              have tc' : w3.cell? ⟨Tb, 2, none⟩ = some (.slice la i lc) := (unhide HL3).x.t.cell 2
              have tf' : w3.frozen? ⟨Tb, 2, none⟩ = false := (unhide HL3).x.t.frozen 2
              clear hK hG HS9 HSR HS2 b0 b1 tb HL3
              go_wp2
              exact ⟨⟨i + 1, by omega, by go_num, la', lc', gl', unhide HL4⟩, by simp [intOf]; omega⟩
            · obtain rfl : i = d.bd.length := by omega
              rw [(unhide HN2).1, (unhide HN2).2] at HS
              obtain ⟨a2, ha⟩ : ∃ x, x = la := ⟨_, rfl⟩
              obtain ⟨c2, hc'⟩ : ∃ x, x = lc := ⟨_, rfl⟩
              obtain ⟨g2, hg'⟩ : ∃ x, x = gl := ⟨_, rfl⟩
              subst ha hc' hg'
              have HX : Hid (XT w wa M p B R1 Tb ao cap bs S3 #[.slice a0 d.st.length c0, .slice a1 d.sp.length c1, .slice a2 d.bd.length c2, .float .f64 0, .int .i64 0, .int .i64 0, .int .i64 0, .int .i64 0, .int .i64 0, .int .i64 0, .int .i64 0, .int .i64 0, .int .i64 0, .int .i64 0] ∧ KL w0 wa a0 c0 g0 3 (stV d.st) ∧ (0 < c0 → g0 < wa.heap.size) ∧ KL w0 wa a1 c1 g1 5 (spV d.sp) ∧ (0 < c1 → g1 < wa.heap.size) ∧ KL w0 wa a2 c2 g2 2 (bdV d.bd) ∧ (0 < c2 → g2 < wa.heap.size)) := hide ⟨(unhide HS).x, (unhide HY2).2.1.goT (by omega) (unhide HS).fr (fun q hq => by have := (unhide HS).x.lt; have := unhide HW0; omega), fun hc => Nat.lt_of_lt_of_le ((unhide HY2).2.2.1 hc) (unhide HS).fr.size, (unhide HY2).2.2.2.1.goT (by omega) (unhide HS).fr (fun q hq => by have := (unhide HS).x.lt; have := unhide HW0; omega), fun hc => Nat.lt_of_lt_of_le ((unhide HY2).2.2.2.2 hc) (unhide HS).fr.size, (unhide HS).l.later (by have := (unhide HS).mj; have := unhide HW0; omega), fun hc => (unhide HS).l.row.lt (by omega) hc⟩
              have HNE02 : Hid (0 < c0 → 0 < c2 → g0 ≠ g2) := hide (fun h1 h2 => by have h3 := (unhide HY2).2.2.1 h1; have h4 := (unhide HS).l.new h2; omega)
              have HNE12 : Hid (0 < c1 → 0 < c2 → g1 ≠ g2) := hide (fun h1 h2 => by have h3 := (unhide HY2).2.2.2.2 h1; have h4 := (unhide HS).l.new h2; omega)
              clear HS hlt hi'
              obtain ⟨wb2, hw⟩ : ∃ v, v = wa := ⟨_, rfl⟩
              subst hw
              go_wp2_with fail
              refine (xFloat (unhide HX).1.r).mono ?_
              rw [unhide HQ3]
              unfold XDone
              rintro e m0 ⟨rfl, hXA, hF⟩
              have HX2 : Hid (XT w (m0.setCell ⟨Tb, 3, none⟩ (.float .f64 d.off)) M p B R1 Tb ao cap bs y0 #[.slice a0 d.st.length c0, .slice a1 d.sp.length c1, .slice a2 d.bd.length c2, .float .f64 d.off, .int .i64 0, .int .i64 0, .int .i64 0, .int .i64 0, .int .i64 0, .int .i64 0, .int .i64 0, .int .i64 0, .int .i64 0, .int .i64 0] ∧ KL w0 (m0.setCell ⟨Tb, 3, none⟩ (.float .f64 d.off)) a0 c0 g0 3 (stV d.st) ∧ KL w0 (m0.setCell ⟨Tb, 3, none⟩ (.float .f64 d.off)) a1 c1 g1 5 (spV d.sp) ∧ KL w0 (m0.setCell ⟨Tb, 3, none⟩ (.float .f64 d.off)) a2 c2 g2 2 (bdV d.bd)) := hide ⟨((unhide HX).1.read hXA hF).put 3 _, ((unhide HX).2.1.goT (by omega) hF (fun q hq => by have : q = p := hq; have := (unhide HX).1.lt; have := unhide HW0; omega)).goT (by omega) ((Fr.refl (fun q => q = Tb) m0).setCell (p := ⟨Tb, 3, none⟩) (fun _ => rfl) _) (fun q hq => by have := (unhide HX).1.lt; have := unhide HW0; omega), ((unhide HX).2.2.2.1.goT (by omega) hF (fun q hq => by have : q = p := hq; have := (unhide HX).1.lt; have := unhide HW0; omega)).goT (by omega) ((Fr.refl (fun q => q = Tb) m0).setCell (p := ⟨Tb, 3, none⟩) (fun _ => rfl) _) (fun q hq => by have := (unhide HX).1.lt; have := unhide HW0; omega), ((unhide HX).2.2.2.2.2.1.goT (by omega) hF (fun q hq => by have : q = p := hq; have := (unhide HX).1.lt; have := unhide HW0; omega)).goT (by omega) ((Fr.refl (fun q => q = Tb) m0).setCell (p := ⟨Tb, 3, none⟩) (fun _ => rfl) _) (fun q hq => by have := (unhide HX).1.lt; have := unhide HW0; omega)⟩
              have c' : m0.cell? ⟨Tb, 3, none⟩ = some (.float .f64 0) := ((unhide HX).1.read hXA hF).t.cell 3
              have f' : m0.frozen? ⟨Tb, 3, none⟩ = false := ((unhide HX).1.read hXA hF).t.frozen 3
              clear hXA hF HX
              have HX := HX2
              clear HX2
              go_wp2_with fail
              clear c' f'
              generalize (m0.setCell ⟨Tb, 3, none⟩ (.float .f64 d.off)) = t0 at *
              refine (xNumber (unhide HX).1.r 4).mono ?_
              rw [unhide HV0]
              unfold XDone
              rintro e m1 ⟨rfl, hXA, hF⟩
              have HX2 : Hid (XT w (m1.setCell ⟨Tb, 4, none⟩ (.int .i64 d.bus)) M p B R1 Tb ao cap bs y1 #[.slice a0 d.st.length c0, .slice a1 d.sp.length c1, .slice a2 d.bd.length c2, .float .f64 d.off, .int .i64 d.bus, .int .i64 0, .int .i64 0, .int .i64 0, .int .i64 0, .int .i64 0, .int .i64 0, .int .i64 0, .int .i64 0, .int .i64 0] ∧ KL w0 (m1.setCell ⟨Tb, 4, none⟩ (.int .i64 d.bus)) a0 c0 g0 3 (stV d.st) ∧ KL w0 (m1.setCell ⟨Tb, 4, none⟩ (.int .i64 d.bus)) a1 c1 g1 5 (spV d.sp) ∧ KL w0 (m1.setCell ⟨Tb, 4, none⟩ (.int .i64 d.bus)) a2 c2 g2 2 (bdV d.bd)) := hide ⟨((unhide HX).1.read hXA hF).put 4 _, ((unhide HX).2.1.goT (by omega) hF (fun q hq => by have : q = p := hq; have := (unhide HX).1.lt; have := unhide HW0; omega)).goT (by omega) ((Fr.refl (fun q => q = Tb) m1).setCell (p := ⟨Tb, 4, none⟩) (fun _ => rfl) _) (fun q hq => by have := (unhide HX).1.lt; have := unhide HW0; omega), ((unhide HX).2.2.1.goT (by omega) hF (fun q hq => by have : q = p := hq; have := (unhide HX).1.lt; have := unhide HW0; omega)).goT (by omega) ((Fr.refl (fun q => q = Tb) m1).setCell (p := ⟨Tb, 4, none⟩) (fun _ => rfl) _) (fun q hq => by have := (unhide HX).1.lt; have := unhide HW0; omega), ((unhide HX).2.2.2.goT (by omega) hF (fun q hq => by have : q = p := hq; have := (unhide HX).1.lt; have := unhide HW0; omega)).goT (by omega) ((Fr.refl (fun q => q = Tb) m1).setCell (p := ⟨Tb, 4, none⟩) (fun _ => rfl) _) (fun q hq => by have := (unhide HX).1.lt; have := unhide HW0; omega)⟩
              have c' : m1.cell? ⟨Tb, 4, none⟩ = some (.int .i64 0) := ((unhide HX).1.read hXA hF).t.cell 4
              have f' : m1.frozen? ⟨Tb, 4, none⟩ = false := ((unhide HX).1.read hXA hF).t.frozen 4
              clear hXA hF HX
              have HX := HX2
              clear HX2
              go_wp2_with fail
              clear c' f'
              generalize (m1.setCell ⟨Tb, 4, none⟩ (.int .i64 d.bus)) = t1 at *
              refine (xNumber (unhide HX).1.r 4).mono ?_
              rw [unhide HV1]
              unfold XDone
              rintro e m2 ⟨rfl, hXA, hF⟩
              have HX2 : Hid (XT w (m2.setCell ⟨Tb, 5, none⟩ (.int .i64 d.busDaily)) M p B R1 Tb ao cap bs y2 #[.slice a0 d.st.length c0, .slice a1 d.sp.length c1, .slice a2 d.bd.length c2, .float .f64 d.off, .int .i64 d.bus, .int .i64 d.busDaily, .int .i64 0, .int .i64 0, .int .i64 0, .int .i64 0, .int .i64 0, .int .i64 0, .int .i64 0, .int .i64 0] ∧ KL w0 (m2.setCell ⟨Tb, 5, none⟩ (.int .i64 d.busDaily)) a0 c0 g0 3 (stV d.st) ∧ KL w0 (m2.setCell ⟨Tb, 5, none⟩ (.int .i64 d.busDaily)) a1 c1 g1 5 (spV d.sp) ∧ KL w0 (m2.setCell ⟨Tb, 5, none⟩ (.int .i64 d.busDaily)) a2 c2 g2 2 (bdV d.bd)) := hide ⟨((unhide HX).1.read hXA hF).put 5 _, ((unhide HX).2.1.goT (by omega) hF (fun q hq => by have : q = p := hq; have := (unhide HX).1.lt; have := unhide HW0; omega)).goT (by omega) ((Fr.refl (fun q => q = Tb) m2).setCell (p := ⟨Tb, 5, none⟩) (fun _ => rfl) _) (fun q hq => by have := (unhide HX).1.lt; have := unhide HW0; omega), ((unhide HX).2.2.1.goT (by omega) hF (fun q hq => by have : q = p := hq; have := (unhide HX).1.lt; have := unhide HW0; omega)).goT (by omega) ((Fr.refl (fun q => q = Tb) m2).setCell (p := ⟨Tb, 5, none⟩) (fun _ => rfl) _) (fun q hq => by have := (unhide HX).1.lt; have := unhide HW0; omega), ((unhide HX).2.2.2.goT (by omega) hF (fun q hq => by have : q = p := hq; have := (unhide HX).1.lt; have := unhide HW0; omega)).goT (by omega) ((Fr.refl (fun q => q = Tb) m2).setCell (p := ⟨Tb, 5, none⟩) (fun _ => rfl) _) (fun q hq => by have := (unhide HX).1.lt; have := unhide HW0; omega)⟩
              have c' : m2.cell? ⟨Tb, 5, none⟩ = some (.int .i64 0) := ((unhide HX).1.read hXA hF).t.cell 5
              have f' : m2.frozen? ⟨Tb, 5, none⟩ = false := ((unhide HX).1.read hXA hF).t.frozen 5
              clear hXA hF HX
              have HX := HX2
              clear HX2
              go_wp2_with fail
              clear c' f'
              generalize (m2.setCell ⟨Tb, 5, none⟩ (.int .i64 d.busDaily)) = t2 at *
              refine (xNumber (unhide HX).1.r 4).mono ?_
              rw [unhide HV2]
              unfold XDone
              rintro e m3 ⟨rfl, hXA, hF⟩
              have HX2 : Hid (XT w (m3.setCell ⟨Tb, 6, none⟩ (.int .i64 d.busWeekly)) M p B R1 Tb ao cap bs y3 #[.slice a0 d.st.length c0, .slice a1 d.sp.length c1, .slice a2 d.bd.length c2, .float .f64 d.off, .int .i64 d.bus, .int .i64 d.busDaily, .int .i64 d.busWeekly, .int .i64 0, .int .i64 0, .int .i64 0, .int .i64 0, .int .i64 0, .int .i64 0, .int .i64 0] ∧ KL w0 (m3.setCell ⟨Tb, 6, none⟩ (.int .i64 d.busWeekly)) a0 c0 g0 3 (stV d.st) ∧ KL w0 (m3.setCell ⟨Tb, 6, none⟩ (.int .i64 d.busWeekly)) a1 c1 g1 5 (spV d.sp) ∧ KL w0 (m3.setCell ⟨Tb, 6, none⟩ (.int .i64 d.busWeekly)) a2 c2 g2 2 (bdV d.bd)) := hide ⟨((unhide HX).1.read hXA hF).put 6 _, ((unhide HX).2.1.goT (by omega) hF (fun q hq => by have : q = p := hq; have := (unhide HX).1.lt; have := unhide HW0; omega)).goT (by omega) ((Fr.refl (fun q => q = Tb) m3).setCell (p := ⟨Tb, 6, none⟩) (fun _ => rfl) _) (fun q hq => by have := (unhide HX).1.lt; have := unhide HW0; omega), ((unhide HX).2.2.1.goT (by omega) hF (fun q hq => by have : q = p := hq; have := (unhide HX).1.lt; have := unhide HW0; omega)).goT (by omega) ((Fr.refl (fun q => q = Tb) m3).setCell (p := ⟨Tb, 6, none⟩) (fun _ => rfl) _) (fun q hq => by have := (unhide HX).1.lt; have := unhide HW0; omega), ((unhide HX).2.2.2.goT (by omega) hF (fun q hq => by have : q = p := hq; have := (unhide HX).1.lt; have := unhide HW0; omega)).goT (by omega) ((Fr.refl (fun q => q = Tb) m3).setCell (p := ⟨Tb, 6, none⟩) (fun _ => rfl) _) (fun q hq => by have := (unhide HX).1.lt; have := unhide HW0; omega)⟩
              have c' : m3.cell? ⟨Tb, 6, none⟩ = some (.int .i64 0) := ((unhide HX).1.read hXA hF).t.cell 6
              have f' : m3.frozen? ⟨Tb, 6, none⟩ = false := ((unhide HX).1.read hXA hF).t.frozen 6
              clear hXA hF HX
              have HX := HX2
              clear HX2
              go_wp2_with fail
              clear c' f'
              generalize (m3.setCell ⟨Tb, 6, none⟩ (.int .i64 d.busWeekly)) = t3 at *
              refine (xNumber (unhide HX).1.r 2).mono ?_
              rw [unhide HV3]
              unfold XDone
              rintro e m4 ⟨rfl, hXA, hF⟩
              have HX2 : Hid (XT w (m4.setCell ⟨Tb, 7, none⟩ (.int .i64 d.hopper)) M p B R1 Tb ao cap bs y4 #[.slice a0 d.st.length c0, .slice a1 d.sp.length c1, .slice a2 d.bd.length c2, .float .f64 d.off, .int .i64 d.bus, .int .i64 d.busDaily, .int .i64 d.busWeekly, .int .i64 d.hopper, .int .i64 0, .int .i64 0, .int .i64 0, .int .i64 0, .int .i64 0, .int .i64 0] ∧ KL w0 (m4.setCell ⟨Tb, 7, none⟩ (.int .i64 d.hopper)) a0 c0 g0 3 (stV d.st) ∧ KL w0 (m4.setCell ⟨Tb, 7, none⟩ (.int .i64 d.hopper)) a1 c1 g1 5 (spV d.sp) ∧ KL w0 (m4.setCell ⟨Tb, 7, none⟩ (.int .i64 d.hopper)) a2 c2 g2 2 (bdV d.bd)) := hide ⟨((unhide HX).1.read hXA hF).put 7 _, ((unhide HX).2.1.goT (by omega) hF (fun q hq => by have : q = p := hq; have := (unhide HX).1.lt; have := unhide HW0; omega)).goT (by omega) ((Fr.refl (fun q => q = Tb) m4).setCell (p := ⟨Tb, 7, none⟩) (fun _ => rfl) _) (fun q hq => by have := (unhide HX).1.lt; have := unhide HW0; omega), ((unhide HX).2.2.1.goT (by omega) hF (fun q hq => by have : q = p := hq; have := (unhide HX).1.lt; have := unhide HW0; omega)).goT (by omega) ((Fr.refl (fun q => q = Tb) m4).setCell (p := ⟨Tb, 7, none⟩) (fun _ => rfl) _) (fun q hq => by have := (unhide HX).1.lt; have := unhide HW0; omega), ((unhide HX).2.2.2.goT (by omega) hF (fun q hq => by have : q = p := hq; have := (unhide HX).1.lt; have := unhide HW0; omega)).goT (by omega) ((Fr.refl (fun q => q = Tb) m4).setCell (p := ⟨Tb, 7, none⟩) (fun _ => rfl) _) (fun q hq => by have := (unhide HX).1.lt; have := unhide HW0; omega)⟩
              have c' : m4.cell? ⟨Tb, 7, none⟩ = some (.int .i64 0) := ((unhide HX).1.read hXA hF).t.cell 7
              have f' : m4.frozen? ⟨Tb, 7, none⟩ = false := ((unhide HX).1.read hXA hF).t.frozen 7
              clear hXA hF HX
              have HX := HX2
              clear HX2
              go_wp2_with fail
              clear c' f'
              generalize (m4.setCell ⟨Tb, 7, none⟩ (.int .i64 d.hopper)) = t4 at *
              refine (xNumber (unhide HX).1.r 4).mono ?_
              rw [unhide HV4]
              unfold XDone
              rintro e m5 ⟨rfl, hXA, hF⟩
              have HX2 : Hid (XT w (m5.setCell ⟨Tb, 8, none⟩ (.int .i64 d.most)) M p B R1 Tb ao cap bs y5 #[.slice a0 d.st.length c0, .slice a1 d.sp.length c1, .slice a2 d.bd.length c2, .float .f64 d.off, .int .i64 d.bus, .int .i64 d.busDaily, .int .i64 d.busWeekly, .int .i64 d.hopper, .int .i64 d.most, .int .i64 0, .int .i64 0, .int .i64 0, .int .i64 0, .int .i64 0] ∧ KL w0 (m5.setCell ⟨Tb, 8, none⟩ (.int .i64 d.most)) a0 c0 g0 3 (stV d.st) ∧ KL w0 (m5.setCell ⟨Tb, 8, none⟩ (.int .i64 d.most)) a1 c1 g1 5 (spV d.sp) ∧ KL w0 (m5.setCell ⟨Tb, 8, none⟩ (.int .i64 d.most)) a2 c2 g2 2 (bdV d.bd)) := hide ⟨((unhide HX).1.read hXA hF).put 8 _, ((unhide HX).2.1.goT (by omega) hF (fun q hq => by have : q = p := hq; have := (unhide HX).1.lt; have := unhide HW0; omega)).goT (by omega) ((Fr.refl (fun q => q = Tb) m5).setCell (p := ⟨Tb, 8, none⟩) (fun _ => rfl) _) (fun q hq => by have := (unhide HX).1.lt; have := unhide HW0; omega), ((unhide HX).2.2.1.goT (by omega) hF (fun q hq => by have : q = p := hq; have := (unhide HX).1.lt; have := unhide HW0; omega)).goT (by omega) ((Fr.refl (fun q => q = Tb) m5).setCell (p := ⟨Tb, 8, none⟩) (fun _ => rfl) _) (fun q hq => by have := (unhide HX).1.lt; have := unhide HW0; omega), ((unhide HX).2.2.2.goT (by omega) hF (fun q hq => by have : q = p := hq; have := (unhide HX).1.lt; have := unhide HW0; omega)).goT (by omega) ((Fr.refl (fun q => q = Tb) m5).setCell (p := ⟨Tb, 8, none⟩) (fun _ => rfl) _) (fun q hq => by have := (unhide HX).1.lt; have := unhide HW0; omega)⟩
              have c' : m5.cell? ⟨Tb, 8, none⟩ = some (.int .i64 0) := ((unhide HX).1.read hXA hF).t.cell 8
              have f' : m5.frozen? ⟨Tb, 8, none⟩ = false := ((unhide HX).1.read hXA hF).t.frozen 8
              clear hXA hF HX
              have HX := HX2
              clear HX2
              go_wp2_with fail
              clear c' f'
              generalize (m5.setCell ⟨Tb, 8, none⟩ (.int .i64 d.most)) = t5 at *
              refine (xNumber (unhide HX).1.r 2).mono ?_
              rw [unhide HV5]
              unfold XDone
              rintro e m6 ⟨rfl, hXA, hF⟩
              have HX2 : Hid (XT w (m6.setCell ⟨Tb, 9, none⟩ (.int .i64 d.longest)) M p B R1 Tb ao cap bs y6 #[.slice a0 d.st.length c0, .slice a1 d.sp.length c1, .slice a2 d.bd.length c2, .float .f64 d.off, .int .i64 d.bus, .int .i64 d.busDaily, .int .i64 d.busWeekly, .int .i64 d.hopper, .int .i64 d.most, .int .i64 d.longest, .int .i64 0, .int .i64 0, .int .i64 0, .int .i64 0] ∧ KL w0 (m6.setCell ⟨Tb, 9, none⟩ (.int .i64 d.longest)) a0 c0 g0 3 (stV d.st) ∧ KL w0 (m6.setCell ⟨Tb, 9, none⟩ (.int .i64 d.longest)) a1 c1 g1 5 (spV d.sp) ∧ KL w0 (m6.setCell ⟨Tb, 9, none⟩ (.int .i64 d.longest)) a2 c2 g2 2 (bdV d.bd)) := hide ⟨((unhide HX).1.read hXA hF).put 9 _, ((unhide HX).2.1.goT (by omega) hF (fun q hq => by have : q = p := hq; have := (unhide HX).1.lt; have := unhide HW0; omega)).goT (by omega) ((Fr.refl (fun q => q = Tb) m6).setCell (p := ⟨Tb, 9, none⟩) (fun _ => rfl) _) (fun q hq => by have := (unhide HX).1.lt; have := unhide HW0; omega), ((unhide HX).2.2.1.goT (by omega) hF (fun q hq => by have : q = p := hq; have := (unhide HX).1.lt; have := unhide HW0; omega)).goT (by omega) ((Fr.refl (fun q => q = Tb) m6).setCell (p := ⟨Tb, 9, none⟩) (fun _ => rfl) _) (fun q hq => by have := (unhide HX).1.lt; have := unhide HW0; omega), ((unhide HX).2.2.2.goT (by omega) hF (fun q hq => by have : q = p := hq; have := (unhide HX).1.lt; have := unhide HW0; omega)).goT (by omega) ((Fr.refl (fun q => q = Tb) m6).setCell (p := ⟨Tb, 9, none⟩) (fun _ => rfl) _) (fun q hq => by have := (unhide HX).1.lt; have := unhide HW0; omega)⟩
              have c' : m6.cell? ⟨Tb, 9, none⟩ = some (.int .i64 0) := ((unhide HX).1.read hXA hF).t.cell 9
              have f' : m6.frozen? ⟨Tb, 9, none⟩ = false := ((unhide HX).1.read hXA hF).t.frozen 9
              clear hXA hF HX
              have HX := HX2
              clear HX2
              go_wp2_with fail
              clear c' f'
              generalize (m6.setCell ⟨Tb, 9, none⟩ (.int .i64 d.longest)) = t6 at *
              refine (xNumber (unhide HX).1.r 2).mono ?_
              rw [unhide HV6]
              unfold XDone
              rintro e m7 ⟨rfl, hXA, hF⟩
              have HX2 : Hid (XT w (m7.setCell ⟨Tb, 10, none⟩ (.int .i64 d.change)) M p B R1 Tb ao cap bs y7 #[.slice a0 d.st.length c0, .slice a1 d.sp.length c1, .slice a2 d.bd.length c2, .float .f64 d.off, .int .i64 d.bus, .int .i64 d.busDaily, .int .i64 d.busWeekly, .int .i64 d.hopper, .int .i64 d.most, .int .i64 d.longest, .int .i64 d.change, .int .i64 0, .int .i64 0, .int .i64 0] ∧ KL w0 (m7.setCell ⟨Tb, 10, none⟩ (.int .i64 d.change)) a0 c0 g0 3 (stV d.st) ∧ KL w0 (m7.setCell ⟨Tb, 10, none⟩ (.int .i64 d.change)) a1 c1 g1 5 (spV d.sp) ∧ KL w0 (m7.setCell ⟨Tb, 10, none⟩ (.int .i64 d.change)) a2 c2 g2 2 (bdV d.bd)) := hide ⟨((unhide HX).1.read hXA hF).put 10 _, ((unhide HX).2.1.goT (by omega) hF (fun q hq => by have : q = p := hq; have := (unhide HX).1.lt; have := unhide HW0; omega)).goT (by omega) ((Fr.refl (fun q => q = Tb) m7).setCell (p := ⟨Tb, 10, none⟩) (fun _ => rfl) _) (fun q hq => by have := (unhide HX).1.lt; have := unhide HW0; omega), ((unhide HX).2.2.1.goT (by omega) hF (fun q hq => by have : q = p := hq; have := (unhide HX).1.lt; have := unhide HW0; omega)).goT (by omega) ((Fr.refl (fun q => q = Tb) m7).setCell (p := ⟨Tb, 10, none⟩) (fun _ => rfl) _) (fun q hq => by have := (unhide HX).1.lt; have := unhide HW0; omega), ((unhide HX).2.2.2.goT (by omega) hF (fun q hq => by have : q = p := hq; have := (unhide HX).1.lt; have := unhide HW0; omega)).goT (by omega) ((Fr.refl (fun q => q = Tb) m7).setCell (p := ⟨Tb, 10, none⟩) (fun _ => rfl) _) (fun q hq => by have := (unhide HX).1.lt; have := unhide HW0; omega)⟩
              have c' : m7.cell? ⟨Tb, 10, none⟩ = some (.int .i64 0) := ((unhide HX).1.read hXA hF).t.cell 10
              have f' : m7.frozen? ⟨Tb, 10, none⟩ = false := ((unhide HX).1.read hXA hF).t.frozen 10
              clear hXA hF HX
              have HX := HX2
              clear HX2
              go_wp2_with fail
              clear c' f'
              generalize (m7.setCell ⟨Tb, 10, none⟩ (.int .i64 d.change)) = t7 at *
              refine (xNumber (unhide HX).1.r 2).mono ?_
              rw [unhide HV7]
              unfold XDone
              rintro e m8 ⟨rfl, hXA, hF⟩
              have HX2 : Hid (XT w (m8.setCell ⟨Tb, 11, none⟩ (.int .i64 d.passback)) M p B R1 Tb ao cap bs y8 #[.slice a0 d.st.length c0, .slice a1 d.sp.length c1, .slice a2 d.bd.length c2, .float .f64 d.off, .int .i64 d.bus, .int .i64 d.busDaily, .int .i64 d.busWeekly, .int .i64 d.hopper, .int .i64 d.most, .int .i64 d.longest, .int .i64 d.change, .int .i64 d.passback, .int .i64 0, .int .i64 0] ∧ KL w0 (m8.setCell ⟨Tb, 11, none⟩ (.int .i64 d.passback)) a0 c0 g0 3 (stV d.st) ∧ KL w0 (m8.setCell ⟨Tb, 11, none⟩ (.int .i64 d.passback)) a1 c1 g1 5 (spV d.sp) ∧ KL w0 (m8.setCell ⟨Tb, 11, none⟩ (.int .i64 d.passback)) a2 c2 g2 2 (bdV d.bd)) := hide ⟨((unhide HX).1.read hXA hF).put 11 _, ((unhide HX).2.1.goT (by omega) hF (fun q hq => by have : q = p := hq; have := (unhide HX).1.lt; have := unhide HW0; omega)).goT (by omega) ((Fr.refl (fun q => q = Tb) m8).setCell (p := ⟨Tb, 11, none⟩) (fun _ => rfl) _) (fun q hq => by have := (unhide HX).1.lt; have := unhide HW0; omega), ((unhide HX).2.2.1.goT (by omega) hF (fun q hq => by have : q = p := hq; have := (unhide HX).1.lt; have := unhide HW0; omega)).goT (by omega) ((Fr.refl (fun q => q = Tb) m8).setCell (p := ⟨Tb, 11, none⟩) (fun _ => rfl) _) (fun q hq => by have := (unhide HX).1.lt; have := unhide HW0; omega), ((unhide HX).2.2.2.goT (by omega) hF (fun q hq => by have : q = p := hq; have := (unhide HX).1.lt; have := unhide HW0; omega)).goT (by omega) ((Fr.refl (fun q => q = Tb) m8).setCell (p := ⟨Tb, 11, none⟩) (fun _ => rfl) _) (fun q hq => by have := (unhide HX).1.lt; have := unhide HW0; omega)⟩
              have c' : m8.cell? ⟨Tb, 11, none⟩ = some (.int .i64 0) := ((unhide HX).1.read hXA hF).t.cell 11
              have f' : m8.frozen? ⟨Tb, 11, none⟩ = false := ((unhide HX).1.read hXA hF).t.frozen 11
              clear hXA hF HX
              have HX := HX2
              clear HX2
              go_wp2_with fail
              clear c' f'
              generalize (m8.setCell ⟨Tb, 11, none⟩ (.int .i64 d.passback)) = t8 at *
              refine (xNumber (unhide HX).1.r 2).mono ?_
              rw [unhide HV8]
              unfold XDone
              rintro e m9 ⟨rfl, hXA, hF⟩
              have HX2 : Hid (XT w (m9.setCell ⟨Tb, 12, none⟩ (.int .i64 d.delay)) M p B R1 Tb ao cap bs y9 #[.slice a0 d.st.length c0, .slice a1 d.sp.length c1, .slice a2 d.bd.length c2, .float .f64 d.off, .int .i64 d.bus, .int .i64 d.busDaily, .int .i64 d.busWeekly, .int .i64 d.hopper, .int .i64 d.most, .int .i64 d.longest, .int .i64 d.change, .int .i64 d.passback, .int .i64 d.delay, .int .i64 0] ∧ KL w0 (m9.setCell ⟨Tb, 12, none⟩ (.int .i64 d.delay)) a0 c0 g0 3 (stV d.st) ∧ KL w0 (m9.setCell ⟨Tb, 12, none⟩ (.int .i64 d.delay)) a1 c1 g1 5 (spV d.sp) ∧ KL w0 (m9.setCell ⟨Tb, 12, none⟩ (.int .i64 d.delay)) a2 c2 g2 2 (bdV d.bd)) := hide ⟨((unhide HX).1.read hXA hF).put 12 _, ((unhide HX).2.1.goT (by omega) hF (fun q hq => by have : q = p := hq; have := (unhide HX).1.lt; have := unhide HW0; omega)).goT (by omega) ((Fr.refl (fun q => q = Tb) m9).setCell (p := ⟨Tb, 12, none⟩) (fun _ => rfl) _) (fun q hq => by have := (unhide HX).1.lt; have := unhide HW0; omega), ((unhide HX).2.2.1.goT (by omega) hF (fun q hq => by have : q = p := hq; have := (unhide HX).1.lt; have := unhide HW0; omega)).goT (by omega) ((Fr.refl (fun q => q = Tb) m9).setCell (p := ⟨Tb, 12, none⟩) (fun _ => rfl) _) (fun q hq => by have := (unhide HX).1.lt; have := unhide HW0; omega), ((unhide HX).2.2.2.goT (by omega) hF (fun q hq => by have : q = p := hq; have := (unhide HX).1.lt; have := unhide HW0; omega)).goT (by omega) ((Fr.refl (fun q => q = Tb) m9).setCell (p := ⟨Tb, 12, none⟩) (fun _ => rfl) _) (fun q hq => by have := (unhide HX).1.lt; have := unhide HW0; omega)⟩
              have c' : m9.cell? ⟨Tb, 12, none⟩ = some (.int .i64 0) := ((unhide HX).1.read hXA hF).t.cell 12
              have f' : m9.frozen? ⟨Tb, 12, none⟩ = false := ((unhide HX).1.read hXA hF).t.frozen 12
              clear hXA hF HX
              have HX := HX2
              clear HX2
              go_wp2_with fail
              clear c' f'
              generalize (m9.setCell ⟨Tb, 12, none⟩ (.int .i64 d.delay)) = t9 at *
              refine (xNumber (unhide HX).1.r 4).mono ?_
              rw [unhide HV9]
              unfold XDone
              rintro e m10 ⟨rfl, hXA, hF⟩
              have HX2 : Hid (XT w (m10.setCell ⟨Tb, 13, none⟩ (.int .i64 d.threshold)) M p B R1 Tb ao cap bs y10 #[.slice a0 d.st.length c0, .slice a1 d.sp.length c1, .slice a2 d.bd.length c2, .float .f64 d.off, .int .i64 d.bus, .int .i64 d.busDaily, .int .i64 d.busWeekly, .int .i64 d.hopper, .int .i64 d.most, .int .i64 d.longest, .int .i64 d.change, .int .i64 d.passback, .int .i64 d.delay, .int .i64 d.threshold] ∧ KL w0 (m10.setCell ⟨Tb, 13, none⟩ (.int .i64 d.threshold)) a0 c0 g0 3 (stV d.st) ∧ KL w0 (m10.setCell ⟨Tb, 13, none⟩ (.int .i64 d.threshold)) a1 c1 g1 5 (spV d.sp) ∧ KL w0 (m10.setCell ⟨Tb, 13, none⟩ (.int .i64 d.threshold)) a2 c2 g2 2 (bdV d.bd)) := hide ⟨((unhide HX).1.read hXA hF).put 13 _, ((unhide HX).2.1.goT (by omega) hF (fun q hq => by have : q = p := hq; have := (unhide HX).1.lt; have := unhide HW0; omega)).goT (by omega) ((Fr.refl (fun q => q = Tb) m10).setCell (p := ⟨Tb, 13, none⟩) (fun _ => rfl) _) (fun q hq => by have := (unhide HX).1.lt; have := unhide HW0; omega), ((unhide HX).2.2.1.goT (by omega) hF (fun q hq => by have : q = p := hq; have := (unhide HX).1.lt; have := unhide HW0; omega)).goT (by omega) ((Fr.refl (fun q => q = Tb) m10).setCell (p := ⟨Tb, 13, none⟩) (fun _ => rfl) _) (fun q hq => by have := (unhide HX).1.lt; have := unhide HW0; omega), ((unhide HX).2.2.2.goT (by omega) hF (fun q hq => by have : q = p := hq; have := (unhide HX).1.lt; have := unhide HW0; omega)).goT (by omega) ((Fr.refl (fun q => q = Tb) m10).setCell (p := ⟨Tb, 13, none⟩) (fun _ => rfl) _) (fun q hq => by have := (unhide HX).1.lt; have := unhide HW0; omega)⟩
              have c' : m10.cell? ⟨Tb, 13, none⟩ = some (.int .i64 0) := ((unhide HX).1.read hXA hF).t.cell 13
              have f' : m10.frozen? ⟨Tb, 13, none⟩ = false := ((unhide HX).1.read hXA hF).t.frozen 13
              clear hXA hF HX
              have HX := HX2
              clear HX2
              go_wp2_with fail
              clear c' f'
              generalize (m10.setCell ⟨Tb, 13, none⟩ (.int .i64 d.threshold)) = t10 at *
              refine (xEnd (unhide HX).1.r).mono ?_
              rw [unhide Hz]
              rintro e w4 ⟨rfl, hXA, hF⟩
              have HX4 : Hid (XT w w4 M p B R1 Tb ao cap bs z #[.slice a0 d.st.length c0, .slice a1 d.sp.length c1, .slice a2 d.bd.length c2, .float .f64 d.off, .int .i64 d.bus, .int .i64 d.busDaily, .int .i64 d.busWeekly, .int .i64 d.hopper, .int .i64 d.most, .int .i64 d.longest, .int .i64 d.change, .int .i64 d.passback, .int .i64 d.delay, .int .i64 d.threshold] ∧ TNew w0 w4 d ⟨a0, c0, a1, c1, a2, c2⟩ g0 g1 g2) := hide (by
                have hg := fun (q : Nat) (hq : q = p) => (by have := (unhide HX).1.lt; have := unhide HW0; omega : q < w0.heap.size)
                exact ⟨(unhide HX).1.read hXA hF, (unhide HX).2.1.goT (by omega) hF hg, (unhide HX).2.2.1.goT (by omega) hF hg, (unhide HX).2.2.2.goT (by omega) hF hg, ⟨unhide HNE01, unhide HNE02, unhide HNE12⟩, unhide HSZ⟩)
              clear hXA hF HX
              have zc := unhide HR
              have zcl := unhide HCL
              unfold Clean at zcl
              generalize hzc : z.c = c at zc zcl ⊢
              generalize hzf : z.f = f at zc zcl ⊢
              have HRR := hide zc
              have HCL2 := hide zcl
              clear zc zcl hzc hzf HCL HR
              have HX5 : Hid (XT w (w4.alloc (.cells #[.int .i64 c, .int .i64 f] 37)) M p B R1 Tb ao cap bs z #[.slice a0 d.st.length c0, .slice a1 d.sp.length c1, .slice a2 d.bd.length c2, .float .f64 d.off, .int .i64 d.bus, .int .i64 d.busDaily, .int .i64 d.busWeekly, .int .i64 d.hopper, .int .i64 d.most, .int .i64 d.longest, .int .i64 d.change, .int .i64 d.passback, .int .i64 d.delay, .int .i64 d.threshold] ∧ TNew w0 (w4.alloc (.cells #[.int .i64 c, .int .i64 f] 37)) d ⟨a0, c0, a1, c1, a2, c2⟩ g0 g1 g2 ∧ Bx (w4.alloc (.cells #[.int .i64 c, .int .i64 f] 37)) w4.heap.size #[.int .i64 c, .int .i64 f] 37 ∧ Tb < w4.heap.size) := hide (by
                have h0 := (Fr.refl (fun _ => False) w4).alloc (.cells #[.int .i64 c, .int .i64 f] 37)
                exact ⟨(unhide HX4).1.go h0 (fun _ t => t.elim), (unhide HX4).2.go h0 (fun _ t => t.elim), Bx.new _ _ _, (unhide HX4).1.t.lt⟩)
              have y0' : (w4.alloc (.cells #[.int .i64 c, .int .i64 f] 37)).cell? ⟨w4.heap.size, 0, none⟩ = some (.int .i64 c) := (unhide HX5).2.2.1.cell 0
              clear HX4
              go_upto_if 128 with (fail)
              clear y0'
              generalize w4.alloc (.cells #[.int .i64 c, .int .i64 f] 37) = w5 at *
              generalize w4.heap.size = Fb at *
              have HLT : Hid (w.heap.size ≤ B ∧ B < R1 ∧ R1 < p ∧ p < Tb ∧ Tb < Fb ∧ w0.heap.size = M ∧ Tb < M) := hide (by have h1 := (unhide HX5).1.lt; have h2 := (unhide HX5).2.2.2; have h3 := unhide HW0; omega)
              obtain ⟨q1, q2, q3, q4, q5, q6, q7⟩ := unhide HLT
              have hBR : B ≠ R1 := by omega
              have hRB : R1 ≠ B := by omega
              have hBX : B ≠ Tb := by omega
              have hXB : Tb ≠ B := by omega
              have hRX : R1 ≠ Tb := by omega
              have hXR : Tb ≠ R1 := by omega
              have hBF : B ≠ Fb := by omega
              have hFB : Fb ≠ B := by omega
              have hRF : R1 ≠ Fb := by omega
              have hFR : Fb ≠ R1 := by omega
              have HBL : Hid (¬ B < w.heap.size ∧ ¬ R1 < w.heap.size) := hide (by omega)
              clear q1 q2 q3 q4 q5 q6 q7
              by_cases hc : c = 0
              · have hcb : (c != 0) = false := by simp [hc]
                obtain ⟨ev, Hev⟩ : ∃ ev, Hid (rightE d = ev) := ⟨_, rfl⟩
                have HRE : Hid (R = if ev = 0 then (d, 0, 0) else (tarZ, ev, -1)) := hide (by rw [unhide HRR, if_neg (fun h => h hc), unhide Hev])
                have hf0 : f = 0 := unhide HCL2 hc
                have RE := hide (rright_walk w5 ⟨a0, c0, a1, c1, a2, c2⟩ d (unhide HX5).2.1.at)
                rw [unhide Hev] at RE
                unfold tv tc at RE
                simp only at RE
                clear HRR Hev
                subst hc hf0
                have x0_ : w5.cell? ⟨Tb, 0, none⟩ = some (.slice a0 d.st.length c0) := (unhide HX5).1.t.cell 0
                have x1_ : w5.cell? ⟨Tb, 1, none⟩ = some (.slice a1 d.sp.length c1) := (unhide HX5).1.t.cell 1
                have x2_ : w5.cell? ⟨Tb, 2, none⟩ = some (.slice a2 d.bd.length c2) := (unhide HX5).1.t.cell 2
                have x3_ : w5.cell? ⟨Tb, 3, none⟩ = some (.float .f64 d.off) := (unhide HX5).1.t.cell 3
                have x4_ : w5.cell? ⟨Tb, 4, none⟩ = some (.int .i64 d.bus) := (unhide HX5).1.t.cell 4
                have x5_ : w5.cell? ⟨Tb, 5, none⟩ = some (.int .i64 d.busDaily) := (unhide HX5).1.t.cell 5
                have x6_ : w5.cell? ⟨Tb, 6, none⟩ = some (.int .i64 d.busWeekly) := (unhide HX5).1.t.cell 6
                have x7_ : w5.cell? ⟨Tb, 7, none⟩ = some (.int .i64 d.hopper) := (unhide HX5).1.t.cell 7
                have x8_ : w5.cell? ⟨Tb, 8, none⟩ = some (.int .i64 d.most) := (unhide HX5).1.t.cell 8
                have x9_ : w5.cell? ⟨Tb, 9, none⟩ = some (.int .i64 d.longest) := (unhide HX5).1.t.cell 9
                have x10_ : w5.cell? ⟨Tb, 10, none⟩ = some (.int .i64 d.change) := (unhide HX5).1.t.cell 10
                have x11_ : w5.cell? ⟨Tb, 11, none⟩ = some (.int .i64 d.passback) := (unhide HX5).1.t.cell 11
                have x12_ : w5.cell? ⟨Tb, 12, none⟩ = some (.int .i64 d.delay) := (unhide HX5).1.t.cell 12
                have x13_ : w5.cell? ⟨Tb, 13, none⟩ = some (.int .i64 d.threshold) := (unhide HX5).1.t.cell 13
                go_wp2_with fail
                refine (unhide RE).mono ?_
                rintro e w6 ⟨rfl, hF⟩
                have HX6 : Hid (XT w w6 M p B R1 Tb ao cap bs z #[.slice a0 d.st.length c0, .slice a1 d.sp.length c1, .slice a2 d.bd.length c2, .float .f64 d.off, .int .i64 d.bus, .int .i64 d.busDaily, .int .i64 d.busWeekly, .int .i64 d.hopper, .int .i64 d.most, .int .i64 d.longest, .int .i64 d.change, .int .i64 d.passback, .int .i64 d.delay, .int .i64 d.threshold] ∧ TNew w0 w6 d ⟨a0, c0, a1, c1, a2, c2⟩ g0 g1 g2 ∧ Bx w6 Fb #[.int .i64 0, .int .i64 0] 37 ∧ Tb < Fb) := hide ⟨(unhide HX5).1.go hF (fun _ t => t.elim), (unhide HX5).2.1.go hF (fun _ t => t.elim), (unhide HX5).2.2.1.keep hF, (unhide HX5).2.2.2⟩
                clear hF RE HX5 x0_ x1_ x2_ x3_ x4_ x5_ x6_ x7_ x8_ x9_ x10_ x11_ x12_ x13_
                have r0 : w6.cell? ⟨B, 0, none⟩ = some (.slice none 0 0) := (unhide HX6).1.b.cell 0
                have s0 : w6.frozen? ⟨B, 0, none⟩ = false := (unhide HX6).1.b.frozen 0
                have r1 : w6.cell? ⟨B, 1, none⟩ = some (.slice none 0 0) := (unhide HX6).1.b.cell 1
                have s1 : w6.frozen? ⟨B, 1, none⟩ = false := (unhide HX6).1.b.frozen 1
                have r2 : w6.cell? ⟨B, 2, none⟩ = some (.slice none 0 0) := (unhide HX6).1.b.cell 2
                have s2 : w6.frozen? ⟨B, 2, none⟩ = false := (unhide HX6).1.b.frozen 2
                have r3 : w6.cell? ⟨B, 3, none⟩ = some (.float .f64 0) := (unhide HX6).1.b.cell 3
                have s3 : w6.frozen? ⟨B, 3, none⟩ = false := (unhide HX6).1.b.frozen 3
                have r4 : w6.cell? ⟨B, 4, none⟩ = some (.int .i64 0) := (unhide HX6).1.b.cell 4
                have s4 : w6.frozen? ⟨B, 4, none⟩ = false := (unhide HX6).1.b.frozen 4
                have r5 : w6.cell? ⟨B, 5, none⟩ = some (.int .i64 0) := (unhide HX6).1.b.cell 5
                have s5 : w6.frozen? ⟨B, 5, none⟩ = false := (unhide HX6).1.b.frozen 5
                have r6 : w6.cell? ⟨B, 6, none⟩ = some (.int .i64 0) := (unhide HX6).1.b.cell 6
                have s6 : w6.frozen? ⟨B, 6, none⟩ = false := (unhide HX6).1.b.frozen 6
                have r7 : w6.cell? ⟨B, 7, none⟩ = some (.int .i64 0) := (unhide HX6).1.b.cell 7
                have s7 : w6.frozen? ⟨B, 7, none⟩ = false := (unhide HX6).1.b.frozen 7
                have r8 : w6.cell? ⟨B, 8, none⟩ = some (.int .i64 0) := (unhide HX6).1.b.cell 8
                have s8 : w6.frozen? ⟨B, 8, none⟩ = false := (unhide HX6).1.b.frozen 8
                have r9 : w6.cell? ⟨B, 9, none⟩ = some (.int .i64 0) := (unhide HX6).1.b.cell 9
                have s9 : w6.frozen? ⟨B, 9, none⟩ = false := (unhide HX6).1.b.frozen 9
                have r10 : w6.cell? ⟨B, 10, none⟩ = some (.int .i64 0) := (unhide HX6).1.b.cell 10
                have s10 : w6.frozen? ⟨B, 10, none⟩ = false := (unhide HX6).1.b.frozen 10
                have r11 : w6.cell? ⟨B, 11, none⟩ = some (.int .i64 0) := (unhide HX6).1.b.cell 11
                have s11 : w6.frozen? ⟨B, 11, none⟩ = false := (unhide HX6).1.b.frozen 11
                have r12 : w6.cell? ⟨B, 12, none⟩ = some (.int .i64 0) := (unhide HX6).1.b.cell 12
                have s12 : w6.frozen? ⟨B, 12, none⟩ = false := (unhide HX6).1.b.frozen 12
                have r13 : w6.cell? ⟨B, 13, none⟩ = some (.int .i64 0) := (unhide HX6).1.b.cell 13
                have s13 : w6.frozen? ⟨B, 13, none⟩ = false := (unhide HX6).1.b.frozen 13
                have u0_ : w6.cell? ⟨R1, 0, none⟩ = some (.int .i64 0) := (unhide HX6).1.f.cell 0
                have v0_ : w6.frozen? ⟨R1, 0, none⟩ = false := (unhide HX6).1.f.frozen 0
                have u1_ : w6.cell? ⟨R1, 1, none⟩ = some (.int .i64 0) := (unhide HX6).1.f.cell 1
                have v1_ : w6.frozen? ⟨R1, 1, none⟩ = false := (unhide HX6).1.f.frozen 1
                by_cases he : ev = 0
                · subst he
                  rw [if_pos rfl] at HRE
                  have x0_ : w6.cell? ⟨Tb, 0, none⟩ = some (.slice a0 d.st.length c0) := (unhide HX6).1.t.cell 0
                  have x1_ : w6.cell? ⟨Tb, 1, none⟩ = some (.slice a1 d.sp.length c1) := (unhide HX6).1.t.cell 1
                  have x2_ : w6.cell? ⟨Tb, 2, none⟩ = some (.slice a2 d.bd.length c2) := (unhide HX6).1.t.cell 2
                  have x3_ : w6.cell? ⟨Tb, 3, none⟩ = some (.float .f64 d.off) := (unhide HX6).1.t.cell 3
                  have x4_ : w6.cell? ⟨Tb, 4, none⟩ = some (.int .i64 d.bus) := (unhide HX6).1.t.cell 4
                  have x5_ : w6.cell? ⟨Tb, 5, none⟩ = some (.int .i64 d.busDaily) := (unhide HX6).1.t.cell 5
                  have x6_ : w6.cell? ⟨Tb, 6, none⟩ = some (.int .i64 d.busWeekly) := (unhide HX6).1.t.cell 6
                  have x7_ : w6.cell? ⟨Tb, 7, none⟩ = some (.int .i64 d.hopper) := (unhide HX6).1.t.cell 7
                  have x8_ : w6.cell? ⟨Tb, 8, none⟩ = some (.int .i64 d.most) := (unhide HX6).1.t.cell 8
                  have x9_ : w6.cell? ⟨Tb, 9, none⟩ = some (.int .i64 d.longest) := (unhide HX6).1.t.cell 9
                  have x10_ : w6.cell? ⟨Tb, 10, none⟩ = some (.int .i64 d.change) := (unhide HX6).1.t.cell 10
                  have x11_ : w6.cell? ⟨Tb, 11, none⟩ = some (.int .i64 d.passback) := (unhide HX6).1.t.cell 11
                  have x12_ : w6.cell? ⟨Tb, 12, none⟩ = some (.int .i64 d.delay) := (unhide HX6).1.t.cell 12
                  have x13_ : w6.cell? ⟨Tb, 13, none⟩ = some (.int .i64 d.threshold) := (unhide HX6).1.t.cell 13
                  have z0_ : w6.cell? ⟨Fb, 0, none⟩ = some (.int .i64 0) := (unhide HX6).2.2.1.cell 0
                  have z1_ : w6.cell? ⟨Fb, 1, none⟩ = some (.int .i64 0) := (unhide HX6).2.2.1.cell 1
                  go_wp2_with fail
                  go_region_held3 (fun w' => w'.cell? ⟨Tb, 0, none⟩ = some (.slice a0 d.st.length c0) ∧ w'.cell? ⟨Tb, 1, none⟩ = some (.slice a1 d.sp.length c1) ∧ w'.cell? ⟨Tb, 2, none⟩ = some (.slice a2 d.bd.length c2) ∧ w'.cell? ⟨Tb, 3, none⟩ = some (.float .f64 d.off) ∧ w'.cell? ⟨Tb, 4, none⟩ = some (.int .i64 d.bus) ∧ w'.cell? ⟨Tb, 5, none⟩ = some (.int .i64 d.busDaily) ∧ w'.cell? ⟨Tb, 6, none⟩ = some (.int .i64 d.busWeekly) ∧ w'.cell? ⟨Tb, 7, none⟩ = some (.int .i64 d.hopper) ∧ w'.cell? ⟨Tb, 8, none⟩ = some (.int .i64 d.most) ∧ w'.cell? ⟨Tb, 9, none⟩ = some (.int .i64 d.longest) ∧ w'.cell? ⟨Tb, 10, none⟩ = some (.int .i64 d.change) ∧ w'.cell? ⟨Tb, 11, none⟩ = some (.int .i64 d.passback) ∧ w'.cell? ⟨Tb, 12, none⟩ = some (.int .i64 d.delay) ∧ w'.cell? ⟨Tb, 13, none⟩ = some (.int .i64 d.threshold) ∧ w'.cell? ⟨Fb, 0, none⟩ = some (.int .i64 0) ∧ w'.cell? ⟨Fb, 1, none⟩ = some (.int .i64 0)) (go_keep) (fail)
                  go_wp2
                  obtain ⟨k0, k1, k2⟩ : Fr (fun _ => False) w w6 ∧ Bx w6 B #[.slice none 0 0, .slice none 0 0, .slice none 0 0, .float .f64 0, .int .i64 0, .int .i64 0, .int .i64 0, .int .i64 0, .int .i64 0, .int .i64 0, .int .i64 0, .int .i64 0, .int .i64 0, .int .i64 0] 27 ∧ Bx w6 R1 #[.int .i64 0, .int .i64 0] 37 := ⟨(unhide HX6).1.fr, (unhide HX6).1.b, (unhide HX6).1.f⟩
                  have e1 : Bx _ B #[.slice a0 d.st.length c0, .slice none 0 0, .slice none 0 0, .float .f64 0, .int .i64 0, .int .i64 0, .int .i64 0, .int .i64 0, .int .i64 0, .int .i64 0, .int .i64 0, .int .i64 0, .int .i64 0, .int .i64 0] 27 := Bx.setCell k1 0 (.slice a0 d.st.length c0)
                  have e1 : Bx _ B #[.slice a0 d.st.length c0, .slice a1 d.sp.length c1, .slice none 0 0, .float .f64 0, .int .i64 0, .int .i64 0, .int .i64 0, .int .i64 0, .int .i64 0, .int .i64 0, .int .i64 0, .int .i64 0, .int .i64 0, .int .i64 0] 27 := Bx.setCell e1 1 (.slice a1 d.sp.length c1)
                  have e1 : Bx _ B #[.slice a0 d.st.length c0, .slice a1 d.sp.length c1, .slice a2 d.bd.length c2, .float .f64 0, .int .i64 0, .int .i64 0, .int .i64 0, .int .i64 0, .int .i64 0, .int .i64 0, .int .i64 0, .int .i64 0, .int .i64 0, .int .i64 0] 27 := Bx.setCell e1 2 (.slice a2 d.bd.length c2)
                  have e1 : Bx _ B #[.slice a0 d.st.length c0, .slice a1 d.sp.length c1, .slice a2 d.bd.length c2, .float .f64 d.off, .int .i64 0, .int .i64 0, .int .i64 0, .int .i64 0, .int .i64 0, .int .i64 0, .int .i64 0, .int .i64 0, .int .i64 0, .int .i64 0] 27 := Bx.setCell e1 3 (.float .f64 d.off)
                  have e1 : Bx _ B #[.slice a0 d.st.length c0, .slice a1 d.sp.length c1, .slice a2 d.bd.length c2, .float .f64 d.off, .int .i64 d.bus, .int .i64 0, .int .i64 0, .int .i64 0, .int .i64 0, .int .i64 0, .int .i64 0, .int .i64 0, .int .i64 0, .int .i64 0] 27 := Bx.setCell e1 4 (.int .i64 d.bus)
                  have e1 : Bx _ B #[.slice a0 d.st.length c0, .slice a1 d.sp.length c1, .slice a2 d.bd.length c2, .float .f64 d.off, .int .i64 d.bus, .int .i64 d.busDaily, .int .i64 0, .int .i64 0, .int .i64 0, .int .i64 0, .int .i64 0, .int .i64 0, .int .i64 0, .int .i64 0] 27 := Bx.setCell e1 5 (.int .i64 d.busDaily)
                  have e1 : Bx _ B #[.slice a0 d.st.length c0, .slice a1 d.sp.length c1, .slice a2 d.bd.length c2, .float .f64 d.off, .int .i64 d.bus, .int .i64 d.busDaily, .int .i64 d.busWeekly, .int .i64 0, .int .i64 0, .int .i64 0, .int .i64 0, .int .i64 0, .int .i64 0, .int .i64 0] 27 := Bx.setCell e1 6 (.int .i64 d.busWeekly)
                  have e1 : Bx _ B #[.slice a0 d.st.length c0, .slice a1 d.sp.length c1, .slice a2 d.bd.length c2, .float .f64 d.off, .int .i64 d.bus, .int .i64 d.busDaily, .int .i64 d.busWeekly, .int .i64 d.hopper, .int .i64 0, .int .i64 0, .int .i64 0, .int .i64 0, .int .i64 0, .int .i64 0] 27 := Bx.setCell e1 7 (.int .i64 d.hopper)
                  have e1 : Bx _ B #[.slice a0 d.st.length c0, .slice a1 d.sp.length c1, .slice a2 d.bd.length c2, .float .f64 d.off, .int .i64 d.bus, .int .i64 d.busDaily, .int .i64 d.busWeekly, .int .i64 d.hopper, .int .i64 d.most, .int .i64 0, .int .i64 0, .int .i64 0, .int .i64 0, .int .i64 0] 27 := Bx.setCell e1 8 (.int .i64 d.most)
                  have e1 : Bx _ B #[.slice a0 d.st.length c0, .slice a1 d.sp.length c1, .slice a2 d.bd.length c2, .float .f64 d.off, .int .i64 d.bus, .int .i64 d.busDaily, .int .i64 d.busWeekly, .int .i64 d.hopper, .int .i64 d.most, .int .i64 d.longest, .int .i64 0, .int .i64 0, .int .i64 0, .int .i64 0] 27 := Bx.setCell e1 9 (.int .i64 d.longest)
                  have e1 : Bx _ B #[.slice a0 d.st.length c0, .slice a1 d.sp.length c1, .slice a2 d.bd.length c2, .float .f64 d.off, .int .i64 d.bus, .int .i64 d.busDaily, .int .i64 d.busWeekly, .int .i64 d.hopper, .int .i64 d.most, .int .i64 d.longest, .int .i64 d.change, .int .i64 0, .int .i64 0, .int .i64 0] 27 := Bx.setCell e1 10 (.int .i64 d.change)
                  have e1 : Bx _ B #[.slice a0 d.st.length c0, .slice a1 d.sp.length c1, .slice a2 d.bd.length c2, .float .f64 d.off, .int .i64 d.bus, .int .i64 d.busDaily, .int .i64 d.busWeekly, .int .i64 d.hopper, .int .i64 d.most, .int .i64 d.longest, .int .i64 d.change, .int .i64 d.passback, .int .i64 0, .int .i64 0] 27 := Bx.setCell e1 11 (.int .i64 d.passback)
                  have e1 : Bx _ B #[.slice a0 d.st.length c0, .slice a1 d.sp.length c1, .slice a2 d.bd.length c2, .float .f64 d.off, .int .i64 d.bus, .int .i64 d.busDaily, .int .i64 d.busWeekly, .int .i64 d.hopper, .int .i64 d.most, .int .i64 d.longest, .int .i64 d.change, .int .i64 d.passback, .int .i64 d.delay, .int .i64 0] 27 := Bx.setCell e1 12 (.int .i64 d.delay)
                  have e1 : Bx _ B #[.slice a0 d.st.length c0, .slice a1 d.sp.length c1, .slice a2 d.bd.length c2, .float .f64 d.off, .int .i64 d.bus, .int .i64 d.busDaily, .int .i64 d.busWeekly, .int .i64 d.hopper, .int .i64 d.most, .int .i64 d.longest, .int .i64 d.change, .int .i64 d.passback, .int .i64 d.delay, .int .i64 d.threshold] 27 := Bx.setCell e1 13 (.int .i64 d.threshold)
                  have e1 : Bx _ B #[.slice a0 d.st.length c0, .slice a1 d.sp.length c1, .slice a2 d.bd.length c2, .float .f64 d.off, .int .i64 d.bus, .int .i64 d.busDaily, .int .i64 d.busWeekly, .int .i64 d.hopper, .int .i64 d.most, .int .i64 d.longest, .int .i64 d.change, .int .i64 d.passback, .int .i64 d.delay, .int .i64 d.threshold] 27 := Bx.setOther e1 hBR 0 (.int .i64 0)
                  have e1 : Bx _ B #[.slice a0 d.st.length c0, .slice a1 d.sp.length c1, .slice a2 d.bd.length c2, .float .f64 d.off, .int .i64 d.bus, .int .i64 d.busDaily, .int .i64 d.busWeekly, .int .i64 d.hopper, .int .i64 d.most, .int .i64 d.longest, .int .i64 d.change, .int .i64 d.passback, .int .i64 d.delay, .int .i64 d.threshold] 27 := Bx.setOther e1 hBR 1 (.int .i64 0)
                  have e2 := (Bx.setCell (Bx.setCell (Bx.setOther (Bx.setOther (Bx.setOther (Bx.setOther (Bx.setOther (Bx.setOther (Bx.setOther (Bx.setOther (Bx.setOther (Bx.setOther (Bx.setOther (Bx.setOther (Bx.setOther (Bx.setOther k2 hRB 0 (.slice a0 d.st.length c0)) hRB 1 (.slice a1 d.sp.length c1)) hRB 2 (.slice a2 d.bd.length c2)) hRB 3 (.float .f64 d.off)) hRB 4 (.int .i64 d.bus)) hRB 5 (.int .i64 d.busDaily)) hRB 6 (.int .i64 d.busWeekly)) hRB 7 (.int .i64 d.hopper)) hRB 8 (.int .i64 d.most)) hRB 9 (.int .i64 d.longest)) hRB 10 (.int .i64 d.change)) hRB 11 (.int .i64 d.passback)) hRB 12 (.int .i64 d.delay)) hRB 13 (.int .i64 d.threshold)) 0 (.int .i64 0)) 1 (.int .i64 0))
                  have e3 : Fr (fun _ => False) w ((((((((((((((((((w6.setCell ⟨B, 0, none⟩ (.slice a0 d.st.length c0)).setCell ⟨B, 1, none⟩ (.slice a1 d.sp.length c1)).setCell ⟨B, 2, none⟩ (.slice a2 d.bd.length c2)).setCell ⟨B, 3, none⟩ (.float .f64 d.off)).setCell ⟨B, 4, none⟩ (.int .i64 d.bus)).setCell ⟨B, 5, none⟩ (.int .i64 d.busDaily)).setCell ⟨B, 6, none⟩ (.int .i64 d.busWeekly)).setCell ⟨B, 7, none⟩ (.int .i64 d.hopper)).setCell ⟨B, 8, none⟩ (.int .i64 d.most)).setCell ⟨B, 9, none⟩ (.int .i64 d.longest)).setCell ⟨B, 10, none⟩ (.int .i64 d.change)).setCell ⟨B, 11, none⟩ (.int .i64 d.passback)).setCell ⟨B, 12, none⟩ (.int .i64 d.delay)).setCell ⟨B, 13, none⟩ (.int .i64 d.threshold)).setCell ⟨R1, 0, none⟩ (.int .i64 0)).setCell ⟨R1, 1, none⟩ (.int .i64 0))).drew) := Fr.drew ((Fr.setCell (Fr.setCell (Fr.setCell (Fr.setCell (Fr.setCell (Fr.setCell (Fr.setCell (Fr.setCell (Fr.setCell (Fr.setCell (Fr.setCell (Fr.setCell (Fr.setCell (Fr.setCell (Fr.setCell (Fr.setCell k0 (p := ⟨B, 0, none⟩) (fun h => absurd h (unhide HBL).1) (.slice a0 d.st.length c0)) (p := ⟨B, 1, none⟩) (fun h => absurd h (unhide HBL).1) (.slice a1 d.sp.length c1)) (p := ⟨B, 2, none⟩) (fun h => absurd h (unhide HBL).1) (.slice a2 d.bd.length c2)) (p := ⟨B, 3, none⟩) (fun h => absurd h (unhide HBL).1) (.float .f64 d.off)) (p := ⟨B, 4, none⟩) (fun h => absurd h (unhide HBL).1) (.int .i64 d.bus)) (p := ⟨B, 5, none⟩) (fun h => absurd h (unhide HBL).1) (.int .i64 d.busDaily)) (p := ⟨B, 6, none⟩) (fun h => absurd h (unhide HBL).1) (.int .i64 d.busWeekly)) (p := ⟨B, 7, none⟩) (fun h => absurd h (unhide HBL).1) (.int .i64 d.hopper)) (p := ⟨B, 8, none⟩) (fun h => absurd h (unhide HBL).1) (.int .i64 d.most)) (p := ⟨B, 9, none⟩) (fun h => absurd h (unhide HBL).1) (.int .i64 d.longest)) (p := ⟨B, 10, none⟩) (fun h => absurd h (unhide HBL).1) (.int .i64 d.change)) (p := ⟨B, 11, none⟩) (fun h => absurd h (unhide HBL).1) (.int .i64 d.passback)) (p := ⟨B, 12, none⟩) (fun h => absurd h (unhide HBL).1) (.int .i64 d.delay)) (p := ⟨B, 13, none⟩) (fun h => absurd h (unhide HBL).1) (.int .i64 d.threshold)) (p := ⟨R1, 0, none⟩) (fun h => absurd h (unhide HBL).2) (.int .i64 0)) (p := ⟨R1, 1, none⟩) (fun h => absurd h (unhide HBL).2) (.int .i64 0)))
                  exact bodyPost_ret (v := .tuple #[.agg #[.slice a0 d.st.length c0, .slice a1 d.sp.length c1, .slice a2 d.bd.length c2, .float .f64 d.off, .int .i64 d.bus, .int .i64 d.busDaily, .int .i64 d.busWeekly, .int .i64 d.hopper, .int .i64 d.most, .int .i64 d.longest, .int .i64 d.change, .int .i64 d.passback, .int .i64 d.delay, .int .i64 d.threshold], .agg #[.int .i64 0, .int .i64 0]]) (results_bx2 rfl _ rfl rfl e1.drew e2.drew Tryz.underlying27 rfl (tar_size _ rfl) Tryz.underlying37 rfl (fault_size _ _)) rfl ⟨⟨a0, c0, a1, c1, a2, c2⟩, g0, g1, g2, by first | rfl | (rw [unhide HRE]; rfl), (by rw [unhide HRE]; exact TNew.later ((TNew.go (unhide HX6).2.1 (S := fun q => q = B ∨ q = R1) ((Fr.setCell (Fr.setCell (Fr.setCell (Fr.setCell (Fr.setCell (Fr.setCell (Fr.setCell (Fr.setCell (Fr.setCell (Fr.setCell (Fr.setCell (Fr.setCell (Fr.setCell (Fr.setCell (Fr.setCell (Fr.setCell (Fr.refl _ w6) (p := ⟨B, 0, none⟩) (fun _ => Or.inl rfl) (.slice a0 d.st.length c0)) (p := ⟨B, 1, none⟩) (fun _ => Or.inl rfl) (.slice a1 d.sp.length c1)) (p := ⟨B, 2, none⟩) (fun _ => Or.inl rfl) (.slice a2 d.bd.length c2)) (p := ⟨B, 3, none⟩) (fun _ => Or.inl rfl) (.float .f64 d.off)) (p := ⟨B, 4, none⟩) (fun _ => Or.inl rfl) (.int .i64 d.bus)) (p := ⟨B, 5, none⟩) (fun _ => Or.inl rfl) (.int .i64 d.busDaily)) (p := ⟨B, 6, none⟩) (fun _ => Or.inl rfl) (.int .i64 d.busWeekly)) (p := ⟨B, 7, none⟩) (fun _ => Or.inl rfl) (.int .i64 d.hopper)) (p := ⟨B, 8, none⟩) (fun _ => Or.inl rfl) (.int .i64 d.most)) (p := ⟨B, 9, none⟩) (fun _ => Or.inl rfl) (.int .i64 d.longest)) (p := ⟨B, 10, none⟩) (fun _ => Or.inl rfl) (.int .i64 d.change)) (p := ⟨B, 11, none⟩) (fun _ => Or.inl rfl) (.int .i64 d.passback)) (p := ⟨B, 12, none⟩) (fun _ => Or.inl rfl) (.int .i64 d.delay)) (p := ⟨B, 13, none⟩) (fun _ => Or.inl rfl) (.int .i64 d.threshold)) (p := ⟨R1, 0, none⟩) (fun _ => Or.inr rfl) (.int .i64 0)) (p := ⟨R1, 1, none⟩) (fun _ => Or.inr rfl) (.int .i64 0))) (fun q hq => by have := unhide HLT; omega)).go ((Fr.refl (fun _ => False) _).drew) (fun _ t => t.elim)) (by have := unhide HLT; omega)), e3⟩
                · have hev : (ev != 0) = true := by simp [he]
                  rw [if_neg he] at HRE
                  go_wp2
                  obtain ⟨k0, k1, k2⟩ : Fr (fun _ => False) w w6 ∧ Bx w6 B #[.slice none 0 0, .slice none 0 0, .slice none 0 0, .float .f64 0, .int .i64 0, .int .i64 0, .int .i64 0, .int .i64 0, .int .i64 0, .int .i64 0, .int .i64 0, .int .i64 0, .int .i64 0, .int .i64 0] 27 ∧ Bx w6 R1 #[.int .i64 0, .int .i64 0] 37 := ⟨(unhide HX6).1.fr, (unhide HX6).1.b, (unhide HX6).1.f⟩
                  have e1 : Bx _ B #[.slice none 0 0, .slice none 0 0, .slice none 0 0, .float .f64 0, .int .i64 0, .int .i64 0, .int .i64 0, .int .i64 0, .int .i64 0, .int .i64 0, .int .i64 0, .int .i64 0, .int .i64 0, .int .i64 0] 27 := Bx.setCell k1 0 (.slice none 0 0)
                  have e1 : Bx _ B #[.slice none 0 0, .slice none 0 0, .slice none 0 0, .float .f64 0, .int .i64 0, .int .i64 0, .int .i64 0, .int .i64 0, .int .i64 0, .int .i64 0, .int .i64 0, .int .i64 0, .int .i64 0, .int .i64 0] 27 := Bx.setCell e1 1 (.slice none 0 0)
                  have e1 : Bx _ B #[.slice none 0 0, .slice none 0 0, .slice none 0 0, .float .f64 0, .int .i64 0, .int .i64 0, .int .i64 0, .int .i64 0, .int .i64 0, .int .i64 0, .int .i64 0, .int .i64 0, .int .i64 0, .int .i64 0] 27 := Bx.setCell e1 2 (.slice none 0 0)
                  have e1 : Bx _ B #[.slice none 0 0, .slice none 0 0, .slice none 0 0, .float .f64 0, .int .i64 0, .int .i64 0, .int .i64 0, .int .i64 0, .int .i64 0, .int .i64 0, .int .i64 0, .int .i64 0, .int .i64 0, .int .i64 0] 27 := Bx.setCell e1 3 (.float .f64 0)
                  have e1 : Bx _ B #[.slice none 0 0, .slice none 0 0, .slice none 0 0, .float .f64 0, .int .i64 0, .int .i64 0, .int .i64 0, .int .i64 0, .int .i64 0, .int .i64 0, .int .i64 0, .int .i64 0, .int .i64 0, .int .i64 0] 27 := Bx.setCell e1 4 (.int .i64 0)
                  have e1 : Bx _ B #[.slice none 0 0, .slice none 0 0, .slice none 0 0, .float .f64 0, .int .i64 0, .int .i64 0, .int .i64 0, .int .i64 0, .int .i64 0, .int .i64 0, .int .i64 0, .int .i64 0, .int .i64 0, .int .i64 0] 27 := Bx.setCell e1 5 (.int .i64 0)
                  have e1 : Bx _ B #[.slice none 0 0, .slice none 0 0, .slice none 0 0, .float .f64 0, .int .i64 0, .int .i64 0, .int .i64 0, .int .i64 0, .int .i64 0, .int .i64 0, .int .i64 0, .int .i64 0, .int .i64 0, .int .i64 0] 27 := Bx.setCell e1 6 (.int .i64 0)
                  have e1 : Bx _ B #[.slice none 0 0, .slice none 0 0, .slice none 0 0, .float .f64 0, .int .i64 0, .int .i64 0, .int .i64 0, .int .i64 0, .int .i64 0, .int .i64 0, .int .i64 0, .int .i64 0, .int .i64 0, .int .i64 0] 27 := Bx.setCell e1 7 (.int .i64 0)
                  have e1 : Bx _ B #[.slice none 0 0, .slice none 0 0, .slice none 0 0, .float .f64 0, .int .i64 0, .int .i64 0, .int .i64 0, .int .i64 0, .int .i64 0, .int .i64 0, .int .i64 0, .int .i64 0, .int .i64 0, .int .i64 0] 27 := Bx.setCell e1 8 (.int .i64 0)
                  have e1 : Bx _ B #[.slice none 0 0, .slice none 0 0, .slice none 0 0, .float .f64 0, .int .i64 0, .int .i64 0, .int .i64 0, .int .i64 0, .int .i64 0, .int .i64 0, .int .i64 0, .int .i64 0, .int .i64 0, .int .i64 0] 27 := Bx.setCell e1 9 (.int .i64 0)
                  have e1 : Bx _ B #[.slice none 0 0, .slice none 0 0, .slice none 0 0, .float .f64 0, .int .i64 0, .int .i64 0, .int .i64 0, .int .i64 0, .int .i64 0, .int .i64 0, .int .i64 0, .int .i64 0, .int .i64 0, .int .i64 0] 27 := Bx.setCell e1 10 (.int .i64 0)
                  have e1 : Bx _ B #[.slice none 0 0, .slice none 0 0, .slice none 0 0, .float .f64 0, .int .i64 0, .int .i64 0, .int .i64 0, .int .i64 0, .int .i64 0, .int .i64 0, .int .i64 0, .int .i64 0, .int .i64 0, .int .i64 0] 27 := Bx.setCell e1 11 (.int .i64 0)
                  have e1 : Bx _ B #[.slice none 0 0, .slice none 0 0, .slice none 0 0, .float .f64 0, .int .i64 0, .int .i64 0, .int .i64 0, .int .i64 0, .int .i64 0, .int .i64 0, .int .i64 0, .int .i64 0, .int .i64 0, .int .i64 0] 27 := Bx.setCell e1 12 (.int .i64 0)
                  have e1 : Bx _ B #[.slice none 0 0, .slice none 0 0, .slice none 0 0, .float .f64 0, .int .i64 0, .int .i64 0, .int .i64 0, .int .i64 0, .int .i64 0, .int .i64 0, .int .i64 0, .int .i64 0, .int .i64 0, .int .i64 0] 27 := Bx.setCell e1 13 (.int .i64 0)
                  have e1 : Bx _ B #[.slice none 0 0, .slice none 0 0, .slice none 0 0, .float .f64 0, .int .i64 0, .int .i64 0, .int .i64 0, .int .i64 0, .int .i64 0, .int .i64 0, .int .i64 0, .int .i64 0, .int .i64 0, .int .i64 0] 27 := Bx.setOther e1 hBR 0 (.int .i64 ev)
                  have e1 : Bx _ B #[.slice none 0 0, .slice none 0 0, .slice none 0 0, .float .f64 0, .int .i64 0, .int .i64 0, .int .i64 0, .int .i64 0, .int .i64 0, .int .i64 0, .int .i64 0, .int .i64 0, .int .i64 0, .int .i64 0] 27 := Bx.setOther e1 hBR 1 (.int .i64 (-1))
                  have e2 := (Bx.setCell (Bx.setCell (Bx.setOther (Bx.setOther (Bx.setOther (Bx.setOther (Bx.setOther (Bx.setOther (Bx.setOther (Bx.setOther (Bx.setOther (Bx.setOther (Bx.setOther (Bx.setOther (Bx.setOther (Bx.setOther k2 hRB 0 (.slice none 0 0)) hRB 1 (.slice none 0 0)) hRB 2 (.slice none 0 0)) hRB 3 (.float .f64 0)) hRB 4 (.int .i64 0)) hRB 5 (.int .i64 0)) hRB 6 (.int .i64 0)) hRB 7 (.int .i64 0)) hRB 8 (.int .i64 0)) hRB 9 (.int .i64 0)) hRB 10 (.int .i64 0)) hRB 11 (.int .i64 0)) hRB 12 (.int .i64 0)) hRB 13 (.int .i64 0)) 0 (.int .i64 ev)) 1 (.int .i64 (-1)))
                  have e3 : Fr (fun _ => False) w (((((((((((((((((w6.setCell ⟨B, 0, none⟩ (.slice none 0 0)).setCell ⟨B, 1, none⟩ (.slice none 0 0)).setCell ⟨B, 2, none⟩ (.slice none 0 0)).setCell ⟨B, 3, none⟩ (.float .f64 0)).setCell ⟨B, 4, none⟩ (.int .i64 0)).setCell ⟨B, 5, none⟩ (.int .i64 0)).setCell ⟨B, 6, none⟩ (.int .i64 0)).setCell ⟨B, 7, none⟩ (.int .i64 0)).setCell ⟨B, 8, none⟩ (.int .i64 0)).setCell ⟨B, 9, none⟩ (.int .i64 0)).setCell ⟨B, 10, none⟩ (.int .i64 0)).setCell ⟨B, 11, none⟩ (.int .i64 0)).setCell ⟨B, 12, none⟩ (.int .i64 0)).setCell ⟨B, 13, none⟩ (.int .i64 0)).setCell ⟨R1, 0, none⟩ (.int .i64 ev)).setCell ⟨R1, 1, none⟩ (.int .i64 (-1)))) := (Fr.setCell (Fr.setCell (Fr.setCell (Fr.setCell (Fr.setCell (Fr.setCell (Fr.setCell (Fr.setCell (Fr.setCell (Fr.setCell (Fr.setCell (Fr.setCell (Fr.setCell (Fr.setCell (Fr.setCell (Fr.setCell k0 (p := ⟨B, 0, none⟩) (fun h => absurd h (unhide HBL).1) (.slice none 0 0)) (p := ⟨B, 1, none⟩) (fun h => absurd h (unhide HBL).1) (.slice none 0 0)) (p := ⟨B, 2, none⟩) (fun h => absurd h (unhide HBL).1) (.slice none 0 0)) (p := ⟨B, 3, none⟩) (fun h => absurd h (unhide HBL).1) (.float .f64 0)) (p := ⟨B, 4, none⟩) (fun h => absurd h (unhide HBL).1) (.int .i64 0)) (p := ⟨B, 5, none⟩) (fun h => absurd h (unhide HBL).1) (.int .i64 0)) (p := ⟨B, 6, none⟩) (fun h => absurd h (unhide HBL).1) (.int .i64 0)) (p := ⟨B, 7, none⟩) (fun h => absurd h (unhide HBL).1) (.int .i64 0)) (p := ⟨B, 8, none⟩) (fun h => absurd h (unhide HBL).1) (.int .i64 0)) (p := ⟨B, 9, none⟩) (fun h => absurd h (unhide HBL).1) (.int .i64 0)) (p := ⟨B, 10, none⟩) (fun h => absurd h (unhide HBL).1) (.int .i64 0)) (p := ⟨B, 11, none⟩) (fun h => absurd h (unhide HBL).1) (.int .i64 0)) (p := ⟨B, 12, none⟩) (fun h => absurd h (unhide HBL).1) (.int .i64 0)) (p := ⟨B, 13, none⟩) (fun h => absurd h (unhide HBL).1) (.int .i64 0)) (p := ⟨R1, 0, none⟩) (fun h => absurd h (unhide HBL).2) (.int .i64 ev)) (p := ⟨R1, 1, none⟩) (fun h => absurd h (unhide HBL).2) (.int .i64 (-1)))
                  exact bodyPost_ret (v := .tuple #[.agg #[.slice none 0 0, .slice none 0 0, .slice none 0 0, .float .f64 0, .int .i64 0, .int .i64 0, .int .i64 0, .int .i64 0, .int .i64 0, .int .i64 0, .int .i64 0, .int .i64 0, .int .i64 0, .int .i64 0], .agg #[.int .i64 ev, .int .i64 (-1)]]) (results_bx2 rfl _ rfl rfl e1 e2 Tryz.underlying27 rfl (tar_size _ rfl) Tryz.underlying37 rfl (fault_size _ _)) rfl ⟨adZ, 0, 0, 0, by first | rfl | (rw [unhide HRE]; rfl), (by first | exact TNew.zero _ _ | (rw [unhide HRE]; exact TNew.zero _ _)), e3⟩
              · have hcb : (c != 0) = true := by simp [hc]
                have HRE : Hid (R = (tarZ, c, f)) := hide (by rw [unhide HRR, if_pos hc])
                clear hc HRR HCL2
                have r0 : w5.cell? ⟨B, 0, none⟩ = some (.slice none 0 0) := (unhide HX5).1.b.cell 0
                have s0 : w5.frozen? ⟨B, 0, none⟩ = false := (unhide HX5).1.b.frozen 0
                have r1 : w5.cell? ⟨B, 1, none⟩ = some (.slice none 0 0) := (unhide HX5).1.b.cell 1
                have s1 : w5.frozen? ⟨B, 1, none⟩ = false := (unhide HX5).1.b.frozen 1
                have r2 : w5.cell? ⟨B, 2, none⟩ = some (.slice none 0 0) := (unhide HX5).1.b.cell 2
                have s2 : w5.frozen? ⟨B, 2, none⟩ = false := (unhide HX5).1.b.frozen 2
                have r3 : w5.cell? ⟨B, 3, none⟩ = some (.float .f64 0) := (unhide HX5).1.b.cell 3
                have s3 : w5.frozen? ⟨B, 3, none⟩ = false := (unhide HX5).1.b.frozen 3
                have r4 : w5.cell? ⟨B, 4, none⟩ = some (.int .i64 0) := (unhide HX5).1.b.cell 4
                have s4 : w5.frozen? ⟨B, 4, none⟩ = false := (unhide HX5).1.b.frozen 4
                have r5 : w5.cell? ⟨B, 5, none⟩ = some (.int .i64 0) := (unhide HX5).1.b.cell 5
                have s5 : w5.frozen? ⟨B, 5, none⟩ = false := (unhide HX5).1.b.frozen 5
                have r6 : w5.cell? ⟨B, 6, none⟩ = some (.int .i64 0) := (unhide HX5).1.b.cell 6
                have s6 : w5.frozen? ⟨B, 6, none⟩ = false := (unhide HX5).1.b.frozen 6
                have r7 : w5.cell? ⟨B, 7, none⟩ = some (.int .i64 0) := (unhide HX5).1.b.cell 7
                have s7 : w5.frozen? ⟨B, 7, none⟩ = false := (unhide HX5).1.b.frozen 7
                have r8 : w5.cell? ⟨B, 8, none⟩ = some (.int .i64 0) := (unhide HX5).1.b.cell 8
                have s8 : w5.frozen? ⟨B, 8, none⟩ = false := (unhide HX5).1.b.frozen 8
                have r9 : w5.cell? ⟨B, 9, none⟩ = some (.int .i64 0) := (unhide HX5).1.b.cell 9
                have s9 : w5.frozen? ⟨B, 9, none⟩ = false := (unhide HX5).1.b.frozen 9
                have r10 : w5.cell? ⟨B, 10, none⟩ = some (.int .i64 0) := (unhide HX5).1.b.cell 10
                have s10 : w5.frozen? ⟨B, 10, none⟩ = false := (unhide HX5).1.b.frozen 10
                have r11 : w5.cell? ⟨B, 11, none⟩ = some (.int .i64 0) := (unhide HX5).1.b.cell 11
                have s11 : w5.frozen? ⟨B, 11, none⟩ = false := (unhide HX5).1.b.frozen 11
                have r12 : w5.cell? ⟨B, 12, none⟩ = some (.int .i64 0) := (unhide HX5).1.b.cell 12
                have s12 : w5.frozen? ⟨B, 12, none⟩ = false := (unhide HX5).1.b.frozen 12
                have r13 : w5.cell? ⟨B, 13, none⟩ = some (.int .i64 0) := (unhide HX5).1.b.cell 13
                have s13 : w5.frozen? ⟨B, 13, none⟩ = false := (unhide HX5).1.b.frozen 13
                have u0_ : w5.cell? ⟨R1, 0, none⟩ = some (.int .i64 0) := (unhide HX5).1.f.cell 0
                have v0_ : w5.frozen? ⟨R1, 0, none⟩ = false := (unhide HX5).1.f.frozen 0
                have u1_ : w5.cell? ⟨R1, 1, none⟩ = some (.int .i64 0) := (unhide HX5).1.f.cell 1
                have v1_ : w5.frozen? ⟨R1, 1, none⟩ = false := (unhide HX5).1.f.frozen 1
                have z0_ : w5.cell? ⟨Fb, 0, none⟩ = some (.int .i64 c) := (unhide HX5).2.2.1.cell 0
                have z1_ : w5.cell? ⟨Fb, 1, none⟩ = some (.int .i64 f) := (unhide HX5).2.2.1.cell 1
                go_wp2_with fail
                go_region_held3 (fun w' => w'.cell? ⟨Fb, 0, none⟩ = some (.int .i64 c) ∧ w'.cell? ⟨Fb, 1, none⟩ = some (.int .i64 f)) (go_keep) (fail)
                go_wp2
                obtain ⟨k0, k1, k2⟩ : Fr (fun _ => False) w w5 ∧ Bx w5 B #[.slice none 0 0, .slice none 0 0, .slice none 0 0, .float .f64 0, .int .i64 0, .int .i64 0, .int .i64 0, .int .i64 0, .int .i64 0, .int .i64 0, .int .i64 0, .int .i64 0, .int .i64 0, .int .i64 0] 27 ∧ Bx w5 R1 #[.int .i64 0, .int .i64 0] 37 := ⟨(unhide HX5).1.fr, (unhide HX5).1.b, (unhide HX5).1.f⟩
                have e1 : Bx _ B #[.slice none 0 0, .slice none 0 0, .slice none 0 0, .float .f64 0, .int .i64 0, .int .i64 0, .int .i64 0, .int .i64 0, .int .i64 0, .int .i64 0, .int .i64 0, .int .i64 0, .int .i64 0, .int .i64 0] 27 := Bx.setCell k1 0 (.slice none 0 0)
                have e1 : Bx _ B #[.slice none 0 0, .slice none 0 0, .slice none 0 0, .float .f64 0, .int .i64 0, .int .i64 0, .int .i64 0, .int .i64 0, .int .i64 0, .int .i64 0, .int .i64 0, .int .i64 0, .int .i64 0, .int .i64 0] 27 := Bx.setCell e1 1 (.slice none 0 0)
                have e1 : Bx _ B #[.slice none 0 0, .slice none 0 0, .slice none 0 0, .float .f64 0, .int .i64 0, .int .i64 0, .int .i64 0, .int .i64 0, .int .i64 0, .int .i64 0, .int .i64 0, .int .i64 0, .int .i64 0, .int .i64 0] 27 := Bx.setCell e1 2 (.slice none 0 0)
                have e1 : Bx _ B #[.slice none 0 0, .slice none 0 0, .slice none 0 0, .float .f64 0, .int .i64 0, .int .i64 0, .int .i64 0, .int .i64 0, .int .i64 0, .int .i64 0, .int .i64 0, .int .i64 0, .int .i64 0, .int .i64 0] 27 := Bx.setCell e1 3 (.float .f64 0)
                have e1 : Bx _ B #[.slice none 0 0, .slice none 0 0, .slice none 0 0, .float .f64 0, .int .i64 0, .int .i64 0, .int .i64 0, .int .i64 0, .int .i64 0, .int .i64 0, .int .i64 0, .int .i64 0, .int .i64 0, .int .i64 0] 27 := Bx.setCell e1 4 (.int .i64 0)
                have e1 : Bx _ B #[.slice none 0 0, .slice none 0 0, .slice none 0 0, .float .f64 0, .int .i64 0, .int .i64 0, .int .i64 0, .int .i64 0, .int .i64 0, .int .i64 0, .int .i64 0, .int .i64 0, .int .i64 0, .int .i64 0] 27 := Bx.setCell e1 5 (.int .i64 0)
                have e1 : Bx _ B #[.slice none 0 0, .slice none 0 0, .slice none 0 0, .float .f64 0, .int .i64 0, .int .i64 0, .int .i64 0, .int .i64 0, .int .i64 0, .int .i64 0, .int .i64 0, .int .i64 0, .int .i64 0, .int .i64 0] 27 := Bx.setCell e1 6 (.int .i64 0)
                have e1 : Bx _ B #[.slice none 0 0, .slice none 0 0, .slice none 0 0, .float .f64 0, .int .i64 0, .int .i64 0, .int .i64 0, .int .i64 0, .int .i64 0, .int .i64 0, .int .i64 0, .int .i64 0, .int .i64 0, .int .i64 0] 27 := Bx.setCell e1 7 (.int .i64 0)
                have e1 : Bx _ B #[.slice none 0 0, .slice none 0 0, .slice none 0 0, .float .f64 0, .int .i64 0, .int .i64 0, .int .i64 0, .int .i64 0, .int .i64 0, .int .i64 0, .int .i64 0, .int .i64 0, .int .i64 0, .int .i64 0] 27 := Bx.setCell e1 8 (.int .i64 0)
                have e1 : Bx _ B #[.slice none 0 0, .slice none 0 0, .slice none 0 0, .float .f64 0, .int .i64 0, .int .i64 0, .int .i64 0, .int .i64 0, .int .i64 0, .int .i64 0, .int .i64 0, .int .i64 0, .int .i64 0, .int .i64 0] 27 := Bx.setCell e1 9 (.int .i64 0)
                have e1 : Bx _ B #[.slice none 0 0, .slice none 0 0, .slice none 0 0, .float .f64 0, .int .i64 0, .int .i64 0, .int .i64 0, .int .i64 0, .int .i64 0, .int .i64 0, .int .i64 0, .int .i64 0, .int .i64 0, .int .i64 0] 27 := Bx.setCell e1 10 (.int .i64 0)
                have e1 : Bx _ B #[.slice none 0 0, .slice none 0 0, .slice none 0 0, .float .f64 0, .int .i64 0, .int .i64 0, .int .i64 0, .int .i64 0, .int .i64 0, .int .i64 0, .int .i64 0, .int .i64 0, .int .i64 0, .int .i64 0] 27 := Bx.setCell e1 11 (.int .i64 0)
                have e1 : Bx _ B #[.slice none 0 0, .slice none 0 0, .slice none 0 0, .float .f64 0, .int .i64 0, .int .i64 0, .int .i64 0, .int .i64 0, .int .i64 0, .int .i64 0, .int .i64 0, .int .i64 0, .int .i64 0, .int .i64 0] 27 := Bx.setCell e1 12 (.int .i64 0)
                have e1 : Bx _ B #[.slice none 0 0, .slice none 0 0, .slice none 0 0, .float .f64 0, .int .i64 0, .int .i64 0, .int .i64 0, .int .i64 0, .int .i64 0, .int .i64 0, .int .i64 0, .int .i64 0, .int .i64 0, .int .i64 0] 27 := Bx.setCell e1 13 (.int .i64 0)
                have e1 : Bx _ B #[.slice none 0 0, .slice none 0 0, .slice none 0 0, .float .f64 0, .int .i64 0, .int .i64 0, .int .i64 0, .int .i64 0, .int .i64 0, .int .i64 0, .int .i64 0, .int .i64 0, .int .i64 0, .int .i64 0] 27 := Bx.setOther e1 hBR 0 (.int .i64 c)
                have e1 : Bx _ B #[.slice none 0 0, .slice none 0 0, .slice none 0 0, .float .f64 0, .int .i64 0, .int .i64 0, .int .i64 0, .int .i64 0, .int .i64 0, .int .i64 0, .int .i64 0, .int .i64 0, .int .i64 0, .int .i64 0] 27 := Bx.setOther e1 hBR 1 (.int .i64 f)
                have e2 := (Bx.setCell (Bx.setCell (Bx.setOther (Bx.setOther (Bx.setOther (Bx.setOther (Bx.setOther (Bx.setOther (Bx.setOther (Bx.setOther (Bx.setOther (Bx.setOther (Bx.setOther (Bx.setOther (Bx.setOther (Bx.setOther k2 hRB 0 (.slice none 0 0)) hRB 1 (.slice none 0 0)) hRB 2 (.slice none 0 0)) hRB 3 (.float .f64 0)) hRB 4 (.int .i64 0)) hRB 5 (.int .i64 0)) hRB 6 (.int .i64 0)) hRB 7 (.int .i64 0)) hRB 8 (.int .i64 0)) hRB 9 (.int .i64 0)) hRB 10 (.int .i64 0)) hRB 11 (.int .i64 0)) hRB 12 (.int .i64 0)) hRB 13 (.int .i64 0)) 0 (.int .i64 c)) 1 (.int .i64 f))
                have e3 : Fr (fun _ => False) w ((((((((((((((((((w5.setCell ⟨B, 0, none⟩ (.slice none 0 0)).setCell ⟨B, 1, none⟩ (.slice none 0 0)).setCell ⟨B, 2, none⟩ (.slice none 0 0)).setCell ⟨B, 3, none⟩ (.float .f64 0)).setCell ⟨B, 4, none⟩ (.int .i64 0)).setCell ⟨B, 5, none⟩ (.int .i64 0)).setCell ⟨B, 6, none⟩ (.int .i64 0)).setCell ⟨B, 7, none⟩ (.int .i64 0)).setCell ⟨B, 8, none⟩ (.int .i64 0)).setCell ⟨B, 9, none⟩ (.int .i64 0)).setCell ⟨B, 10, none⟩ (.int .i64 0)).setCell ⟨B, 11, none⟩ (.int .i64 0)).setCell ⟨B, 12, none⟩ (.int .i64 0)).setCell ⟨B, 13, none⟩ (.int .i64 0)).setCell ⟨R1, 0, none⟩ (.int .i64 c)).setCell ⟨R1, 1, none⟩ (.int .i64 f))).drew) := Fr.drew ((Fr.setCell (Fr.setCell (Fr.setCell (Fr.setCell (Fr.setCell (Fr.setCell (Fr.setCell (Fr.setCell (Fr.setCell (Fr.setCell (Fr.setCell (Fr.setCell (Fr.setCell (Fr.setCell (Fr.setCell (Fr.setCell k0 (p := ⟨B, 0, none⟩) (fun h => absurd h (unhide HBL).1) (.slice none 0 0)) (p := ⟨B, 1, none⟩) (fun h => absurd h (unhide HBL).1) (.slice none 0 0)) (p := ⟨B, 2, none⟩) (fun h => absurd h (unhide HBL).1) (.slice none 0 0)) (p := ⟨B, 3, none⟩) (fun h => absurd h (unhide HBL).1) (.float .f64 0)) (p := ⟨B, 4, none⟩) (fun h => absurd h (unhide HBL).1) (.int .i64 0)) (p := ⟨B, 5, none⟩) (fun h => absurd h (unhide HBL).1) (.int .i64 0)) (p := ⟨B, 6, none⟩) (fun h => absurd h (unhide HBL).1) (.int .i64 0)) (p := ⟨B, 7, none⟩) (fun h => absurd h (unhide HBL).1) (.int .i64 0)) (p := ⟨B, 8, none⟩) (fun h => absurd h (unhide HBL).1) (.int .i64 0)) (p := ⟨B, 9, none⟩) (fun h => absurd h (unhide HBL).1) (.int .i64 0)) (p := ⟨B, 10, none⟩) (fun h => absurd h (unhide HBL).1) (.int .i64 0)) (p := ⟨B, 11, none⟩) (fun h => absurd h (unhide HBL).1) (.int .i64 0)) (p := ⟨B, 12, none⟩) (fun h => absurd h (unhide HBL).1) (.int .i64 0)) (p := ⟨B, 13, none⟩) (fun h => absurd h (unhide HBL).1) (.int .i64 0)) (p := ⟨R1, 0, none⟩) (fun h => absurd h (unhide HBL).2) (.int .i64 c)) (p := ⟨R1, 1, none⟩) (fun h => absurd h (unhide HBL).2) (.int .i64 f)))
                exact bodyPost_ret (v := .tuple #[.agg #[.slice none 0 0, .slice none 0 0, .slice none 0 0, .float .f64 0, .int .i64 0, .int .i64 0, .int .i64 0, .int .i64 0, .int .i64 0, .int .i64 0, .int .i64 0, .int .i64 0, .int .i64 0, .int .i64 0], .agg #[.int .i64 c, .int .i64 f]]) (results_bx2 rfl _ rfl rfl e1.drew e2.drew Tryz.underlying27 rfl (tar_size _ rfl) Tryz.underlying37 rfl (fault_size _ _)) rfl ⟨adZ, 0, 0, 0, by first | rfl | (rw [unhide HRE]; rfl), (by first | exact TNew.zero _ _ | (rw [unhide HRE]; exact TNew.zero _ _)), e3⟩

end Go.Proofs.YtkjoojamkbpfcaaGreat

