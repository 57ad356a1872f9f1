import Derived.Test.YtmhljehkodhggaaGreatU7
/- Package risk: two deltas as one. -/
namespace Go.Proofs.YtmhljehkodhggaaGreat
open Go.RowKit

def joinA (a b : Dl) : List ByteArray := eiL (woL a.add b.gone) (woL b.add a.gone)
def joinG (a b : Dl) : List ByteArray := eiL (woL a.gone b.add) (woL b.gone a.add)
/-- One delta for two, or what is wrong. -/
def joinR (a b : Dl) : Dl × Int := if joinE a b ≠ 0 then (dl0, joinE a b) else if 1000 < (joinA a b).length ∨ 1000 < (joinG a b).length then (dl0, 2) else (⟨b.ver, joinA a b, joinG a b⟩, 0)

theorem joinE_ok {a b : Dl} (h : joinE a b = 0) : deltaOk a = true ∧ deltaOk b = true ∧ b.ver - 1 = a.ver ∧ coL a.add b.add = [] ∧ coL a.gone b.gone = [] := by
  unfold joinE at h
  split at h
  · omega
  · rename_i h1
    split at h
    · omega
    · rename_i h2
      split at h
      · omega
      · rename_i h3
        split at h
        · omega
        · rename_i h4
          split at h
          · omega
          · rename_i h5
            exact ⟨by simpa using h1, by simpa using h2, by simpa using h3, List.eq_nil_of_length_eq_zero (by omega), List.eq_nil_of_length_eq_zero (by omega)⟩

set_option maxHeartbeats 4000000 in
set_option maxRecDepth 20000 in
theorem join_any (w : World) (d : Dl) (a1 : Option Addr) (c1 : Nat) (a2 : Option Addr) (c2 : Nat) (hd : DI w d a1 c1 a2 c2) (q : Dl) (b1 : Option Addr) (k1 : Nat) (b2 : Option Addr) (k2 : Nat) (hq : DI w q b1 k1 b2 k2) :
    Calls Tryz.prog 22 #[.agg (dlC d a1 c1 a2 c2), .agg (dlC q b1 k1 b2 k2)] w (Delta2 w (joinR d q)) := by
  have R1 := hide (fun (w1 : World) (hf : Fr (fun _ => False) w w1) => joinError_any w1 d a1 c1 a2 c2 (hd.keep hf) q b1 k1 b2 k2 (hq.keep hf))
  have HK : Hid (joinE d q = 0 → (d.add.length ≤ 1000 ∧ d.gone.length ≤ 1000) ∧ q.add.length ≤ 1000 ∧ q.gone.length ≤ 1000) := hide (fun h => by
    obtain ⟨i1, i2, _⟩ := joinE_ok h
    exact ⟨⟨listOk_len (deltaOk_iff.1 i1).2.1, listOk_len (deltaOk_iff.1 i1).2.2.1⟩, listOk_len (deltaOk_iff.1 i2).2.1, listOk_len (deltaOk_iff.1 i2).2.2.1⟩)
  have HL : Hid (((woL d.add q.gone).length ≤ d.add.length + q.gone.length ∧ (woL q.add d.gone).length ≤ q.add.length + d.gone.length) ∧ (woL d.gone q.add).length ≤ d.gone.length + q.add.length ∧ (woL q.gone d.add).length ≤ q.gone.length + d.add.length) := hide ⟨⟨woL_len _ _, woL_len _ _⟩, woL_len _ _, woL_len _ _⟩
  have RWA : Hid (∀ W, Fr (fun _ => False) w W → d.add.length ≤ 1000 → q.gone.length ≤ 1000 → ∀ w', Fr (fun _ => False) W w' → Calls Tryz.prog 30 #[.slice a1 d.add.length c1, .slice b2 q.gone.length k2] w' fun e w'' => ∃ ao cap g, e = .returned (.slice ao (woL d.add q.gone).length cap) ∧ LO W w'' ao cap g (woL d.add q.gone) ∧ Fr (fun _ => False) W w'' ∧ Fr (fun _ => False) w' w'') := hide (fun W h0 i1 i2 w' hf => (without_any w' d.add q.gone a1 c1 b2 k2 (hd.add.keep (h0.trans hf (fun _ _ t => t))) hd.n1 (hq.gone.keep (h0.trans hf (fun _ _ t => t))) hq.n2 (by omega) (by omega)).mono (fun e w'' ⟨ao, cap, g, e1, e2, e3⟩ => ⟨ao, cap, g, e1, e2.later hf.size, hf.trans e3 (fun _ _ t => t), e3⟩))
  have RWB : Hid (∀ W, Fr (fun _ => False) w W → q.add.length ≤ 1000 → d.gone.length ≤ 1000 → ∀ w', Fr (fun _ => False) W w' → Calls Tryz.prog 30 #[.slice b1 q.add.length k1, .slice a2 d.gone.length c2] w' fun e w'' => ∃ ao cap g, e = .returned (.slice ao (woL q.add d.gone).length cap) ∧ LO W w'' ao cap g (woL q.add d.gone) ∧ Fr (fun _ => False) W w'' ∧ Fr (fun _ => False) w' w'') := hide (fun W h0 i1 i2 w' hf => (without_any w' q.add d.gone b1 k1 a2 c2 (hq.add.keep (h0.trans hf (fun _ _ t => t))) hq.n1 (hd.gone.keep (h0.trans hf (fun _ _ t => t))) hd.n2 (by omega) (by omega)).mono (fun e w'' ⟨ao, cap, g, e1, e2, e3⟩ => ⟨ao, cap, g, e1, e2.later hf.size, hf.trans e3 (fun _ _ t => t), e3⟩))
  have RWC : Hid (∀ W, Fr (fun _ => False) w W → d.gone.length ≤ 1000 → q.add.length ≤ 1000 → ∀ w', Fr (fun _ => False) W w' → Calls Tryz.prog 30 #[.slice a2 d.gone.length c2, .slice b1 q.add.length k1] w' fun e w'' => ∃ ao cap g, e = .returned (.slice ao (woL d.gone q.add).length cap) ∧ LO W w'' ao cap g (woL d.gone q.add) ∧ Fr (fun _ => False) W w'' ∧ Fr (fun _ => False) w' w'') := hide (fun W h0 i1 i2 w' hf => (without_any w' d.gone q.add a2 c2 b1 k1 (hd.gone.keep (h0.trans hf (fun _ _ t => t))) hd.n2 (hq.add.keep (h0.trans hf (fun _ _ t => t))) hq.n1 (by omega) (by omega)).mono (fun e w'' ⟨ao, cap, g, e1, e2, e3⟩ => ⟨ao, cap, g, e1, e2.later hf.size, hf.trans e3 (fun _ _ t => t), e3⟩))
  have RWD : Hid (∀ W, Fr (fun _ => False) w W → q.gone.length ≤ 1000 → d.add.length ≤ 1000 → ∀ w', Fr (fun _ => False) W w' → Calls Tryz.prog 30 #[.slice b2 q.gone.length k2, .slice a1 d.add.length c1] w' fun e w'' => ∃ ao cap g, e = .returned (.slice ao (woL q.gone d.add).length cap) ∧ LO W w'' ao cap g (woL q.gone d.add) ∧ Fr (fun _ => False) W w'' ∧ Fr (fun _ => False) w' w'') := hide (fun W h0 i1 i2 w' hf => (without_any w' q.gone d.add b2 k2 a1 c1 (hq.gone.keep (h0.trans hf (fun _ _ t => t))) hq.n2 (hd.add.keep (h0.trans hf (fun _ _ t => t))) hd.n1 (by omega) (by omega)).mono (fun e w'' ⟨ao, cap, g, e1, e2, e3⟩ => ⟨ao, cap, g, e1, e2.later hf.size, hf.trans e3 (fun _ _ t => t), e3⟩))
  have REA : Hid (∀ W, (woL d.add q.gone).length ≤ 2000 → (woL q.add d.gone).length ≤ 2000 → ∀ w' ao cap g ao2 cap2 g2, Fr (fun _ => False) W w' → LO W w' ao cap g (woL d.add q.gone) → LO W w' ao2 cap2 g2 (woL q.add d.gone) → Calls Tryz.prog 29 #[.slice ao (woL d.add q.gone).length cap, .slice ao2 (woL q.add d.gone).length cap2] w' fun e w'' => ∃ ao cap g, e = .returned (.slice ao (joinA d q).length cap) ∧ LO W w'' ao cap g (joinA d q) ∧ Fr (fun _ => False) W w'') := hide (fun W i1 i2 w' ao cap g ao2 cap2 g2 hf hL hL2 => (either_any w' (woL d.add q.gone) (woL q.add d.gone) ao cap ao2 cap2 hL.sat hL.len hL2.sat hL2.len (by omega) (by omega)).mono (fun e w'' ⟨ao, cap, g, e1, e2, e3⟩ => ⟨ao, cap, g, e1, e2.later hf.size, hf.trans e3 (fun _ _ t => t)⟩))
  have REG : Hid (∀ W, (woL d.gone q.add).length ≤ 2000 → (woL q.gone d.add).length ≤ 2000 → ∀ w' ao cap g ao2 cap2 g2, Fr (fun _ => False) W w' → LO W w' ao cap g (woL d.gone q.add) → LO W w' ao2 cap2 g2 (woL q.gone d.add) → Calls Tryz.prog 29 #[.slice ao (woL d.gone q.add).length cap, .slice ao2 (woL q.gone d.add).length cap2] w' fun e w'' => ∃ ao cap g, e = .returned (.slice ao (joinG d q).length cap) ∧ LO W w'' ao cap g (joinG d q) ∧ Fr (fun _ => False) W w'') := hide (fun W i1 i2 w' ao cap g ao2 cap2 g2 hf hL hL2 => (either_any w' (woL d.gone q.add) (woL q.gone d.add) ao cap ao2 cap2 hL.sat hL.len hL2.sat hL2.len (by omega) (by omega)).mono (fun e w'' ⟨ao, cap, g, e1, e2, e3⟩ => ⟨ao, cap, g, e1, e2.later hf.size, hf.trans e3 (fun _ _ t => t)⟩))
  have HR : Hid (joinR d q = if joinE d q ≠ 0 then (dl0, joinE d q) else if 1000 < (joinA d q).length ∨ 1000 < (joinG d q).length then (dl0, 2) else (⟨q.ver, joinA d q, joinG d q⟩, 0)) := hide rfl
  have hX0 : Fr (fun _ => False) w (((w.alloc (.cells (dlC d a1 c1 a2 c2) 26)).alloc (.cells (dlC q b1 k1 b2 k2) 26)).alloc (.cells #[.int .i64 0, .slice none 0 0, .slice none 0 0] 26)) := (((Fr.refl _ _).alloc _).alloc _).alloc _
  have z1 : Bx (((w.alloc (.cells (dlC d a1 c1 a2 c2) 26)).alloc (.cells (dlC q b1 k1 b2 k2) 26)).alloc (.cells #[.int .i64 0, .slice none 0 0, .slice none 0 0] 26)) w.heap.size (dlC d a1 c1 a2 c2) 26 := ((Bx.new _ _ _).alloc _).alloc _
  have z2 := (Bx.new (w.alloc (.cells (dlC d a1 c1 a2 c2) 26)) (dlC q b1 k1 b2 k2) 26).alloc (.cells #[.int .i64 0, .slice none 0 0, .slice none 0 0] 26)
  have z3 := Bx.new ((w.alloc (.cells (dlC d a1 c1 a2 c2) 26)).alloc (.cells (dlC q b1 k1 b2 k2) 26)) #[.int .i64 0, .slice none 0 0, .slice none 0 0] 26
  rw [heap_alloc] at z2
  rw [heap_alloc, heap_alloc] at z3
  have HX0 := hide (And.intro hX0 (And.intro z1 (And.intro z2 z3)))
  clear hX0 z1 z2 z3 hd hq
  unfold dlC at *
  obtain ⟨B, HB⟩ : ∃ B, Hid (w.heap.size = B) := ⟨_, rfl⟩
  generalize joinR d q = RR at *
  generalize joinE d q = E1 at *
  generalize joinA d q = TA at *
  generalize joinG d q = TG at *
  generalize woL d.add q.gone = P1 at *
  generalize woL q.add d.gone = P2 at *
  generalize woL d.gone q.add = P3 at *
  generalize woL q.gone d.add = P4 at *
  generalize d.add.length = n1 at *
  generalize d.gone.length = n2 at *
  generalize q.add.length = m1 at *
  generalize q.gone.length = m2 at *
  generalize d.ver = v at *
  generalize q.ver = u at *
  clear d q
  go_enter Tryz.func22, Tryz.ntmps22
  go_wp2_with fail
  refine (unhide R1 _ (unhide HX0).1).mono ?_
  rintro e w1 ⟨rfl, hF⟩
  have HX1 : Hid (Fr (fun _ => False) w w1 ∧ Bx w1 B #[.int .i64 v, .slice a1 n1 c1, .slice a2 n2 c2] 26 ∧ Bx w1 (B + 1) #[.int .i64 u, .slice b1 m1 k1, .slice b2 m2 k2] 26 ∧ Bx w1 (B + 1 + 1) #[.int .i64 0, .slice none 0 0, .slice none 0 0] 26) := hide (by
    obtain ⟨i0, i1, i2, i3⟩ := unhide HX0
    rw [← unhide HB]
    exact ⟨i0.trans hF (fun _ _ t => t), i1.keep hF, i2.keep hF, i3.keep hF⟩)
  have HBw : Hid (w.heap.size ≤ B) := hide (by rw [← unhide HB]; exact Nat.le_refl _)
  rw [unhide HB]
  clear hF HX0 HB
  by_cases h1 : E1 = 0
  · subst h1
    obtain ⟨⟨i1, i2⟩, i3, i4⟩ := unhide HK rfl
    obtain ⟨⟨j1, j2⟩, j3, j4⟩ := unhide HL
    have HSx : Hid (∀ w', Fr (fun _ => False) w1 w' → w'.cell? ⟨B, 1, none⟩ = some (.slice a1 n1 c1) ∧ w'.cell? ⟨B + 1, 2, none⟩ = some (.slice b2 m2 k2) ∧ w'.cell? ⟨B + 1, 1, none⟩ = some (.slice b1 m1 k1) ∧ w'.cell? ⟨B, 2, none⟩ = some (.slice a2 n2 c2)) := hide (fun w' hf => ⟨((unhide HX1).2.1.keep hf).cell 1, ((unhide HX1).2.2.1.keep hf).cell 2, ((unhide HX1).2.2.1.keep hf).cell 1, ((unhide HX1).2.1.keep hf).cell 2⟩)
    have hA := hide (unhide RWA w1 (unhide HX1).1 i1 i4)
    have hB := hide (unhide RWB w1 (unhide HX1).1 i3 i2)
    have hE := hide (unhide REA w1 (by omega) (by omega))
    go_upto_region 4 with (fail)
    go_region_held3 (fun w' => w'.cell? ⟨B, 1, none⟩ = some (.slice a1 n1 c1) ∧ w'.cell? ⟨B + 1, 2, none⟩ = some (.slice b2 m2 k2) ∧ w'.cell? ⟨B + 1, 1, none⟩ = some (.slice b1 m1 k1) ∧ w'.cell? ⟨B, 2, none⟩ = some (.slice a2 n2 c2)) (first | exact unhide HSx _ (Fr.refl _ _) | exact unhide HSx _ ((Fr.refl _ _).drew) | exact unhide HSx _ (unhide hFxe) | exact unhide HSx _ (unhide hFxb) | exact unhide HSx _ (unhide hFxa)) (first | (go_at_call_of 30 (Value.slice a1 n1 c1); refine (unhide hA _ ((Fr.refl _ _).drew)).mono ?_; rintro e wxa ⟨aoxa, capxa, gxa, rfl, hLxa', hFxa', hExa'⟩; have hLxa := hide hLxa'; have hFxa := hide hFxa'; have hExa := hide hExa'; clear hLxa' hFxa' hExa') | (go_at_call_of 30 (Value.slice b1 m1 k1); refine (unhide hB _ (unhide hFxa)).mono ?_; rintro e wxb ⟨aoxb, capxb, gxb, rfl, hLxb', hFxb', hExb'⟩; have hLxb := hide hLxb'; have hFxb := hide hFxb'; have hExb := hide hExb'; clear hLxb' hFxb' hExb') | (go_at_call 29; refine (unhide hE _ aoxa capxa gxa aoxb capxb gxb (unhide hFxb) ((unhide hLxa).keep (unhide hExb)) (unhide hLxb)).mono ?_; rintro e wxe ⟨aoxe, capxe, gxe, rfl, hLxe', hFxe'⟩; have hLxe := hide hLxe'; have hFxe := hide hFxe'; clear hLxe' hFxe'))
    have HX2 : Hid (Fr (fun _ => False) w wxe ∧ Bx wxe B #[.int .i64 v, .slice a1 n1 c1, .slice a2 n2 c2] 26 ∧ Bx wxe (B + 1) #[.int .i64 u, .slice b1 m1 k1, .slice b2 m2 k2] 26 ∧ Bx wxe (B + 1 + 1) #[.int .i64 0, .slice none 0 0, .slice none 0 0] 26 ∧ LO w1 wxe aoxe capxe gxe TA) := hide (by
      obtain ⟨i0, i1, i2, i3⟩ := unhide HX1
      have hF := unhide hFxe
      exact ⟨i0.trans hF (fun _ _ t => t), i1.keep hF, i2.keep hF, i3.keep hF, unhide hLxe⟩)
    have HB1 : Hid (B + 1 + 1 < w1.heap.size ∧ w.heap.size ≤ w1.heap.size ∧ w1.heap.size ≤ wxe.heap.size) := hide ⟨(unhide HX1).2.2.2.lt, (unhide HX1).1.size, (unhide hFxe).size⟩
    have HSy : Hid (∀ w', Fr (fun _ => False) wxe w' → w'.cell? ⟨B, 2, none⟩ = some (.slice a2 n2 c2) ∧ w'.cell? ⟨B + 1, 1, none⟩ = some (.slice b1 m1 k1) ∧ w'.cell? ⟨B + 1, 2, none⟩ = some (.slice b2 m2 k2) ∧ w'.cell? ⟨B, 1, none⟩ = some (.slice a1 n1 c1)) := hide (fun w' hf => ⟨((unhide HX2).2.1.keep hf).cell 2, ((unhide HX2).2.2.1.keep hf).cell 1, ((unhide HX2).2.2.1.keep hf).cell 2, ((unhide HX2).2.1.keep hf).cell 1⟩)
    have hC := hide (unhide RWC wxe (unhide HX2).1 i2 i3)
    have hD := hide (unhide RWD wxe (unhide HX2).1 i4 i1)
    have hG := hide (unhide REG wxe (by omega) (by omega))
    clear hA hB hE RWA RWB RWC RWD REA REG HSx HX1 hLxa hFxa hExa hLxb hFxb hExb hLxe hFxe HK HL i1 i2 i3 i4 j1 j2 j3 j4
    go_upto_region 5 with (fail)
    go_region_held3 (fun w' => w'.cell? ⟨B, 2, none⟩ = some (.slice a2 n2 c2) ∧ w'.cell? ⟨B + 1, 1, none⟩ = some (.slice b1 m1 k1) ∧ w'.cell? ⟨B + 1, 2, none⟩ = some (.slice b2 m2 k2) ∧ w'.cell? ⟨B, 1, none⟩ = some (.slice a1 n1 c1)) (first | exact unhide HSy _ (Fr.refl _ _) | exact unhide HSy _ ((Fr.refl _ _).drew) | exact unhide HSy _ (unhide hFye) | exact unhide HSy _ (unhide hFyb) | exact unhide HSy _ (unhide hFya)) (first | (go_at_call_of 30 (Value.slice a2 n2 c2); refine (unhide hC _ ((Fr.refl _ _).drew)).mono ?_; rintro e wya ⟨aoya, capya, gya, rfl, hLya', hFya', hEya'⟩; have hLya := hide hLya'; have hFya := hide hFya'; have hEya := hide hEya'; clear hLya' hFya' hEya') | (go_at_call_of 30 (Value.slice b2 m2 k2); refine (unhide hD _ (unhide hFya)).mono ?_; rintro e wyb ⟨aoyb, capyb, gyb, rfl, hLyb', hFyb', hEyb'⟩; have hLyb := hide hLyb'; have hFyb := hide hFyb'; have hEyb := hide hEyb'; clear hLyb' hFyb' hEyb') | (go_at_call 29; refine (unhide hG _ aoya capya gya aoyb capyb gyb (unhide hFyb) ((unhide hLya).keep (unhide hEyb)) (unhide hLyb)).mono ?_; rintro e wye ⟨aoye, capye, gye, rfl, hLye', hFye'⟩; have hLye := hide hLye'; have hFye := hide hFye'; clear hLye' hFye'))
    have HDO := hide (two_rows (d := ⟨u, TA, TG⟩) (W := w1) ⟨rfl, rfl, rfl, Nat.le_refl _, fun _ _ _ => rfl⟩ (unhide HB1).2.2 (v := w1) (Nat.le_refl _) (unhide HX2).2.2.2.2 (unhide hLye) (unhide hFye))
    have HXB : Hid (Bx wye (B + 1 + 1) #[.int .i64 0, .slice none 0 0, .slice none 0 0] 26 ∧ Fr (fun _ => False) w wye ∧ Bx wye (B + 1) #[.int .i64 u, .slice b1 m1 k1, .slice b2 m2 k2] 26) := hide (by
      obtain ⟨i0, i1, i2, i3, i4⟩ := unhide HX2
      have hF := unhide hFye
      exact ⟨i3.keep hF, i0.trans hF (fun _ _ t => t), i2.keep hF⟩)
    clear hC hD hG HSy HX2 hLya hFya hEya hLyb hFyb hEyb hLye hFye
    have y0 : wye.cell? ⟨B + 1 + 1, 0, none⟩ = some (.int .i64 0) := (unhide HXB).1.cell 0
    have y1 : wye.cell? ⟨B + 1 + 1, 1, none⟩ = some (.slice none 0 0) := (unhide HXB).1.cell 1
    have y2 : wye.cell? ⟨B + 1 + 1, 2, none⟩ = some (.slice none 0 0) := (unhide HXB).1.cell 2
    have z0 := (unhide HXB).1.frozen 0
    have z1 := (unhide HXB).1.frozen 1
    have z2 := (unhide HXB).1.frozen 2
    have u0 : wye.cell? ⟨B + 1, 0, none⟩ = some (.int .i64 u) := (unhide HXB).2.2.cell 0
    by_cases h2 : 1000 < TA.length
    · go_wp2
      have hfin : Bx (((wye.setCell ⟨B + 1 + 1, 0, none⟩ (.int .i64 0)).setCell ⟨B + 1 + 1, 1, none⟩ (.slice none 0 0)).setCell ⟨B + 1 + 1, 2, none⟩ (.slice none 0 0)) (B + 1 + 1) #[.int .i64 0, .slice none 0 0, .slice none 0 0] 26 := ((((unhide HXB).1).setCell 0 _).setCell 1 _).setCell 2 _
      have HFV : Hid (Fr (fun _ => False) w (((wye.setCell ⟨B + 1 + 1, 0, none⟩ (.int .i64 0)).setCell ⟨B + 1 + 1, 1, none⟩ (.slice none 0 0)).setCell ⟨B + 1 + 1, 2, none⟩ (.slice none 0 0))) := hide ((((((unhide HXB).2.1)).setCell (fun h => absurd h (by show ¬ B + 1 + 1 < _; have := unhide HBw; omega)) _).setCell (fun h => absurd h (by show ¬ B + 1 + 1 < _; have := unhide HBw; omega)) _).setCell (fun h => absurd h (by show ¬ B + 1 + 1 < _; have := unhide HBw; omega)) _)
      have HFB : Hid (Fr (fun k => k = B + 1 + 1) wye (((wye.setCell ⟨B + 1 + 1, 0, none⟩ (.int .i64 0)).setCell ⟨B + 1 + 1, 1, none⟩ (.slice none 0 0)).setCell ⟨B + 1 + 1, 2, none⟩ (.slice none 0 0))) := hide (((((Fr.refl (fun k => k = B + 1 + 1) _)).setCell (fun _ => rfl) _).setCell (fun _ => rfl) _).setCell (fun _ => rfl) _)
      generalize ((wye.setCell ⟨B + 1 + 1, 0, none⟩ (.int .i64 0)).setCell ⟨B + 1 + 1, 1, none⟩ (.slice none 0 0)).setCell ⟨B + 1 + 1, 2, none⟩ (.slice none 0 0) = V at *
      have x0 : V.cell? ⟨B + 1 + 1, 0, none⟩ = some (.int .i64 0) := hfin.cell 0
      have x1 : V.cell? ⟨B + 1 + 1, 1, none⟩ = some (.slice none 0 0) := hfin.cell 1
      have x2 : V.cell? ⟨B + 1 + 1, 2, none⟩ = some (.slice none 0 0) := hfin.cell 2
      clear hfin
      refine bodyPost_ret (v := .tuple #[.agg #[.int .i64 0, .slice none 0 0, .slice none 0 0], .int .i64 2]) ?_ rfl ?_
      · simp [results, Tryz.results22, go_sem, x0, x1, x2]
      · exact ⟨none, 0, 0, none, 0, 0, by rw [unhide HR, if_neg (by simp), if_pos (Or.inl h2)]; rfl, by rw [unhide HR, if_neg (by simp), if_pos (Or.inl h2)]; exact DO.zero _ _, unhide HFV⟩
    · by_cases h3 : 1000 < TG.length
      · go_wp2
        have hfin : Bx (((wye.setCell ⟨B + 1 + 1, 0, none⟩ (.int .i64 0)).setCell ⟨B + 1 + 1, 1, none⟩ (.slice none 0 0)).setCell ⟨B + 1 + 1, 2, none⟩ (.slice none 0 0)) (B + 1 + 1) #[.int .i64 0, .slice none 0 0, .slice none 0 0] 26 := ((((unhide HXB).1).setCell 0 _).setCell 1 _).setCell 2 _
        have HFV : Hid (Fr (fun _ => False) w (((wye.setCell ⟨B + 1 + 1, 0, none⟩ (.int .i64 0)).setCell ⟨B + 1 + 1, 1, none⟩ (.slice none 0 0)).setCell ⟨B + 1 + 1, 2, none⟩ (.slice none 0 0))) := hide ((((((unhide HXB).2.1)).setCell (fun h => absurd h (by show ¬ B + 1 + 1 < _; have := unhide HBw; omega)) _).setCell (fun h => absurd h (by show ¬ B + 1 + 1 < _; have := unhide HBw; omega)) _).setCell (fun h => absurd h (by show ¬ B + 1 + 1 < _; have := unhide HBw; omega)) _)
        have HFB : Hid (Fr (fun k => k = B + 1 + 1) wye (((wye.setCell ⟨B + 1 + 1, 0, none⟩ (.int .i64 0)).setCell ⟨B + 1 + 1, 1, none⟩ (.slice none 0 0)).setCell ⟨B + 1 + 1, 2, none⟩ (.slice none 0 0))) := hide (((((Fr.refl (fun k => k = B + 1 + 1) _)).setCell (fun _ => rfl) _).setCell (fun _ => rfl) _).setCell (fun _ => rfl) _)
        generalize ((wye.setCell ⟨B + 1 + 1, 0, none⟩ (.int .i64 0)).setCell ⟨B + 1 + 1, 1, none⟩ (.slice none 0 0)).setCell ⟨B + 1 + 1, 2, none⟩ (.slice none 0 0) = V at *
        have x0 : V.cell? ⟨B + 1 + 1, 0, none⟩ = some (.int .i64 0) := hfin.cell 0
        have x1 : V.cell? ⟨B + 1 + 1, 1, none⟩ = some (.slice none 0 0) := hfin.cell 1
        have x2 : V.cell? ⟨B + 1 + 1, 2, none⟩ = some (.slice none 0 0) := hfin.cell 2
        clear hfin
        refine bodyPost_ret (v := .tuple #[.agg #[.int .i64 0, .slice none 0 0, .slice none 0 0], .int .i64 2]) ?_ rfl ?_
        · simp [results, Tryz.results22, go_sem, x0, x1, x2]
        · exact ⟨none, 0, 0, none, 0, 0, by rw [unhide HR, if_neg (by simp), if_pos (Or.inr h3)]; rfl, by rw [unhide HR, if_neg (by simp), if_pos (Or.inr h3)]; exact DO.zero _ _, unhide HFV⟩
      · have HRV : Hid (RR = (⟨u, TA, TG⟩, 0)) := hide (by rw [unhide HR, if_neg (by simp), if_neg (by omega)])
        go_wp2
        have hfin : Bx (((wye.setCell ⟨B + 1 + 1, 0, none⟩ (.int .i64 u)).setCell ⟨B + 1 + 1, 1, none⟩ (.slice aoxe TA.length capxe)).setCell ⟨B + 1 + 1, 2, none⟩ (.slice aoye TG.length capye)) (B + 1 + 1) #[.int .i64 u, .slice aoxe TA.length capxe, .slice aoye TG.length capye] 26 := ((((unhide HXB).1).setCell 0 _).setCell 1 _).setCell 2 _
        have HFV : Hid (Fr (fun _ => False) w (((wye.setCell ⟨B + 1 + 1, 0, none⟩ (.int .i64 u)).setCell ⟨B + 1 + 1, 1, none⟩ (.slice aoxe TA.length capxe)).setCell ⟨B + 1 + 1, 2, none⟩ (.slice aoye TG.length capye))) := hide ((((((unhide HXB).2.1)).setCell (fun h => absurd h (by show ¬ B + 1 + 1 < _; have := unhide HBw; omega)) _).setCell (fun h => absurd h (by show ¬ B + 1 + 1 < _; have := unhide HBw; omega)) _).setCell (fun h => absurd h (by show ¬ B + 1 + 1 < _; have := unhide HBw; omega)) _)
        have HFB : Hid (Fr (fun k => k = B + 1 + 1) wye (((wye.setCell ⟨B + 1 + 1, 0, none⟩ (.int .i64 u)).setCell ⟨B + 1 + 1, 1, none⟩ (.slice aoxe TA.length capxe)).setCell ⟨B + 1 + 1, 2, none⟩ (.slice aoye TG.length capye))) := hide (((((Fr.refl (fun k => k = B + 1 + 1) _)).setCell (fun _ => rfl) _).setCell (fun _ => rfl) _).setCell (fun _ => rfl) _)
        generalize ((wye.setCell ⟨B + 1 + 1, 0, none⟩ (.int .i64 u)).setCell ⟨B + 1 + 1, 1, none⟩ (.slice aoxe TA.length capxe)).setCell ⟨B + 1 + 1, 2, none⟩ (.slice aoye TG.length capye) = V at *
        have x0 : V.cell? ⟨B + 1 + 1, 0, none⟩ = some (.int .i64 u) := hfin.cell 0
        have x1 : V.cell? ⟨B + 1 + 1, 1, none⟩ = some (.slice aoxe TA.length capxe) := hfin.cell 1
        have x2 : V.cell? ⟨B + 1 + 1, 2, none⟩ = some (.slice aoye TG.length capye) := hfin.cell 2
        clear hfin
        refine bodyPost_ret (v := .tuple #[.agg #[.int .i64 u, .slice aoxe TA.length capxe, .slice aoye TG.length capye], .int .i64 0]) ?_ rfl ?_
        · simp [results, Tryz.results22, go_sem, x0, x1, x2]
        · refine ⟨aoxe, capxe, gxe, aoye, capye, gye, by rw [unhide HRV]; rfl, ?_, unhide HFV⟩
          rw [unhide HRV]
          exact ((unhide HDO).1.later (unhide HB1).2.1).go (unhide HFB) (fun hc t => by have := (unhide HDO).2.1 hc; have := (unhide HB1).1; omega) (fun hc t => by have := (unhide HDO).2.2 hc; have := (unhide HB1).1; omega)
  · have y0 : w1.cell? ⟨B + 1 + 1, 0, none⟩ = some (.int .i64 0) := (unhide HX1).2.2.2.cell 0
    have y1 : w1.cell? ⟨B + 1 + 1, 1, none⟩ = some (.slice none 0 0) := (unhide HX1).2.2.2.cell 1
    have y2 : w1.cell? ⟨B + 1 + 1, 2, none⟩ = some (.slice none 0 0) := (unhide HX1).2.2.2.cell 2
    have z0 := (unhide HX1).2.2.2.frozen 0
    have z1 := (unhide HX1).2.2.2.frozen 1
    have z2 := (unhide HX1).2.2.2.frozen 2
    go_wp2
    have hfin : Bx (((w1.setCell ⟨B + 1 + 1, 0, none⟩ (.int .i64 0)).setCell ⟨B + 1 + 1, 1, none⟩ (.slice none 0 0)).setCell ⟨B + 1 + 1, 2, none⟩ (.slice none 0 0)) (B + 1 + 1) #[.int .i64 0, .slice none 0 0, .slice none 0 0] 26 := ((((unhide HX1).2.2.2).setCell 0 _).setCell 1 _).setCell 2 _
    have HFV : Hid (Fr (fun _ => False) w (((w1.setCell ⟨B + 1 + 1, 0, none⟩ (.int .i64 0)).setCell ⟨B + 1 + 1, 1, none⟩ (.slice none 0 0)).setCell ⟨B + 1 + 1, 2, none⟩ (.slice none 0 0))) := hide ((((((unhide HX1).1)).setCell (fun h => absurd h (by show ¬ B + 1 + 1 < _; have := unhide HBw; omega)) _).setCell (fun h => absurd h (by show ¬ B + 1 + 1 < _; have := unhide HBw; omega)) _).setCell (fun h => absurd h (by show ¬ B + 1 + 1 < _; have := unhide HBw; omega)) _)
    have HFB : Hid (Fr (fun k => k = B + 1 + 1) w1 (((w1.setCell ⟨B + 1 + 1, 0, none⟩ (.int .i64 0)).setCell ⟨B + 1 + 1, 1, none⟩ (.slice none 0 0)).setCell ⟨B + 1 + 1, 2, none⟩ (.slice none 0 0))) := hide (((((Fr.refl (fun k => k = B + 1 + 1) _)).setCell (fun _ => rfl) _).setCell (fun _ => rfl) _).setCell (fun _ => rfl) _)
    generalize ((w1.setCell ⟨B + 1 + 1, 0, none⟩ (.int .i64 0)).setCell ⟨B + 1 + 1, 1, none⟩ (.slice none 0 0)).setCell ⟨B + 1 + 1, 2, none⟩ (.slice none 0 0) = V at *
    have x0 : V.cell? ⟨B + 1 + 1, 0, none⟩ = some (.int .i64 0) := hfin.cell 0
    have x1 : V.cell? ⟨B + 1 + 1, 1, none⟩ = some (.slice none 0 0) := hfin.cell 1
    have x2 : V.cell? ⟨B + 1 + 1, 2, none⟩ = some (.slice none 0 0) := hfin.cell 2
    clear hfin
    refine bodyPost_ret (v := .tuple #[.agg #[.int .i64 0, .slice none 0 0, .slice none 0 0], .int .i64 E1]) ?_ rfl ?_
    · simp [results, Tryz.results22, go_sem, x0, x1, x2]
    · exact ⟨none, 0, 0, none, 0, 0, by rw [unhide HR, if_pos h1]; rfl, by rw [unhide HR, if_pos h1]; exact DO.zero _ _, unhide HFV⟩

end Go.Proofs.YtmhljehkodhggaaGreat

