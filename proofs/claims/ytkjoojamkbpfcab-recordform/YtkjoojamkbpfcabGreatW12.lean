import Derived.Test.YtkjoojamkbpfcabGreatL2
import Derived.Test.YtkjoojamkbpfcabGreatP4
import Derived.Deep.Cut
/- The walk of the law RecordForm. -/
namespace Go.Proofs.YtkjoojamkbpfcabGreat
open Go.RowKit
attribute [local go_sem] run_store_float

theorem DNew.din {w0 w : World} {d : Dl} {a1 : Option Addr} {c1 g1 : Nat} {a2 : Option Addr} {c2 g2 : Nat} (h : DNew w0 w d a1 c1 g1 a2 c2 g2) (hv : d.ver ≤ 9223372036854775807) (h1 : d.add.length ≤ 1000) (h2 : d.gone.length ≤ 1000) : DIn w d a1 c1 a2 c2 :=
  ⟨h.k1.row.catN, h.k2.row.catN, by omega, by omega, hv, h.k1.row.cap_le (by rw [tkV_length]) (by omega), h.k2.row.cap_le (by rw [tkV_length]) (by omega)⟩
theorem KL.oin {w0 w : World} {l : List Otg} {a : Option Addr} {c g : Nat} (h : KL w0 w a c g 3 (otV l)) (h1 : l.length ≤ 100) : OIn w l a c :=
  ⟨h.row.catN, by omega, h.row.cap_le (by rw [otV_length]) (by omega)⟩
theorem deltaRd_len (bs : List UInt8) : (deltaRd bs).1.add.length ≤ 1000 ∧ (deltaRd bs).1.gone.length ≤ 1000 := by
  unfold deltaRd
  split
  · simp [deltaZ]
  split
  · exact (delta_shape bs s00).2.2.2.2.2
  · simp [deltaZ]

set_option maxHeartbeats 8000000 in
set_option maxRecDepth 100000 in
theorem form_walk (w : World) (ao : Option Addr) (cap : Nat) (bs : List UInt8) (hB : BIn w ao cap bs) :
    Calls Tryz.prog 4 #[.slice ao bs.length cap] w fun e w' => e = .returned (.bool true) ∧ Fr (fun _ => False) w w' := by
  have HB := hide hB
  have R1 := hide (fun (w : World) ao cap h => readTap_any w ao cap bs h)
  have F1 := hide (fun (h : (tapRd bs).2.1 = 0) => tap_form (bs := bs) h)
  generalize tapRd bs = r1 at *
  obtain ⟨x1, k1, f1⟩ := r1
  unfold ReadTap tpC at R1
  have W1 := hide (fun (w : World) => recTap_any x1 w)
  unfold tpC at W1
  simp only at R1 F1
  have R2 := hide (fun (w : World) ao cap h => readDelta_any w ao cap bs h)
  have HL2 : Hid (_ ∧ _ ∧ _) := hide (And.intro (deltaRd_ver bs) (deltaRd_len bs))
  have F2 := hide (fun (h : (deltaRd bs).2.1 = 0) => delta_form (bs := bs) h)
  generalize deltaRd bs = r2 at *
  obtain ⟨x2, k2, f2⟩ := r2
  unfold ReadDelta dlC at R2
  have W2 := hide (fun (w : World) a1 c1 a2 c2 h => recDelta_any x2 w a1 c1 a2 c2 h)
  unfold dlC at W2
  simp only at R2 F2 HL2
  have R3 := hide (fun (w : World) ao cap h => readEntry_any w ao cap bs h)
  have F3 := hide (fun (h : (entryRd bs).2.1 = 0) => entry_form (bs := bs) h)
  generalize entryRd bs = r3 at *
  obtain ⟨x3, k3, f3⟩ := r3
  unfold ReadEntry enC at R3
  have W3 := hide (fun (w : World) => recEntry_any x3 w)
  unfold enC at W3
  simp only at R3 F3
  have R4 := hide (fun (w : World) ao cap h => readAccount_any w ao cap bs h)
  have F4 := hide (fun (h : (accountRd bs).2.1 = 0) => account_form (bs := bs) h)
  generalize accountRd bs = r4 at *
  obtain ⟨x4, k4, f4⟩ := r4
  unfold ReadAccount acC at R4
  have W4 := hide (fun (w : World) => recAccount_any x4 w)
  unfold acC at W4
  simp only at R4 F4
  have R5 := hide (fun (w : World) ao cap h => readOutages_any w ao cap bs h)
  have HL5 := hide (outsRd_len bs)
  have F5 := hide (fun (h : (outsRd bs).2.1 = 0) => outs_form (bs := bs) h)
  generalize outsRd bs = r5 at *
  obtain ⟨x5, k5, f5⟩ := r5
  unfold ReadOuts at R5
  have W5 := hide (fun (w : World) a c h => recOutages_any x5 w a c h)
  simp only at R5 F5 HL5
  have R6 := hide (fun (w : World) ao cap h => readTariff_any w ao cap bs h)
  have F6 := hide (fun (h : (tarRd bs).2.1 = 0) => tar_form (bs := bs) h)
  generalize tarRd bs = r6 at *
  obtain ⟨x6, k6, f6⟩ := r6
  unfold ReadTariff tv tc at R6
  have W6 := hide (fun (w : World) (A : Ad) h => recTariff_any x6 A w h)
  unfold tv tc at W6
  simp only at R6 F6
  clear hB
  go_enter Tryz.func4, Tryz.ntmps4
  go_wp2_with fail
  refine (awake_any _).mono ?_
  rintro e v0 ⟨rfl, hF⟩
  have HX0 := hide hF
  clear hF
  go_wp2_with fail
  refine (unhide R1 _ ao cap ((unhide HB).keep (unhide HX0))).mono ?_
  rintro e u1 ⟨rfl, hF⟩
  have HP : Hid (Fr (fun _ => False) w ((u1.alloc (.cells #[.int .i64 x1.dev, .int .i64 x1.ctr, .string x1.tok, .int .i64 x1.kind, .int .i64 x1.place, .int .i64 x1.time] 23)).alloc (.cells #[.int .i64 k1, .int .i64 f1] 44)) ∧ Bx ((u1.alloc (.cells #[.int .i64 x1.dev, .int .i64 x1.ctr, .string x1.tok, .int .i64 x1.kind, .int .i64 x1.place, .int .i64 x1.time] 23)).alloc (.cells #[.int .i64 k1, .int .i64 f1] 44)) (u1.heap.size + 1) #[.int .i64 k1, .int .i64 f1] 44 ∧ w.heap.size ≤ u1.heap.size + 1 ∧ Bx ((u1.alloc (.cells #[.int .i64 x1.dev, .int .i64 x1.ctr, .string x1.tok, .int .i64 x1.kind, .int .i64 x1.place, .int .i64 x1.time] 23)).alloc (.cells #[.int .i64 k1, .int .i64 f1] 44)) u1.heap.size #[.int .i64 x1.dev, .int .i64 x1.ctr, .string x1.tok, .int .i64 x1.kind, .int .i64 x1.place, .int .i64 x1.time] 23) := hide (by
    have h2 := Bx.new (u1.alloc (.cells #[.int .i64 x1.dev, .int .i64 x1.ctr, .string x1.tok, .int .i64 x1.kind, .int .i64 x1.place, .int .i64 x1.time] 23)) #[.int .i64 k1, .int .i64 f1] 44
    rw [heap_alloc] at h2
    have h3 := ((unhide HX0).trans hF (fun _ _ t => t))
    exact ⟨(h3.alloc _).alloc _, h2, by have := h3.size; omega, (Bx.new _ _ _).alloc _⟩)
  have y0 : ((u1.alloc (.cells #[.int .i64 x1.dev, .int .i64 x1.ctr, .string x1.tok, .int .i64 x1.kind, .int .i64 x1.place, .int .i64 x1.time] 23)).alloc (.cells #[.int .i64 k1, .int .i64 f1] 44)).cell? ⟨u1.heap.size + 1, 0, none⟩ = some (.int .i64 k1) := (unhide HP).2.1.cell 0
  clear hF HX0
  go_upto_if 31 with (fail)
  clear y0
  generalize ((u1.alloc (.cells #[.int .i64 x1.dev, .int .i64 x1.ctr, .string x1.tok, .int .i64 x1.kind, .int .i64 x1.place, .int .i64 x1.time] 23)).alloc (.cells #[.int .i64 k1, .int .i64 f1] 44)) = t1 at *
  obtain ⟨Fb, HFb⟩ : ∃ Fb, Hid (u1.heap.size + 1 = Fb) := ⟨_, rfl⟩
  rw [unhide HFb] at HP ⊢
  obtain ⟨Rb1, HRb⟩ : ∃ Rb, Hid (u1.heap.size = Rb) := ⟨_, rfl⟩
  rw [unhide HRb] at HP ⊢
  clear HFb HRb
  go_cut [] from 23 (fun wc => Fr (fun _ => False) w wc ∧ ∃ b e, Bx wc Fb #[.int .i64 b, .int .i64 e] 44)
  case first =>
    by_cases hk : k1 = 0
    · subst hk
      have q0 : t1.cell? ⟨Rb1, 0, none⟩ = some (.int .i64 x1.dev) := (unhide HP).2.2.2.cell 0
      have q1 : t1.cell? ⟨Rb1, 1, none⟩ = some (.int .i64 x1.ctr) := (unhide HP).2.2.2.cell 1
      have q2 : t1.cell? ⟨Rb1, 2, none⟩ = some (.string x1.tok) := (unhide HP).2.2.2.cell 2
      have q3 : t1.cell? ⟨Rb1, 3, none⟩ = some (.int .i64 x1.kind) := (unhide HP).2.2.2.cell 3
      have q4 : t1.cell? ⟨Rb1, 4, none⟩ = some (.int .i64 x1.place) := (unhide HP).2.2.2.cell 4
      have q5 : t1.cell? ⟨Rb1, 5, none⟩ = some (.int .i64 x1.time) := (unhide HP).2.2.2.cell 5
      rw [unhide F1 rfl] at W1
      simp only at W1
      go_wp2_with fail
      refine (unhide W1 _).mono ?_
      rintro e v1 ⟨ro, rc, rg, rfl, hrow, hnew, hF⟩
      have HX1 : Hid (Fr (fun _ => False) w v1 ∧ Bx v1 Fb #[.int .i64 0, .int .i64 f1] 44) := hide ⟨(unhide HP).1.trans hF (fun _ _ t => t), (unhide HP).2.1.keep hF⟩
      have HS := hide (same_is (hrow.bin (unhide HB).fit) ((unhide HB).keep (unhide HX1).1))
      clear hrow hnew hF HP q0 q1 q2 q3 q4 q5
      go_wp2_with fail
      refine (unhide HS).mono ?_
      rintro e w9 ⟨rfl, h9⟩
      obtain rfl : v1 = w9 := h9.symm
      clear HS F1 R1 W1
      go_wp2
      go_meet
      case rel => exact ⟨(unhide HX1).1, _, _, (unhide HX1).2⟩
    · have hkb : (k1 == 0) = false := by simp [hk]
      go_wp2
      go_meet
      case rel => exact ⟨(unhide HP).1, _, _, (unhide HP).2.1⟩
  case rest =>
    obtain ⟨hcF, b1, e1, hcB⟩ := hcut
    have HX1 : Hid (Fr (fun _ => False) w wc ∧ Bx wc Fb #[.int .i64 b1, .int .i64 e1] 44 ∧ w.heap.size ≤ Fb) := hide ⟨hcF, hcB, (unhide HP).2.2.1⟩
    obtain ⟨v1, hv⟩ : ∃ v, v = wc := ⟨_, rfl⟩
    subst hv
    clear hcF hcB HP F1 R1 W1
    go_wp2_with fail
    refine (unhide R2 _ ao cap ((unhide HB).keep (unhide HX1).1)).mono ?_
    rintro e u2 ⟨a1, c1, g1, a2, c2, g2, rfl, hN, hF⟩
    have HU : Hid (Fr (fun _ => False) w u2 ∧ Bx u2 Fb #[.int .i64 b1, .int .i64 e1] 44 ∧ w.heap.size ≤ Fb ∧ Fb < v1.heap.size) := hide ⟨(unhide HX1).1.trans hF (fun _ _ t => t), (unhide HX1).2.1.keep hF, (unhide HX1).2.2, (unhide HX1).2.1.lt⟩
    have hne : u2.heap.size ≠ Fb := by have := (unhide HU).2.1.lt; omega
    have hne' : Fb ≠ u2.heap.size := hne.symm
    have HA : Hid (Bx (u2.alloc (.cells #[.int .i64 x2.ver, .slice a1 x2.add.length c1, .slice a2 x2.gone.length c2] 26)) Fb #[.int .i64 b1, .int .i64 e1] 44 ∧ Bx (u2.alloc (.cells #[.int .i64 x2.ver, .slice a1 x2.add.length c1, .slice a2 x2.gone.length c2] 26)) u2.heap.size #[.int .i64 x2.ver, .slice a1 x2.add.length c1, .slice a2 x2.gone.length c2] 26) := hide ⟨(unhide HU).2.1.alloc _, Bx.new _ _ _⟩
    have HP : Hid (Fr (fun _ => False) w (((u2.alloc (.cells #[.int .i64 x2.ver, .slice a1 x2.add.length c1, .slice a2 x2.gone.length c2] 26)).setCell ⟨Fb, 0, none⟩ (.int .i64 k2)).setCell ⟨Fb, 1, none⟩ (.int .i64 f2)) ∧ Bx (((u2.alloc (.cells #[.int .i64 x2.ver, .slice a1 x2.add.length c1, .slice a2 x2.gone.length c2] 26)).setCell ⟨Fb, 0, none⟩ (.int .i64 k2)).setCell ⟨Fb, 1, none⟩ (.int .i64 f2)) Fb #[.int .i64 k2, .int .i64 f2] 44 ∧ w.heap.size ≤ Fb ∧ Bx (((u2.alloc (.cells #[.int .i64 x2.ver, .slice a1 x2.add.length c1, .slice a2 x2.gone.length c2] 26)).setCell ⟨Fb, 0, none⟩ (.int .i64 k2)).setCell ⟨Fb, 1, none⟩ (.int .i64 f2)) u2.heap.size #[.int .i64 x2.ver, .slice a1 x2.add.length c1, .slice a2 x2.gone.length c2] 26) := hide ⟨Fr.setCell (Fr.setCell ((unhide HU).1.alloc _) (p := ⟨Fb, 0, none⟩) (fun h => by have h6 : Fb < w.heap.size := h; have := (unhide HU).2.2; omega) _) (p := ⟨Fb, 1, none⟩) (fun h => by have h6 : Fb < w.heap.size := h; have := (unhide HU).2.2; omega) _, Bx.setCell (Bx.setCell (unhide HA).1 0 _) 1 _, (unhide HU).2.2.1, Bx.setOther (Bx.setOther (unhide HA).2 hne 0 _) hne 1 _⟩
    have HN : Hid (DIn (((u2.alloc (.cells #[.int .i64 x2.ver, .slice a1 x2.add.length c1, .slice a2 x2.gone.length c2] 26)).setCell ⟨Fb, 0, none⟩ (.int .i64 k2)).setCell ⟨Fb, 1, none⟩ (.int .i64 f2)) x2 a1 c1 a2 c2) := hide ((hN.go (Fr.setCell (Fr.setCell ((Fr.refl (fun q => q = Fb) u2).alloc _) (p := ⟨Fb, 0, none⟩) (fun _ => rfl) _) (p := ⟨Fb, 1, none⟩) (fun _ => rfl) _) (fun q hq => by have h7 : q = Fb := hq; have := (unhide HU).2.2.2; omega)).din (unhide HL2).1 (unhide HL2).2.1 (unhide HL2).2.2)
    clear hN
    have y0 : (u2.alloc (.cells #[.int .i64 x2.ver, .slice a1 x2.add.length c1, .slice a2 x2.gone.length c2] 26)).cell? ⟨Fb, 0, none⟩ = some (.int .i64 b1) := (unhide HA).1.cell 0
    have z0 : (u2.alloc (.cells #[.int .i64 x2.ver, .slice a1 x2.add.length c1, .slice a2 x2.gone.length c2] 26)).frozen? ⟨Fb, 0, none⟩ = false := (unhide HA).1.frozen 0
    have y1 : (u2.alloc (.cells #[.int .i64 x2.ver, .slice a1 x2.add.length c1, .slice a2 x2.gone.length c2] 26)).cell? ⟨Fb, 1, none⟩ = some (.int .i64 e1) := (unhide HA).1.cell 1
    have z1 : (u2.alloc (.cells #[.int .i64 x2.ver, .slice a1 x2.add.length c1, .slice a2 x2.gone.length c2] 26)).frozen? ⟨Fb, 1, none⟩ = false := (unhide HA).1.frozen 1
    clear hF HX1 HU
    go_upto_if 52 with (fail)
    clear y0 y1 z0 z1 HA hne hne'
    generalize (((u2.alloc (.cells #[.int .i64 x2.ver, .slice a1 x2.add.length c1, .slice a2 x2.gone.length c2] 26)).setCell ⟨Fb, 0, none⟩ (.int .i64 k2)).setCell ⟨Fb, 1, none⟩ (.int .i64 f2)) = t2 at *
    obtain ⟨Rb2, HRb⟩ : ∃ Rb, Hid (u2.heap.size = Rb) := ⟨_, rfl⟩
    rw [unhide HRb] at HP ⊢
    clear HRb
    go_cut [] from 23 (fun wc => Fr (fun _ => False) w wc ∧ ∃ b e, Bx wc Fb #[.int .i64 b, .int .i64 e] 44)
    case first =>
      by_cases hk : k2 = 0
      · subst hk
        have q0 : t2.cell? ⟨Rb2, 0, none⟩ = some (.int .i64 x2.ver) := (unhide HP).2.2.2.cell 0
        have q1 : t2.cell? ⟨Rb2, 1, none⟩ = some (.slice a1 x2.add.length c1) := (unhide HP).2.2.2.cell 1
        have q2 : t2.cell? ⟨Rb2, 2, none⟩ = some (.slice a2 x2.gone.length c2) := (unhide HP).2.2.2.cell 2
        rw [unhide F2 rfl] at W2
        simp only at W2
        go_wp2_with fail
        refine (unhide W2 _ a1 c1 a2 c2 (unhide HN)).mono ?_
        rintro e v2 ⟨ro, rc, rg, rfl, hrow, hnew, hF⟩
        have HX2 : Hid (Fr (fun _ => False) w v2 ∧ Bx v2 Fb #[.int .i64 0, .int .i64 f2] 44) := hide ⟨(unhide HP).1.trans hF (fun _ _ t => t), (unhide HP).2.1.keep hF⟩
        have HS := hide (same_is (hrow.bin (unhide HB).fit) ((unhide HB).keep (unhide HX2).1))
        clear hrow hnew hF HP HN q0 q1 q2
        go_wp2_with fail
        refine (unhide HS).mono ?_
        rintro e w9 ⟨rfl, h9⟩
        obtain rfl : v2 = w9 := h9.symm
        clear HS F2 R2 W2
        go_wp2
        go_meet
        case rel => exact ⟨(unhide HX2).1, _, _, (unhide HX2).2⟩
      · have hkb : (k2 == 0) = false := by simp [hk]
        go_wp2
        go_meet
        case rel => exact ⟨(unhide HP).1, _, _, (unhide HP).2.1⟩
    case rest =>
      obtain ⟨hcF, b2, e2, hcB⟩ := hcut
      have HX2 : Hid (Fr (fun _ => False) w wc ∧ Bx wc Fb #[.int .i64 b2, .int .i64 e2] 44 ∧ w.heap.size ≤ Fb) := hide ⟨hcF, hcB, (unhide HP).2.2.1⟩
      obtain ⟨v2, hv⟩ : ∃ v, v = wc := ⟨_, rfl⟩
      subst hv
      clear hcF hcB HP F2 R2 W2 HN
      go_wp2_with fail
      refine (unhide R3 _ ao cap ((unhide HB).keep (unhide HX2).1)).mono ?_
      rintro e u3 ⟨rfl, hF⟩
      have HU : Hid (Fr (fun _ => False) w u3 ∧ Bx u3 Fb #[.int .i64 b2, .int .i64 e2] 44 ∧ w.heap.size ≤ Fb ∧ Fb < v2.heap.size) := hide ⟨(unhide HX2).1.trans hF (fun _ _ t => t), (unhide HX2).2.1.keep hF, (unhide HX2).2.2, (unhide HX2).2.1.lt⟩
      have hne : u3.heap.size ≠ Fb := by have := (unhide HU).2.1.lt; omega
      have hne' : Fb ≠ u3.heap.size := hne.symm
      have HA : Hid (Bx (u3.alloc (.cells #[.int .i64 x3.run, .string x3.tok, .int .i64 x3.amount, .bool x3.paid] 28)) Fb #[.int .i64 b2, .int .i64 e2] 44 ∧ Bx (u3.alloc (.cells #[.int .i64 x3.run, .string x3.tok, .int .i64 x3.amount, .bool x3.paid] 28)) u3.heap.size #[.int .i64 x3.run, .string x3.tok, .int .i64 x3.amount, .bool x3.paid] 28) := hide ⟨(unhide HU).2.1.alloc _, Bx.new _ _ _⟩
      have HP : Hid (Fr (fun _ => False) w (((u3.alloc (.cells #[.int .i64 x3.run, .string x3.tok, .int .i64 x3.amount, .bool x3.paid] 28)).setCell ⟨Fb, 0, none⟩ (.int .i64 k3)).setCell ⟨Fb, 1, none⟩ (.int .i64 f3)) ∧ Bx (((u3.alloc (.cells #[.int .i64 x3.run, .string x3.tok, .int .i64 x3.amount, .bool x3.paid] 28)).setCell ⟨Fb, 0, none⟩ (.int .i64 k3)).setCell ⟨Fb, 1, none⟩ (.int .i64 f3)) Fb #[.int .i64 k3, .int .i64 f3] 44 ∧ w.heap.size ≤ Fb ∧ Bx (((u3.alloc (.cells #[.int .i64 x3.run, .string x3.tok, .int .i64 x3.amount, .bool x3.paid] 28)).setCell ⟨Fb, 0, none⟩ (.int .i64 k3)).setCell ⟨Fb, 1, none⟩ (.int .i64 f3)) u3.heap.size #[.int .i64 x3.run, .string x3.tok, .int .i64 x3.amount, .bool x3.paid] 28) := hide ⟨Fr.setCell (Fr.setCell ((unhide HU).1.alloc _) (p := ⟨Fb, 0, none⟩) (fun h => by have h6 : Fb < w.heap.size := h; have := (unhide HU).2.2; omega) _) (p := ⟨Fb, 1, none⟩) (fun h => by have h6 : Fb < w.heap.size := h; have := (unhide HU).2.2; omega) _, Bx.setCell (Bx.setCell (unhide HA).1 0 _) 1 _, (unhide HU).2.2.1, Bx.setOther (Bx.setOther (unhide HA).2 hne 0 _) hne 1 _⟩
      have y0 : (u3.alloc (.cells #[.int .i64 x3.run, .string x3.tok, .int .i64 x3.amount, .bool x3.paid] 28)).cell? ⟨Fb, 0, none⟩ = some (.int .i64 b2) := (unhide HA).1.cell 0
      have z0 : (u3.alloc (.cells #[.int .i64 x3.run, .string x3.tok, .int .i64 x3.amount, .bool x3.paid] 28)).frozen? ⟨Fb, 0, none⟩ = false := (unhide HA).1.frozen 0
      have y1 : (u3.alloc (.cells #[.int .i64 x3.run, .string x3.tok, .int .i64 x3.amount, .bool x3.paid] 28)).cell? ⟨Fb, 1, none⟩ = some (.int .i64 e2) := (unhide HA).1.cell 1
      have z1 : (u3.alloc (.cells #[.int .i64 x3.run, .string x3.tok, .int .i64 x3.amount, .bool x3.paid] 28)).frozen? ⟨Fb, 1, none⟩ = false := (unhide HA).1.frozen 1
      clear hF HX2 HU
      go_upto_if 73 with (fail)
      clear y0 y1 z0 z1 HA hne hne'
      generalize (((u3.alloc (.cells #[.int .i64 x3.run, .string x3.tok, .int .i64 x3.amount, .bool x3.paid] 28)).setCell ⟨Fb, 0, none⟩ (.int .i64 k3)).setCell ⟨Fb, 1, none⟩ (.int .i64 f3)) = t3 at *
      obtain ⟨Rb3, HRb⟩ : ∃ Rb, Hid (u3.heap.size = Rb) := ⟨_, rfl⟩
      rw [unhide HRb] at HP ⊢
      clear HRb
      go_cut [] from 23 (fun wc => Fr (fun _ => False) w wc ∧ ∃ b e, Bx wc Fb #[.int .i64 b, .int .i64 e] 44)
      case first =>
        by_cases hk : k3 = 0
        · subst hk
          have q0 : t3.cell? ⟨Rb3, 0, none⟩ = some (.int .i64 x3.run) := (unhide HP).2.2.2.cell 0
          have q1 : t3.cell? ⟨Rb3, 1, none⟩ = some (.string x3.tok) := (unhide HP).2.2.2.cell 1
          have q2 : t3.cell? ⟨Rb3, 2, none⟩ = some (.int .i64 x3.amount) := (unhide HP).2.2.2.cell 2
          have q3 : t3.cell? ⟨Rb3, 3, none⟩ = some (.bool x3.paid) := (unhide HP).2.2.2.cell 3
          rw [unhide F3 rfl] at W3
          simp only at W3
          go_wp2_with fail
          refine (unhide W3 _).mono ?_
          rintro e v3 ⟨ro, rc, rg, rfl, hrow, hnew, hF⟩
          have HX3 : Hid (Fr (fun _ => False) w v3 ∧ Bx v3 Fb #[.int .i64 0, .int .i64 f3] 44) := hide ⟨(unhide HP).1.trans hF (fun _ _ t => t), (unhide HP).2.1.keep hF⟩
          have HS := hide (same_is (hrow.bin (unhide HB).fit) ((unhide HB).keep (unhide HX3).1))
          clear hrow hnew hF HP q0 q1 q2 q3
          go_wp2_with fail
          refine (unhide HS).mono ?_
          rintro e w9 ⟨rfl, h9⟩
          obtain rfl : v3 = w9 := h9.symm
          clear HS F3 R3 W3
          go_wp2
          go_meet
          case rel => exact ⟨(unhide HX3).1, _, _, (unhide HX3).2⟩
        · have hkb : (k3 == 0) = false := by simp [hk]
          go_wp2
          go_meet
          case rel => exact ⟨(unhide HP).1, _, _, (unhide HP).2.1⟩
      case rest =>
        obtain ⟨hcF, b3, e3, hcB⟩ := hcut
        have HX3 : Hid (Fr (fun _ => False) w wc ∧ Bx wc Fb #[.int .i64 b3, .int .i64 e3] 44 ∧ w.heap.size ≤ Fb) := hide ⟨hcF, hcB, (unhide HP).2.2.1⟩
        obtain ⟨v3, hv⟩ : ∃ v, v = wc := ⟨_, rfl⟩
        subst hv
        clear hcF hcB HP F3 R3 W3
        go_wp2_with fail
        refine (unhide R4 _ ao cap ((unhide HB).keep (unhide HX3).1)).mono ?_
        rintro e u4 ⟨rfl, hF⟩
        have HU : Hid (Fr (fun _ => False) w u4 ∧ Bx u4 Fb #[.int .i64 b3, .int .i64 e3] 44 ∧ w.heap.size ≤ Fb ∧ Fb < v3.heap.size) := hide ⟨(unhide HX3).1.trans hF (fun _ _ t => t), (unhide HX3).2.1.keep hF, (unhide HX3).2.2, (unhide HX3).2.1.lt⟩
        have hne : u4.heap.size ≠ Fb := by have := (unhide HU).2.1.lt; omega
        have hne' : Fb ≠ u4.heap.size := hne.symm
        have HA : Hid (Bx (u4.alloc (.cells #[.string x4.tok, .int .i64 x4.charged, .int .i64 x4.paid] 30)) Fb #[.int .i64 b3, .int .i64 e3] 44 ∧ Bx (u4.alloc (.cells #[.string x4.tok, .int .i64 x4.charged, .int .i64 x4.paid] 30)) u4.heap.size #[.string x4.tok, .int .i64 x4.charged, .int .i64 x4.paid] 30) := hide ⟨(unhide HU).2.1.alloc _, Bx.new _ _ _⟩
        have HP : Hid (Fr (fun _ => False) w (((u4.alloc (.cells #[.string x4.tok, .int .i64 x4.charged, .int .i64 x4.paid] 30)).setCell ⟨Fb, 0, none⟩ (.int .i64 k4)).setCell ⟨Fb, 1, none⟩ (.int .i64 f4)) ∧ Bx (((u4.alloc (.cells #[.string x4.tok, .int .i64 x4.charged, .int .i64 x4.paid] 30)).setCell ⟨Fb, 0, none⟩ (.int .i64 k4)).setCell ⟨Fb, 1, none⟩ (.int .i64 f4)) Fb #[.int .i64 k4, .int .i64 f4] 44 ∧ w.heap.size ≤ Fb ∧ Bx (((u4.alloc (.cells #[.string x4.tok, .int .i64 x4.charged, .int .i64 x4.paid] 30)).setCell ⟨Fb, 0, none⟩ (.int .i64 k4)).setCell ⟨Fb, 1, none⟩ (.int .i64 f4)) u4.heap.size #[.string x4.tok, .int .i64 x4.charged, .int .i64 x4.paid] 30) := hide ⟨Fr.setCell (Fr.setCell ((unhide HU).1.alloc _) (p := ⟨Fb, 0, none⟩) (fun h => by have h6 : Fb < w.heap.size := h; have := (unhide HU).2.2; omega) _) (p := ⟨Fb, 1, none⟩) (fun h => by have h6 : Fb < w.heap.size := h; have := (unhide HU).2.2; omega) _, Bx.setCell (Bx.setCell (unhide HA).1 0 _) 1 _, (unhide HU).2.2.1, Bx.setOther (Bx.setOther (unhide HA).2 hne 0 _) hne 1 _⟩
        have y0 : (u4.alloc (.cells #[.string x4.tok, .int .i64 x4.charged, .int .i64 x4.paid] 30)).cell? ⟨Fb, 0, none⟩ = some (.int .i64 b3) := (unhide HA).1.cell 0
        have z0 : (u4.alloc (.cells #[.string x4.tok, .int .i64 x4.charged, .int .i64 x4.paid] 30)).frozen? ⟨Fb, 0, none⟩ = false := (unhide HA).1.frozen 0
        have y1 : (u4.alloc (.cells #[.string x4.tok, .int .i64 x4.charged, .int .i64 x4.paid] 30)).cell? ⟨Fb, 1, none⟩ = some (.int .i64 e3) := (unhide HA).1.cell 1
        have z1 : (u4.alloc (.cells #[.string x4.tok, .int .i64 x4.charged, .int .i64 x4.paid] 30)).frozen? ⟨Fb, 1, none⟩ = false := (unhide HA).1.frozen 1
        clear hF HX3 HU
        go_upto_if 94 with (fail)
        clear y0 y1 z0 z1 HA hne hne'
        generalize (((u4.alloc (.cells #[.string x4.tok, .int .i64 x4.charged, .int .i64 x4.paid] 30)).setCell ⟨Fb, 0, none⟩ (.int .i64 k4)).setCell ⟨Fb, 1, none⟩ (.int .i64 f4)) = t4 at *
        obtain ⟨Rb4, HRb⟩ : ∃ Rb, Hid (u4.heap.size = Rb) := ⟨_, rfl⟩
        rw [unhide HRb] at HP ⊢
        clear HRb
        go_cut [] from 23 (fun wc => Fr (fun _ => False) w wc ∧ ∃ b e, Bx wc Fb #[.int .i64 b, .int .i64 e] 44)
        case first =>
          by_cases hk : k4 = 0
          · subst hk
            have q0 : t4.cell? ⟨Rb4, 0, none⟩ = some (.string x4.tok) := (unhide HP).2.2.2.cell 0
            have q1 : t4.cell? ⟨Rb4, 1, none⟩ = some (.int .i64 x4.charged) := (unhide HP).2.2.2.cell 1
            have q2 : t4.cell? ⟨Rb4, 2, none⟩ = some (.int .i64 x4.paid) := (unhide HP).2.2.2.cell 2
            rw [unhide F4 rfl] at W4
            simp only at W4
            go_wp2_with fail
            refine (unhide W4 _).mono ?_
            rintro e v4 ⟨ro, rc, rg, rfl, hrow, hnew, hF⟩
            have HX4 : Hid (Fr (fun _ => False) w v4 ∧ Bx v4 Fb #[.int .i64 0, .int .i64 f4] 44) := hide ⟨(unhide HP).1.trans hF (fun _ _ t => t), (unhide HP).2.1.keep hF⟩
            have HS := hide (same_is (hrow.bin (unhide HB).fit) ((unhide HB).keep (unhide HX4).1))
            clear hrow hnew hF HP q0 q1 q2
            go_wp2_with fail
            refine (unhide HS).mono ?_
            rintro e w9 ⟨rfl, h9⟩
            obtain rfl : v4 = w9 := h9.symm
            clear HS F4 R4 W4
            go_wp2
            go_meet
            case rel => exact ⟨(unhide HX4).1, _, _, (unhide HX4).2⟩
          · have hkb : (k4 == 0) = false := by simp [hk]
            go_wp2
            go_meet
            case rel => exact ⟨(unhide HP).1, _, _, (unhide HP).2.1⟩
        case rest =>
          obtain ⟨hcF, b4, e4, hcB⟩ := hcut
          have HX4 : Hid (Fr (fun _ => False) w wc ∧ Bx wc Fb #[.int .i64 b4, .int .i64 e4] 44 ∧ w.heap.size ≤ Fb) := hide ⟨hcF, hcB, (unhide HP).2.2.1⟩
          obtain ⟨v4, hv⟩ : ∃ v, v = wc := ⟨_, rfl⟩
          subst hv
          clear hcF hcB HP F4 R4 W4
          go_wp2_with fail
          refine (unhide R5 _ ao cap ((unhide HB).keep (unhide HX4).1)).mono ?_
          rintro e u5 ⟨ol, oc, og, rfl, hN, hF⟩
          have HU : Hid (Fr (fun _ => False) w u5 ∧ Bx u5 Fb #[.int .i64 b4, .int .i64 e4] 44 ∧ w.heap.size ≤ Fb ∧ Fb < v4.heap.size) := hide ⟨(unhide HX4).1.trans hF (fun _ _ t => t), (unhide HX4).2.1.keep hF, (unhide HX4).2.2, (unhide HX4).2.1.lt⟩
          have hne : u5.heap.size ≠ Fb := by have := (unhide HU).2.1.lt; omega
          have hne' : Fb ≠ u5.heap.size := hne.symm
          have HA : Hid (Bx u5 Fb #[.int .i64 b4, .int .i64 e4] 44) := hide (unhide HU).2.1
          have HP : Hid (Fr (fun _ => False) w ((u5.setCell ⟨Fb, 0, none⟩ (.int .i64 k5)).setCell ⟨Fb, 1, none⟩ (.int .i64 f5)) ∧ Bx ((u5.setCell ⟨Fb, 0, none⟩ (.int .i64 k5)).setCell ⟨Fb, 1, none⟩ (.int .i64 f5)) Fb #[.int .i64 k5, .int .i64 f5] 44 ∧ w.heap.size ≤ Fb) := hide ⟨Fr.setCell (Fr.setCell ((unhide HU).1) (p := ⟨Fb, 0, none⟩) (fun h => by have h6 : Fb < w.heap.size := h; have := (unhide HU).2.2; omega) _) (p := ⟨Fb, 1, none⟩) (fun h => by have h6 : Fb < w.heap.size := h; have := (unhide HU).2.2; omega) _, Bx.setCell (Bx.setCell (unhide HA) 0 _) 1 _, (unhide HU).2.2.1⟩
          have HN : Hid (OIn ((u5.setCell ⟨Fb, 0, none⟩ (.int .i64 k5)).setCell ⟨Fb, 1, none⟩ (.int .i64 f5)) x5 ol oc) := hide ((hN.go (by omega) (Fr.setCell (Fr.setCell ((Fr.refl (fun q => q = Fb) u5)) (p := ⟨Fb, 0, none⟩) (fun _ => rfl) _) (p := ⟨Fb, 1, none⟩) (fun _ => rfl) _) (fun q hq => by have h7 : q = Fb := hq; have := (unhide HU).2.2.2; omega)).oin (unhide HL5))
          clear hN
          have y0 : u5.cell? ⟨Fb, 0, none⟩ = some (.int .i64 b4) := (unhide HA).cell 0
          have z0 : u5.frozen? ⟨Fb, 0, none⟩ = false := (unhide HA).frozen 0
          have y1 : u5.cell? ⟨Fb, 1, none⟩ = some (.int .i64 e4) := (unhide HA).cell 1
          have z1 : u5.frozen? ⟨Fb, 1, none⟩ = false := (unhide HA).frozen 1
          clear hF HX4 HU
          go_upto_if 115 with (fail)
          clear y0 y1 z0 z1 HA hne hne'
          generalize ((u5.setCell ⟨Fb, 0, none⟩ (.int .i64 k5)).setCell ⟨Fb, 1, none⟩ (.int .i64 f5)) = t5 at *
          go_cut [] from 23 (fun wc => Fr (fun _ => False) w wc ∧ ∃ b e, Bx wc Fb #[.int .i64 b, .int .i64 e] 44)
          case first =>
            by_cases hk : k5 = 0
            · subst hk
              rw [unhide F5 rfl] at W5
              simp only at W5
              go_wp2_with fail
              refine (unhide W5 _ ol oc (unhide HN)).mono ?_
              rintro e v5 ⟨ro, rc, rg, rfl, hrow, hnew, hF⟩
              have HX5 : Hid (Fr (fun _ => False) w v5 ∧ Bx v5 Fb #[.int .i64 0, .int .i64 f5] 44) := hide ⟨(unhide HP).1.trans hF (fun _ _ t => t), (unhide HP).2.1.keep hF⟩
              have HS := hide (same_is (hrow.bin (unhide HB).fit) ((unhide HB).keep (unhide HX5).1))
              clear hrow hnew hF HP HN 
              go_wp2_with fail
              refine (unhide HS).mono ?_
              rintro e w9 ⟨rfl, h9⟩
              obtain rfl : v5 = w9 := h9.symm
              clear HS F5 R5 W5
              go_wp2
              go_meet
              case rel => exact ⟨(unhide HX5).1, _, _, (unhide HX5).2⟩
            · have hkb : (k5 == 0) = false := by simp [hk]
              go_wp2
              go_meet
              case rel => exact ⟨(unhide HP).1, _, _, (unhide HP).2.1⟩
          case rest =>
            obtain ⟨hcF, b5, e5, hcB⟩ := hcut
            have HX5 : Hid (Fr (fun _ => False) w wc ∧ Bx wc Fb #[.int .i64 b5, .int .i64 e5] 44 ∧ w.heap.size ≤ Fb) := hide ⟨hcF, hcB, (unhide HP).2.2⟩
            obtain ⟨v5, hv⟩ : ∃ v, v = wc := ⟨_, rfl⟩
            subst hv
            clear hcF hcB HP F5 R5 W5 HN
            go_wp2_with fail
            refine (unhide R6 _ ao cap ((unhide HB).keep (unhide HX5).1)).mono ?_
            rintro e u6 ⟨A, g0, g1, g2, rfl, hN, hF⟩
            have HU : Hid (Fr (fun _ => False) w u6 ∧ Bx u6 Fb #[.int .i64 b5, .int .i64 e5] 44 ∧ w.heap.size ≤ Fb ∧ Fb < v5.heap.size) := hide ⟨(unhide HX5).1.trans hF (fun _ _ t => t), (unhide HX5).2.1.keep hF, (unhide HX5).2.2, (unhide HX5).2.1.lt⟩
            have hne : u6.heap.size ≠ Fb := by have := (unhide HU).2.1.lt; omega
            have hne' : Fb ≠ u6.heap.size := hne.symm
            have HA : Hid (Bx (u6.alloc (.cells #[.slice A.aS x6.st.length A.cS, .slice A.aP x6.sp.length A.cP, .slice A.aB x6.bd.length A.cB, .float .f64 x6.off, .int .i64 x6.bus, .int .i64 x6.busDaily, .int .i64 x6.busWeekly, .int .i64 x6.hopper, .int .i64 x6.most, .int .i64 x6.longest, .int .i64 x6.change, .int .i64 x6.passback, .int .i64 x6.delay, .int .i64 x6.threshold] 37)) Fb #[.int .i64 b5, .int .i64 e5] 44 ∧ Bx (u6.alloc (.cells #[.slice A.aS x6.st.length A.cS, .slice A.aP x6.sp.length A.cP, .slice A.aB x6.bd.length A.cB, .float .f64 x6.off, .int .i64 x6.bus, .int .i64 x6.busDaily, .int .i64 x6.busWeekly, .int .i64 x6.hopper, .int .i64 x6.most, .int .i64 x6.longest, .int .i64 x6.change, .int .i64 x6.passback, .int .i64 x6.delay, .int .i64 x6.threshold] 37)) u6.heap.size #[.slice A.aS x6.st.length A.cS, .slice A.aP x6.sp.length A.cP, .slice A.aB x6.bd.length A.cB, .float .f64 x6.off, .int .i64 x6.bus, .int .i64 x6.busDaily, .int .i64 x6.busWeekly, .int .i64 x6.hopper, .int .i64 x6.most, .int .i64 x6.longest, .int .i64 x6.change, .int .i64 x6.passback, .int .i64 x6.delay, .int .i64 x6.threshold] 37) := hide ⟨(unhide HU).2.1.alloc _, Bx.new _ _ _⟩
            have HP : Hid (Fr (fun _ => False) w (((u6.alloc (.cells #[.slice A.aS x6.st.length A.cS, .slice A.aP x6.sp.length A.cP, .slice A.aB x6.bd.length A.cB, .float .f64 x6.off, .int .i64 x6.bus, .int .i64 x6.busDaily, .int .i64 x6.busWeekly, .int .i64 x6.hopper, .int .i64 x6.most, .int .i64 x6.longest, .int .i64 x6.change, .int .i64 x6.passback, .int .i64 x6.delay, .int .i64 x6.threshold] 37)).setCell ⟨Fb, 0, none⟩ (.int .i64 k6)).setCell ⟨Fb, 1, none⟩ (.int .i64 f6)) ∧ Bx (((u6.alloc (.cells #[.slice A.aS x6.st.length A.cS, .slice A.aP x6.sp.length A.cP, .slice A.aB x6.bd.length A.cB, .float .f64 x6.off, .int .i64 x6.bus, .int .i64 x6.busDaily, .int .i64 x6.busWeekly, .int .i64 x6.hopper, .int .i64 x6.most, .int .i64 x6.longest, .int .i64 x6.change, .int .i64 x6.passback, .int .i64 x6.delay, .int .i64 x6.threshold] 37)).setCell ⟨Fb, 0, none⟩ (.int .i64 k6)).setCell ⟨Fb, 1, none⟩ (.int .i64 f6)) Fb #[.int .i64 k6, .int .i64 f6] 44 ∧ w.heap.size ≤ Fb ∧ Bx (((u6.alloc (.cells #[.slice A.aS x6.st.length A.cS, .slice A.aP x6.sp.length A.cP, .slice A.aB x6.bd.length A.cB, .float .f64 x6.off, .int .i64 x6.bus, .int .i64 x6.busDaily, .int .i64 x6.busWeekly, .int .i64 x6.hopper, .int .i64 x6.most, .int .i64 x6.longest, .int .i64 x6.change, .int .i64 x6.passback, .int .i64 x6.delay, .int .i64 x6.threshold] 37)).setCell ⟨Fb, 0, none⟩ (.int .i64 k6)).setCell ⟨Fb, 1, none⟩ (.int .i64 f6)) u6.heap.size #[.slice A.aS x6.st.length A.cS, .slice A.aP x6.sp.length A.cP, .slice A.aB x6.bd.length A.cB, .float .f64 x6.off, .int .i64 x6.bus, .int .i64 x6.busDaily, .int .i64 x6.busWeekly, .int .i64 x6.hopper, .int .i64 x6.most, .int .i64 x6.longest, .int .i64 x6.change, .int .i64 x6.passback, .int .i64 x6.delay, .int .i64 x6.threshold] 37) := hide ⟨Fr.setCell (Fr.setCell ((unhide HU).1.alloc _) (p := ⟨Fb, 0, none⟩) (fun h => by have h6 : Fb < w.heap.size := h; have := (unhide HU).2.2; omega) _) (p := ⟨Fb, 1, none⟩) (fun h => by have h6 : Fb < w.heap.size := h; have := (unhide HU).2.2; omega) _, Bx.setCell (Bx.setCell (unhide HA).1 0 _) 1 _, (unhide HU).2.2.1, Bx.setOther (Bx.setOther (unhide HA).2 hne 0 _) hne 1 _⟩
            have HN : Hid (TAt (((u6.alloc (.cells #[.slice A.aS x6.st.length A.cS, .slice A.aP x6.sp.length A.cP, .slice A.aB x6.bd.length A.cB, .float .f64 x6.off, .int .i64 x6.bus, .int .i64 x6.busDaily, .int .i64 x6.busWeekly, .int .i64 x6.hopper, .int .i64 x6.most, .int .i64 x6.longest, .int .i64 x6.change, .int .i64 x6.passback, .int .i64 x6.delay, .int .i64 x6.threshold] 37)).setCell ⟨Fb, 0, none⟩ (.int .i64 k6)).setCell ⟨Fb, 1, none⟩ (.int .i64 f6)) A x6) := hide (hN.go (Fr.setCell (Fr.setCell ((Fr.refl (fun q => q = Fb) u6).alloc _) (p := ⟨Fb, 0, none⟩) (fun _ => rfl) _) (p := ⟨Fb, 1, none⟩) (fun _ => rfl) _) (fun q hq => by have h7 : q = Fb := hq; have := (unhide HU).2.2.2; omega)).at
            clear hN
            have y0 : (u6.alloc (.cells #[.slice A.aS x6.st.length A.cS, .slice A.aP x6.sp.length A.cP, .slice A.aB x6.bd.length A.cB, .float .f64 x6.off, .int .i64 x6.bus, .int .i64 x6.busDaily, .int .i64 x6.busWeekly, .int .i64 x6.hopper, .int .i64 x6.most, .int .i64 x6.longest, .int .i64 x6.change, .int .i64 x6.passback, .int .i64 x6.delay, .int .i64 x6.threshold] 37)).cell? ⟨Fb, 0, none⟩ = some (.int .i64 b5) := (unhide HA).1.cell 0
            have z0 : (u6.alloc (.cells #[.slice A.aS x6.st.length A.cS, .slice A.aP x6.sp.length A.cP, .slice A.aB x6.bd.length A.cB, .float .f64 x6.off, .int .i64 x6.bus, .int .i64 x6.busDaily, .int .i64 x6.busWeekly, .int .i64 x6.hopper, .int .i64 x6.most, .int .i64 x6.longest, .int .i64 x6.change, .int .i64 x6.passback, .int .i64 x6.delay, .int .i64 x6.threshold] 37)).frozen? ⟨Fb, 0, none⟩ = false := (unhide HA).1.frozen 0
            have y1 : (u6.alloc (.cells #[.slice A.aS x6.st.length A.cS, .slice A.aP x6.sp.length A.cP, .slice A.aB x6.bd.length A.cB, .float .f64 x6.off, .int .i64 x6.bus, .int .i64 x6.busDaily, .int .i64 x6.busWeekly, .int .i64 x6.hopper, .int .i64 x6.most, .int .i64 x6.longest, .int .i64 x6.change, .int .i64 x6.passback, .int .i64 x6.delay, .int .i64 x6.threshold] 37)).cell? ⟨Fb, 1, none⟩ = some (.int .i64 e5) := (unhide HA).1.cell 1
            have z1 : (u6.alloc (.cells #[.slice A.aS x6.st.length A.cS, .slice A.aP x6.sp.length A.cP, .slice A.aB x6.bd.length A.cB, .float .f64 x6.off, .int .i64 x6.bus, .int .i64 x6.busDaily, .int .i64 x6.busWeekly, .int .i64 x6.hopper, .int .i64 x6.most, .int .i64 x6.longest, .int .i64 x6.change, .int .i64 x6.passback, .int .i64 x6.delay, .int .i64 x6.threshold] 37)).frozen? ⟨Fb, 1, none⟩ = false := (unhide HA).1.frozen 1
            clear hF HX5 HU
            go_upto_if 136 with (fail)
            clear y0 y1 z0 z1 HA hne hne'
            generalize (((u6.alloc (.cells #[.slice A.aS x6.st.length A.cS, .slice A.aP x6.sp.length A.cP, .slice A.aB x6.bd.length A.cB, .float .f64 x6.off, .int .i64 x6.bus, .int .i64 x6.busDaily, .int .i64 x6.busWeekly, .int .i64 x6.hopper, .int .i64 x6.most, .int .i64 x6.longest, .int .i64 x6.change, .int .i64 x6.passback, .int .i64 x6.delay, .int .i64 x6.threshold] 37)).setCell ⟨Fb, 0, none⟩ (.int .i64 k6)).setCell ⟨Fb, 1, none⟩ (.int .i64 f6)) = t6 at *
            obtain ⟨Rb6, HRb⟩ : ∃ Rb, Hid (u6.heap.size = Rb) := ⟨_, rfl⟩
            rw [unhide HRb] at HP ⊢
            clear HRb
            go_cut [] from 23 (fun wc => Fr (fun _ => False) w wc ∧ ∃ b e, Bx wc Fb #[.int .i64 b, .int .i64 e] 44)
            case first =>
              by_cases hk : k6 = 0
              · subst hk
                have q0 : t6.cell? ⟨Rb6, 0, none⟩ = some (.slice A.aS x6.st.length A.cS) := (unhide HP).2.2.2.cell 0
                have q1 : t6.cell? ⟨Rb6, 1, none⟩ = some (.slice A.aP x6.sp.length A.cP) := (unhide HP).2.2.2.cell 1
                have q2 : t6.cell? ⟨Rb6, 2, none⟩ = some (.slice A.aB x6.bd.length A.cB) := (unhide HP).2.2.2.cell 2
                have q3 : t6.cell? ⟨Rb6, 3, none⟩ = some (.float .f64 x6.off) := (unhide HP).2.2.2.cell 3
                have q4 : t6.cell? ⟨Rb6, 4, none⟩ = some (.int .i64 x6.bus) := (unhide HP).2.2.2.cell 4
                have q5 : t6.cell? ⟨Rb6, 5, none⟩ = some (.int .i64 x6.busDaily) := (unhide HP).2.2.2.cell 5
                have q6 : t6.cell? ⟨Rb6, 6, none⟩ = some (.int .i64 x6.busWeekly) := (unhide HP).2.2.2.cell 6
                have q7 : t6.cell? ⟨Rb6, 7, none⟩ = some (.int .i64 x6.hopper) := (unhide HP).2.2.2.cell 7
                have q8 : t6.cell? ⟨Rb6, 8, none⟩ = some (.int .i64 x6.most) := (unhide HP).2.2.2.cell 8
                have q9 : t6.cell? ⟨Rb6, 9, none⟩ = some (.int .i64 x6.longest) := (unhide HP).2.2.2.cell 9
                have q10 : t6.cell? ⟨Rb6, 10, none⟩ = some (.int .i64 x6.change) := (unhide HP).2.2.2.cell 10
                have q11 : t6.cell? ⟨Rb6, 11, none⟩ = some (.int .i64 x6.passback) := (unhide HP).2.2.2.cell 11
                have q12 : t6.cell? ⟨Rb6, 12, none⟩ = some (.int .i64 x6.delay) := (unhide HP).2.2.2.cell 12
                have q13 : t6.cell? ⟨Rb6, 13, none⟩ = some (.int .i64 x6.threshold) := (unhide HP).2.2.2.cell 13
                rw [unhide F6 rfl] at W6
                simp only at W6
                go_wp2_with fail
                refine (unhide W6 _ A (unhide HN)).mono ?_
                rintro e v6 ⟨ro, rc, rg, rfl, hrow, hnew, hF⟩
                have HX6 : Hid (Fr (fun _ => False) w v6 ∧ Bx v6 Fb #[.int .i64 0, .int .i64 f6] 44) := hide ⟨(unhide HP).1.trans hF (fun _ _ t => t), (unhide HP).2.1.keep hF⟩
                have HS := hide (same_is (hrow.bin (unhide HB).fit) ((unhide HB).keep (unhide HX6).1))
                clear hrow hnew hF HP HN q0 q1 q2 q3 q4 q5 q6 q7 q8 q9 q10 q11 q12 q13
                go_wp2_with fail
                refine (unhide HS).mono ?_
                rintro e w9 ⟨rfl, h9⟩
                obtain rfl : v6 = w9 := h9.symm
                clear HS F6 R6 W6
                go_wp2
                go_meet
                case rel => exact ⟨(unhide HX6).1, _, _, (unhide HX6).2⟩
              · have hkb : (k6 == 0) = false := by simp [hk]
                go_wp2
                go_meet
                case rel => exact ⟨(unhide HP).1, _, _, (unhide HP).2.1⟩
            case rest =>
              obtain ⟨hcF, b6, e6, hcB⟩ := hcut
              have HX6 : Hid (Fr (fun _ => False) w wc ∧ Bx wc Fb #[.int .i64 b6, .int .i64 e6] 44 ∧ w.heap.size ≤ Fb) := hide ⟨hcF, hcB, (unhide HP).2.2.1⟩
              obtain ⟨v6, hv⟩ : ∃ v, v = wc := ⟨_, rfl⟩
              subst hv
              clear hcF hcB HP F6 R6 W6 HN
              go_wp2
              go_ret
              exact ⟨rfl, (unhide HX6).1⟩

end Go.Proofs.YtkjoojamkbpfcabGreat

