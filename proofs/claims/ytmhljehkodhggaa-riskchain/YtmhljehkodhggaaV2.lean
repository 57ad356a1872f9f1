import Derived.Test.YtmhljehkodhggaaV1
/- The walk of the law RiskChain. -/
namespace Go.Proofs.Ytmhljehkodhggaa
open Go.RowKit

/-- Lists of texts that were handed in. -/
def SetsAt (w : World) (ao : Option Addr) (ss : List (List ByteArray)) : Prop := 0 < ss.length → ∃ b off, ao = some ⟨b, off, none⟩ ∧ ∀ j (hj : j < ss.length), ∃ a c, w.cell? ⟨b, off + j, none⟩ = some (.slice a ss[j].length c) ∧ SAt w a ss[j] ∧ ss[j].length * 16 ≤ 140737488355328
theorem SetsAt.keep {w w' : World} {ao : Option Addr} {ss : List (List ByteArray)} (h : SetsAt w ao ss) (hf : Fr (fun _ => False) w w') : SetsAt w' ao ss := fun h0 => by
  obtain ⟨b, off, e, hc⟩ := h h0
  refine ⟨b, off, e, fun j hj => ?_⟩
  obtain ⟨a, c, k1, k2, k3⟩ := hc j hj
  exact ⟨a, c, (hf.cell (a := ⟨b, off + j, none⟩) (World.block_lt_of_cell? _ _ k1) (fun t => t)).trans k1, k2.keep hf, k3⟩

/-- What the law holds: the last list, twice. -/
structure Cn (w W wr : World) (B : Nat) (L : Rl) (a1 : Option Addr) (c1 g1 : Nat) (a2 : Option Addr) (c2 g2 : Nat) : Prop where
  fr : Fr (fun _ => False) w wr
  low : w.heap.size ≤ B
  sz : W.heap.size = B + 1 + 1
  b1 : Bx wr B #[.int .i64 L.ver, .slice a1 L.toks.length c1] 24
  b2 : Bx wr (B + 1) #[.int .i64 L.ver, .slice a2 L.toks.length c2] 24
  l1 : LO W wr a1 c1 g1 L.toks
  l2 : LO W wr a2 c2 g2 L.toks
  len : L.toks.length ≤ 1000
  ver : L.ver ≤ 9223372036854775807
theorem Cn.keep {w W wr w' : World} {B : Nat} {L : Rl} {a1 : Option Addr} {c1 g1 : Nat} {a2 : Option Addr} {c2 g2 : Nat} (h : Cn w W wr B L a1 c1 g1 a2 c2 g2) (hf : Fr (fun _ => False) wr w') : Cn w W w' B L a1 c1 g1 a2 c2 g2 :=
  ⟨h.fr.trans hf (fun _ _ t => t), h.low, h.sz, h.b1.keep hf, h.b2.keep hf, h.l1.keep hf, h.l2.keep hf, h.len, h.ver⟩
theorem Cn.r1 {w W wr : World} {B : Nat} {L : Rl} {a1 : Option Addr} {c1 g1 : Nat} {a2 : Option Addr} {c2 g2 : Nat} (h : Cn w W wr B L a1 c1 g1 a2 c2 g2) : RIn wr L a1 c1 := ⟨h.l1.sat, by have := h.len; omega, h.l1.len, h.ver⟩
theorem Cn.r2 {w W wr : World} {B : Nat} {L : Rl} {a1 : Option Addr} {c1 g1 : Nat} {a2 : Option Addr} {c2 g2 : Nat} (h : Cn w W wr B L a1 c1 g1 a2 c2 g2) : RIn wr L a2 c2 := ⟨h.l2.sat, by have := h.len; omega, h.l2.len, h.ver⟩

set_option maxHeartbeats 8000000 in
set_option maxRecDepth 20000 in
theorem chain_walk (w : World) (ss : List (List ByteArray)) (ao : Option Addr) (co : Nat) (hs : SetsAt w ao ss) :
    Calls Try.prog 4 #[.slice ao ss.length co] w fun e w' => e = .returned (.bool true) ∧ Fr (fun _ => False) w w' := by
  have HS := hide hs
  clear hs
  go_enter Try.func4, Try.ntmps4
  go_wp2_with fail
  refine (awake13_any _).mono ?_
  rintro e w1 ⟨rfl, hF⟩
  obtain ⟨B, HB⟩ : ∃ B, Hid (w1.heap.size = B) := ⟨_, rfl⟩
  obtain ⟨W, HW⟩ : ∃ W, Hid (W = (w1.alloc (.cells #[.int .i64 0, .slice none 0 0] 24)).alloc (.cells #[.int .i64 0, .slice none 0 0] 24)) := ⟨_, rfl⟩
  have HC0 : Hid (Cn w W W B ⟨0, []⟩ none 0 0 none 0 0) := hide (by
    have h2 := Bx.new (w1.alloc (.cells #[.int .i64 0, .slice none 0 0] 24)) #[.int .i64 0, .slice none 0 0] 24
    rw [heap_alloc, unhide HB] at h2
    have h1 : Bx ((w1.alloc (.cells #[.int .i64 0, .slice none 0 0] 24)).alloc (.cells #[.int .i64 0, .slice none 0 0] 24)) B #[.int .i64 0, .slice none 0 0] 24 := by rw [← unhide HB]; exact (Bx.new _ _ _).alloc _
    rw [← unhide HW] at h1 h2
    refine ⟨by rw [unhide HW]; exact (hF.alloc _).alloc _, by rw [← unhide HB]; exact hF.size, by rw [unhide HW, heap_alloc, heap_alloc, unhide HB], h1, h2, LO.nil _ _, LO.nil _ _, by simp, by show (0 : Int) ≤ _; omega⟩)
  clear hF
  go_wp2
  rw [← unhide HW, unhide HB]
  clear HW HB
  go_loopw [6, 7, 8, 9, 10, 11, 12, 13, 14, 15] (fun iv _ _ _ _ _ _ _ _ _ wr => ∃ (i : Nat), i ≤ ss.length ∧ iv = .int .i64 i ∧ Hid (∃ (L : Rl) (a1 : Option Addr) (c1 g1 : Nat) (a2 : Option Addr) (c2 g2 : Nat), Cn w W wr B L a1 c1 g1 a2 c2 g2)) (fun iv _ _ _ _ _ _ _ _ _ _ => ss.length - (intOf iv).toNat)
  case atStart => exact ⟨0, Nat.zero_le _, rfl, ⟨0, []⟩, none, 0, 0, none, 0, 0, unhide HC0⟩
  case round =>
    clear HC0
    obtain ⟨i, hi, rfl, HR⟩ := hrel
    by_cases hil : i < ss.length
    · by_cases h40 : i < 40
      · obtain ⟨L, a1, c1, g1, a2, c2, g2, hC⟩ := unhide HR
        clear HR
        obtain ⟨b, off, rfl, hcs⟩ := (unhide HS) (by omega)
        obtain ⟨at', ct, k10, k20, k3⟩ := hcs i hil
        have HZ0 := And.intro k10 (And.intro k20 trivial)
        have k1 := (hC.fr.cell (a := ⟨b, off + i, none⟩) (World.block_lt_of_cell? _ _ k10) (fun t => t)).trans k10
        have k2 := k20.keep hC.fr
        clear hcs k10 k20
        obtain ⟨dv, dA, dG, E, HDE, HBAD, HOK⟩ := there_all L ss[i] hC.ver
        have R1 : Hid (∀ w', Fr (fun _ => False) wr w' → Calls Try.prog 6 #[.agg #[.int .i64 L.ver, .slice a1 L.toks.length c1], .slice at' ss[i].length ct] w' fun e w'' => ∃ b1 k1 i1 b2 k2 i2, e = .returned (.tuple #[.agg #[.int .i64 dv, .slice b1 dA.length k1, .slice b2 dG.length k2], .int .i64 E]) ∧ DO w' w'' ⟨dv, dA, dG⟩ b1 k1 i1 b2 k2 i2 ∧ Fr (fun _ => False) w' w'') := hide (fun (w' : World) (hf : Fr (fun _ => False) wr w') => by
          have := diff_any w' L a1 c1 (hC.r1.keep hf) ss[i] at' ct (k2.keep hf) k3
          rw [HDE] at this
          exact this)
        have HSS : Hid (∀ w', Fr (fun k => wr.heap.size ≤ k) wr w' → w'.cell? ⟨B, 0, none⟩ = some (.int .i64 L.ver) ∧ w'.cell? ⟨B, 1, none⟩ = some (.slice a1 L.toks.length c1) ∧ w'.cell? ⟨b, off + i, none⟩ = some (.slice at' ss[i].length ct)) := hide (fun w' hf => ⟨(hC.b1.frame hf (by have := hC.b1.lt; omega)).cell 0, (hC.b1.frame hf (by have := hC.b1.lt; omega)).cell 1, (hf.cell (a := ⟨b, off + i, none⟩) (World.block_lt_of_cell? _ _ k1) (by have := World.block_lt_of_cell? _ _ k1; show ¬ _ ≤ b; have h2 : b < wr.heap.size := this; omega)).trans k1⟩)
        have HTS0 : Hid (w.cell? ⟨b, off + i, none⟩ = some (.slice at' ss[i].length ct) ∧ SAt w at' ss[i] ∧ True) := hide HZ0
        have hln : ss[i].length ≤ 8796093022208 := by omega
        have HCC := hide hC
        have HOKh := hide HOK
        have HBADh := hide HBAD
        clear hC k1 k2 k3 HOK HBAD HDE HZ0
        obtain ⟨ts, Hts⟩ : ∃ ts, Hid (ss[i] = ts) := ⟨ss[i], rfl⟩
        rw [unhide Hts] at R1 HSS HTS0 HOKh hln
        go_upto_region 7 with (fail)
        go_region_held3 (fun w' => w'.cell? ⟨B, 0, none⟩ = some (.int .i64 L.ver) ∧ w'.cell? ⟨B, 1, none⟩ = some (.slice a1 L.toks.length c1) ∧ w'.cell? ⟨b, off + i, none⟩ = some (.slice at' ts.length ct)) (first | exact unhide HSS _ (Fr.refl _ _) | exact unhide HSS _ ((Fr.refl _ _).drew) | exact unhide HSS _ (((Fr.refl _ _).drew).alloc _) | exact unhide HSS _ ((unhide hF2).mono (fun _ _ t => t.elim)) | exact unhide HSS _ (((unhide hF2).mono (fun _ _ t => t.elim)).alloc _) | exact unhide HSS _ ((((Fr.mono (T := fun k => wr.heap.size ≤ k) (unhide hF2) (fun _ _ t => t.elim)).setCell (fun _ => Nat.le_refl _) _).setCell (fun _ => Nat.le_refl _) _).setCell (fun _ => Nat.le_refl _) _)) (first | (go_at_call 6; first | (refine (unhide R1 _ (((Fr.refl _ _).drew).alloc _)).mono ?_; rintro e w2 ⟨b1, k1, i1, b2, k2, i2, rfl, hD2', hE2'⟩; have bx := (show Bx w2 wr.heap.size #[.int .i64 0, .slice none 0 0, .slice none 0 0] 27 from (Bx.new wr.drew #[.int .i64 0, .slice none 0 0, .slice none 0 0] 27).keep hE2'); have y0 : w2.cell? ⟨wr.heap.size, 0, none⟩ = some (.int .i64 0) := bx.cell 0; have y1 : w2.cell? ⟨wr.heap.size, 1, none⟩ = some (.slice none 0 0) := bx.cell 1; have y2 : w2.cell? ⟨wr.heap.size, 2, none⟩ = some (.slice none 0 0) := bx.cell 2; have z0 := bx.frozen 0; have z1 := bx.frozen 1; have z2 := bx.frozen 2; have hB2 := hide bx; have hD3 := hide hD2'; have hD2 := hide (hD2'.later (w0 := wr) (by simp [World.alloc])); have hF2 := hide ((((Fr.refl (fun _ => False) wr).drew).alloc (.cells #[.int .i64 0, .slice none 0 0, .slice none 0 0] 27)).trans hE2' (fun _ _ t => t)); clear hD2' hE2' bx) | (refine (unhide R1 _ ((Fr.refl _ _).drew)).mono ?_; rintro e w2 ⟨b1, k1, i1, b2, k2, i2, rfl, hD2', hE2'⟩; have bx := Bx.new w2 #[.int .i64 0, .slice none 0 0, .slice none 0 0] 27; have y0 : (w2.alloc (.cells #[.int .i64 0, .slice none 0 0, .slice none 0 0] 27)).cell? ⟨w2.heap.size, 0, none⟩ = some (.int .i64 0) := bx.cell 0; have y1 : (w2.alloc (.cells #[.int .i64 0, .slice none 0 0, .slice none 0 0] 27)).cell? ⟨w2.heap.size, 1, none⟩ = some (.slice none 0 0) := bx.cell 1; have y2 : (w2.alloc (.cells #[.int .i64 0, .slice none 0 0, .slice none 0 0] 27)).cell? ⟨w2.heap.size, 2, none⟩ = some (.slice none 0 0) := bx.cell 2; have z0 := bx.frozen 0; have z1 := bx.frozen 1; have z2 := bx.frozen 2; have hD2 := hide (hD2'.later (w0 := wr) (Nat.le_refl _)); have hF2 := hide (((Fr.refl (fun _ => False) wr).drew).trans hE2' (fun _ _ t => t)); clear hD2' hE2' bx)))
        · as_aux_lemma =>
            have HV : Hid (Fr (fun _ => False) wr (w2.alloc (.cells #[.int .i64 dv, .slice b1 dA.length k1, .slice b2 dG.length k2] 27)) ∧ Bx (w2.alloc (.cells #[.int .i64 dv, .slice b1 dA.length k1, .slice b2 dG.length k2] 27)) w2.heap.size #[.int .i64 dv, .slice b1 dA.length k1, .slice b2 dG.length k2] 27 ∧ DO wr (w2.alloc (.cells #[.int .i64 dv, .slice b1 dA.length k1, .slice b2 dG.length k2] 27)) ⟨dv, dA, dG⟩ b1 k1 i1 b2 k2 i2) := hide ⟨(unhide hF2).alloc _, Bx.new _ _ _, (unhide hD2).keep ((Fr.refl _ _).alloc _)⟩
            generalize w2.alloc (.cells #[.int .i64 dv, .slice b1 dA.length k1, .slice b2 dG.length k2] 27) = V at *
            generalize w2.heap.size = Q at *
            clear hD2 hF2 y0 y1 y2 z0 z1 z2
            clear HSS R1
            by_cases hE : E = 0
            · subst hE
              obtain ⟨rfl, q1, q2, q3, q4, q5, q6, q7, q8, q9⟩ := unhide HOKh rfl
              have HD : Hid (∀ w', Fr (fun _ => False) V w' → DI w' ⟨L.ver + 1, dA, dG⟩ b1 k1 b2 k2 ∧ Bx w' Q #[.int .i64 (L.ver + 1), .slice b1 dA.length k1, .slice b2 dG.length k2] 27 ∧ Cn w W w' B L a1 c1 g1 a2 c2 g2) := hide (fun w' hf => by
                obtain ⟨p1, p2, p3⟩ := unhide HV
                exact ⟨⟨p3.add.sat.keep hf, p3.gone.sat.keep hf, by show dA.length ≤ _; omega, by show dG.length ≤ _; omega, by show L.ver + 1 ≤ _; omega, p3.add.len, p3.gone.len⟩, p2.keep hf, ((unhide HCC).keep p1).keep hf⟩)
              have R2 : Hid (∀ w', Fr (fun _ => False) V w' → ∀ ax cx, RIn w' L ax cx → Calls Try.prog 7 #[.agg #[.int .i64 L.ver, .slice ax L.toks.length cx], .agg #[.int .i64 (L.ver + 1), .slice b1 dA.length k1, .slice b2 dG.length k2]] w' fun e w'' => ∃ ao cap g, e = .returned (.tuple #[.agg #[.int .i64 (L.ver + 1), .slice ao (riseL ts).length cap], .int .i64 0]) ∧ LO w' w'' ao cap g (riseL ts) ∧ Fr (fun _ => False) w' w'') := hide (fun w' hf ax cx hr => by
                have := apply_any w' L ax cx hr ⟨L.ver + 1, dA, dG⟩ b1 k1 b2 k2 (unhide HD w' hf).1
                rw [q3] at this
                exact this)
              have HVV := hide (And.intro q1 (And.intro q2 q8))
              clear q1 q2 q3 q4 q5 q6 q7 q8 q9 HOKh HBADh
              have x0 : V.cell? ⟨B, 0, none⟩ = some (.int .i64 L.ver) := (unhide HD V (Fr.refl _ _)).2.2.b1.cell 0
              have x1 : V.cell? ⟨B, 1, none⟩ = some (.slice a1 L.toks.length c1) := (unhide HD V (Fr.refl _ _)).2.2.b1.cell 1
              have y0 : V.cell? ⟨Q, 0, none⟩ = some (.int .i64 (L.ver + 1)) := (unhide HD V (Fr.refl _ _)).2.1.cell 0
              have y1 : V.cell? ⟨Q, 1, none⟩ = some (.slice b1 dA.length k1) := (unhide HD V (Fr.refl _ _)).2.1.cell 1
              have y2 : V.cell? ⟨Q, 2, none⟩ = some (.slice b2 dG.length k2) := (unhide HD V (Fr.refl _ _)).2.1.cell 2
              go_wp2_with fail
              refine (unhide R2 V (Fr.refl _ _) a1 c1 (unhide HD V (Fr.refl _ _)).2.2.r1).mono ?_
              clear x0 x1 y0 y1 y2
              rintro e w3 ⟨ao3, cap3, g3, rfl, hL3, hF3⟩
              obtain ⟨P, HP⟩ : ∃ P, Hid (w3.heap.size = P) := ⟨_, rfl⟩
              have HA3 : Hid (Fr (fun _ => False) V (w3.alloc (.cells #[.int .i64 (L.ver + 1), .slice ao3 (riseL ts).length cap3] 24)) ∧ Bx (w3.alloc (.cells #[.int .i64 (L.ver + 1), .slice ao3 (riseL ts).length cap3] 24)) P #[.int .i64 (L.ver + 1), .slice ao3 (riseL ts).length cap3] 24 ∧ LO V (w3.alloc (.cells #[.int .i64 (L.ver + 1), .slice ao3 (riseL ts).length cap3] 24)) ao3 cap3 g3 (riseL ts)) := hide ⟨hF3.alloc _, by rw [← unhide HP]; exact Bx.new _ _ _, hL3.keep ((Fr.refl _ _).alloc _)⟩
              have HPV : Hid (V.heap.size ≤ P) := hide (by rw [← unhide HP]; exact hF3.size)
              clear hL3 hF3
              have x0 : (w3.alloc (.cells #[.int .i64 (L.ver + 1), .slice ao3 (riseL ts).length cap3] 24)).cell? ⟨B + 1, 0, none⟩ = some (.int .i64 L.ver) := (unhide HD _ (unhide HA3).1).2.2.b2.cell 0
              have x1 : (w3.alloc (.cells #[.int .i64 (L.ver + 1), .slice ao3 (riseL ts).length cap3] 24)).cell? ⟨B + 1, 1, none⟩ = some (.slice a2 L.toks.length c2) := (unhide HD _ (unhide HA3).1).2.2.b2.cell 1
              have y0 : (w3.alloc (.cells #[.int .i64 (L.ver + 1), .slice ao3 (riseL ts).length cap3] 24)).cell? ⟨Q, 0, none⟩ = some (.int .i64 (L.ver + 1)) := (unhide HD _ (unhide HA3).1).2.1.cell 0
              have y1 : (w3.alloc (.cells #[.int .i64 (L.ver + 1), .slice ao3 (riseL ts).length cap3] 24)).cell? ⟨Q, 1, none⟩ = some (.slice b1 dA.length k1) := (unhide HD _ (unhide HA3).1).2.1.cell 1
              have y2 : (w3.alloc (.cells #[.int .i64 (L.ver + 1), .slice ao3 (riseL ts).length cap3] 24)).cell? ⟨Q, 2, none⟩ = some (.slice b2 dG.length k2) := (unhide HD _ (unhide HA3).1).2.1.cell 2
              go_wp2_with fail
              rw [unhide HP]
              refine (unhide R2 _ (unhide HA3).1 a2 c2 (unhide HD _ (unhide HA3).1).2.2.r2).mono ?_
              clear x0 x1 y0 y1 y2 R2
              rintro e w4 ⟨ao4, cap4, g4, rfl, hL4, hF4⟩
              obtain ⟨P2, HP2⟩ : ∃ P, Hid (w4.heap.size = P) := ⟨_, rfl⟩
              have HA4 : Hid (Fr (fun _ => False) V (w4.alloc (.cells #[.int .i64 (L.ver + 1), .slice ao4 (riseL ts).length cap4] 24)) ∧ Bx (w4.alloc (.cells #[.int .i64 (L.ver + 1), .slice ao4 (riseL ts).length cap4] 24)) P #[.int .i64 (L.ver + 1), .slice ao3 (riseL ts).length cap3] 24 ∧ Bx (w4.alloc (.cells #[.int .i64 (L.ver + 1), .slice ao4 (riseL ts).length cap4] 24)) P2 #[.int .i64 (L.ver + 1), .slice ao4 (riseL ts).length cap4] 24 ∧ LO V (w4.alloc (.cells #[.int .i64 (L.ver + 1), .slice ao4 (riseL ts).length cap4] 24)) ao3 cap3 g3 (riseL ts) ∧ LO V (w4.alloc (.cells #[.int .i64 (L.ver + 1), .slice ao4 (riseL ts).length cap4] 24)) ao4 cap4 g4 (riseL ts) ∧ V.heap.size ≤ P ∧ V.heap.size ≤ P2) := hide (by
                obtain ⟨p1, p2, p3⟩ := unhide HA3
                have hg := hF4.alloc (.cells #[.int .i64 (L.ver + 1), .slice ao4 (riseL ts).length cap4] 24)
                have hg2 : Fr (fun _ => False) w4 (w4.alloc (.cells #[.int .i64 (L.ver + 1), .slice ao4 (riseL ts).length cap4] 24)) := (Fr.refl _ _).alloc _
                exact ⟨p1.trans hg (fun _ _ t => t), p2.keep hg, by rw [← unhide HP2]; exact Bx.new _ _ _, p3.keep hg, (hL4.later p1.size).keep hg2, unhide HPV, by rw [← unhide HP2]; exact Nat.le_trans p1.size hF4.size⟩)
              clear hL4 hF4 HA3
              have x0 : (w4.alloc (.cells #[.int .i64 (L.ver + 1), .slice ao4 (riseL ts).length cap4] 24)).cell? ⟨P, 0, none⟩ = some (.int .i64 (L.ver + 1)) := (unhide HA4).2.1.cell 0
              have x1 : (w4.alloc (.cells #[.int .i64 (L.ver + 1), .slice ao4 (riseL ts).length cap4] 24)).cell? ⟨P, 1, none⟩ = some (.slice ao3 (riseL ts).length cap3) := (unhide HA4).2.1.cell 1
              have RS := hide (sameL_is _ ⟨L.ver + 1, riseL ts⟩ ao3 cap3 ao4 cap4 (unhide HA4).2.2.2.1.sat (unhide HA4).2.2.2.2.1.sat (by show (riseL ts).length ≤ _; have := (unhide HVV).2.2; omega))
              unfold rlC at RS
              go_wp2_with fail
              rw [unhide HP2]
              refine (unhide RS).mono ?_
              clear x0 x1 RS
              rintro e w5 ⟨rfl, hF⟩
              have HA5 : Hid (Cn w W w5 B L a1 c1 g1 a2 c2 g2 ∧ Bx w5 P #[.int .i64 (L.ver + 1), .slice ao3 (riseL ts).length cap3] 24 ∧ Bx w5 P2 #[.int .i64 (L.ver + 1), .slice ao4 (riseL ts).length cap4] 24 ∧ LO V w5 ao3 cap3 g3 (riseL ts) ∧ LO V w5 ao4 cap4 g4 (riseL ts) ∧ B + 1 < P ∧ B + 1 < P2 ∧ B + 1 + 1 ≤ V.heap.size) := hide (by
                obtain ⟨p1, p2, p3, p4, p5, p6, p7⟩ := unhide HA4
                have hb := (unhide HD V (Fr.refl _ _)).2.2.b2.lt
                exact ⟨(unhide HD _ (p1.trans hF (fun _ _ t => t))).2.2, p2.keep hF, p3.keep hF, p4.keep hF, p5.keep hF, by omega, by omega, by omega⟩)
              clear hF HA4 HD
              have x0 : w5.cell? ⟨P, 0, none⟩ = some (.int .i64 (L.ver + 1)) := (unhide HA5).2.1.cell 0
              have x1 : w5.cell? ⟨P, 1, none⟩ = some (.slice ao3 (riseL ts).length cap3) := (unhide HA5).2.1.cell 1
              have y0 : w5.cell? ⟨B, 0, none⟩ = some (.int .i64 L.ver) := (unhide HA5).1.b1.cell 0
              have y1 : w5.cell? ⟨B, 1, none⟩ = some (.slice a1 L.toks.length c1) := (unhide HA5).1.b1.cell 1
              have z0 := (unhide HA5).1.b1.frozen 0
              have z1 := (unhide HA5).1.b1.frozen 1
              go_upto_region 15 with (fail)
              have HA6 : Hid (Fr (fun k => k = B) w5 ((w5.setCell ⟨B, 0, none⟩ (.int .i64 (L.ver + 1))).setCell ⟨B, 1, none⟩ (.slice ao3 (riseL ts).length cap3)) ∧ Bx ((w5.setCell ⟨B, 0, none⟩ (.int .i64 (L.ver + 1))).setCell ⟨B, 1, none⟩ (.slice ao3 (riseL ts).length cap3)) B #[.int .i64 (L.ver + 1), .slice ao3 (riseL ts).length cap3] 24) := hide ⟨((Fr.refl (fun k => k = B) w5).setCell (fun _ => rfl) _).setCell (fun _ => rfl) _, ((unhide HA5).1.b1.setCell 0 _).setCell 1 _⟩
              generalize (w5.setCell ⟨B, 0, none⟩ (.int .i64 (L.ver + 1))).setCell ⟨B, 1, none⟩ (.slice ao3 (riseL ts).length cap3) = w6 at *
              clear x0 x1 y0 y1 z0 z1
              have hb2 : Bx w6 (B + 1) #[.int .i64 L.ver, .slice a2 L.toks.length c2] 24 := (unhide HA5).1.b2.frame (unhide HA6).1 (by omega)
              have hp2 : Bx w6 P2 #[.int .i64 (L.ver + 1), .slice ao4 (riseL ts).length cap4] 24 := (unhide HA5).2.2.1.frame (unhide HA6).1 (by have := (unhide HA5).2.2.2.2.2.2.1; omega)
              have x0 : w6.cell? ⟨P2, 0, none⟩ = some (.int .i64 (L.ver + 1)) := hp2.cell 0
              have x1 : w6.cell? ⟨P2, 1, none⟩ = some (.slice ao4 (riseL ts).length cap4) := hp2.cell 1
              have y0 : w6.cell? ⟨B + 1, 0, none⟩ = some (.int .i64 L.ver) := hb2.cell 0
              have y1 : w6.cell? ⟨B + 1, 1, none⟩ = some (.slice a2 L.toks.length c2) := hb2.cell 1
              have z0 := hb2.frozen 0
              have z1 := hb2.frozen 1
              have HB2 := hide hb2
              clear hb2 hp2
              go_upto_region 16 with (fail)
              have HA7 : Hid (Fr (fun k => k = B ∨ k = B + 1) w5 ((w6.setCell ⟨B + 1, 0, none⟩ (.int .i64 (L.ver + 1))).setCell ⟨B + 1, 1, none⟩ (.slice ao4 (riseL ts).length cap4)) ∧ Bx ((w6.setCell ⟨B + 1, 0, none⟩ (.int .i64 (L.ver + 1))).setCell ⟨B + 1, 1, none⟩ (.slice ao4 (riseL ts).length cap4)) B #[.int .i64 (L.ver + 1), .slice ao3 (riseL ts).length cap3] 24 ∧ Bx ((w6.setCell ⟨B + 1, 0, none⟩ (.int .i64 (L.ver + 1))).setCell ⟨B + 1, 1, none⟩ (.slice ao4 (riseL ts).length cap4)) (B + 1) #[.int .i64 (L.ver + 1), .slice ao4 (riseL ts).length cap4] 24) := hide ⟨((Fr.mono (T := fun k => k = B ∨ k = B + 1) (unhide HA6).1 (fun _ _ t => Or.inl t)).setCell (fun _ => Or.inr rfl) _).setCell (fun _ => Or.inr rfl) _, ((unhide HA6).2.setOther (by omega) 0 _).setOther (by omega) 1 _, ((unhide HB2).setCell 0 _).setCell 1 _⟩
              generalize (w6.setCell ⟨B + 1, 0, none⟩ (.int .i64 (L.ver + 1))).setCell ⟨B + 1, 1, none⟩ (.slice ao4 (riseL ts).length cap4) = w7 at *
              clear x0 x1 y0 y1 z0 z1 HB2 HA6
              have HC7 : Hid (Cn w W w7 B ⟨L.ver + 1, riseL ts⟩ ao3 cap3 g3 ao4 cap4 g4) := hide (by
                obtain ⟨p1, p2, p3, p4, p5, p6, p7, p8⟩ := unhide HA5
                obtain ⟨s1, s2, s3⟩ := unhide HA7
                have hv := unhide HVV
                have hlow := p1.low
                have hsz := p1.sz
                exact ⟨p1.fr.trans s1 (fun i hi t => by omega), p1.low, p1.sz, s2, s3, (p4.go s1 (fun hc t => by have := p4.new hc; omega)).later (by omega), (p5.go s1 (fun hc t => by have := p5.new hc; omega)).later (by omega), hv.2.2, by show L.ver + 1 ≤ _; omega⟩)
              clear HA7 HA5 HVV HCC
              as_aux_lemma =>
                have HHas : Hid (∀ w', Fr (fun _ => False) w7 w' → ∀ x, x ∈ ts → Calls Try.prog 9 #[.agg #[.int .i64 (L.ver + 1), .slice ao3 (riseL ts).length cap3], .string x] w' fun e w'' => e = .returned (.bool true) ∧ Fr (fun _ => False) w' w'') := hide (fun w' hf x hx => by
                  have hr := ((unhide HC7).keep hf).r1
                  have := has_any w' ⟨L.ver + 1, riseL ts⟩ ao3 cap3 x hr.toks hr.len
                  rw [show memS (Rl.toks ⟨L.ver + 1, riseL ts⟩) x = true from memS_mem.2 ((riseL_mem ts x).2 hx)] at this
                  exact this)
                have HTT : Hid (∀ w', Fr (fun _ => False) w7 w' → w'.cell? ⟨b, off + i, none⟩ = some (.slice at' ts.length ct) ∧ SAt w' at' ts) := hide (fun w' hf => by
                  have hfr := ((unhide HC7).fr.trans hf (fun _ _ t => t))
                  obtain ⟨p1, p2, p3⟩ := unhide HTS0
                  exact ⟨(hfr.cell (a := ⟨b, off + i, none⟩) (World.block_lt_of_cell? _ _ p1) (fun t => t)).trans p1, p2.keep hfr⟩)
                go_wp2
                go_loopw [14, 15] (fun kv _ wq => ∃ (k : Nat), k ≤ ts.length ∧ kv = .int .i64 k ∧ Hid (Fr (fun _ => False) w7 wq)) (fun kv _ _ => ts.length - (intOf kv).toNat)
                case atStart => exact ⟨0, Nat.zero_le _, rfl, Fr.refl _ _⟩
                case round =>
                  obtain ⟨k, hk, rfl, HI⟩ := hrel
                  obtain ⟨wq, hwq⟩ : ∃ wq, wq = wr := ⟨_, rfl⟩
                  rw [← hwq] at HI ⊢
                  clear hwq
                  have c0 := (unhide HTT wq (unhide HI)).1
                  by_cases hkl : k < ts.length
                  · have HM := hide (List.getElem_mem hkl)
                    have HC1 : Hid (∃ b' off', at' = some ⟨b', off', none⟩ ∧ ∀ w', Fr (fun _ => False) wq w' → w'.cell? ⟨b', off' + k, none⟩ = some (.string ts[k])) := hide (by
                      obtain ⟨b', off', e, hc⟩ := (unhide HTT wq (unhide HI)).2.at hkl
                      exact ⟨b', off', e, fun w' hf => (hf.cell (a := ⟨b', off' + k, none⟩) (World.block_lt_of_cell? _ _ hc) (fun t => t)).trans hc⟩)
                    obtain ⟨b', off', rfl, hc1⟩ := unhide HC1
                    clear HC1
                    have HSS : Hid (∀ w', Fr (fun _ => False) wq w' → w'.cell? ⟨B, 0, none⟩ = some (.int .i64 (L.ver + 1)) ∧ w'.cell? ⟨B, 1, none⟩ = some (.slice ao3 (riseL ts).length cap3) ∧ w'.cell? ⟨b, off + i, none⟩ = some (.slice (some ⟨b', off', none⟩) ts.length ct) ∧ w'.cell? ⟨b', off' + k, none⟩ = some (.string ts[k])) := hide (fun w' hf => by
                      have hC := (unhide HC7).keep ((unhide HI).trans hf (fun _ _ t => t))
                      exact ⟨hC.b1.cell 0, hC.b1.cell 1, (unhide HTT w' ((unhide HI).trans hf (fun _ _ t => t))).1, hc1 w' hf⟩)
                    have RH : Hid (∀ w', Fr (fun _ => False) wq w' → Calls Try.prog 9 #[.agg #[.int .i64 (L.ver + 1), .slice ao3 (riseL ts).length cap3], .string ts[k]] w' fun e w'' => e = .returned (.bool true) ∧ Fr (fun _ => False) wq w'') := hide (fun w' hf => (unhide HHas w' ((unhide HI).trans hf (fun _ _ t => t)) ts[k] (unhide HM)).mono (fun e w'' h => ⟨h.1, hf.trans h.2 (fun _ _ t => t)⟩))
                    clear hc1 HM
                    generalize ts[k] = x at *
                    go_upto_region 19 with (fail)
                    clear c0
                    go_region_held3 (fun w' => w'.cell? ⟨B, 0, none⟩ = some (.int .i64 (L.ver + 1)) ∧ w'.cell? ⟨B, 1, none⟩ = some (.slice ao3 (riseL ts).length cap3) ∧ w'.cell? ⟨b, off + i, none⟩ = some (.slice (some ⟨b', off', none⟩) ts.length ct) ∧ w'.cell? ⟨b', off' + k, none⟩ = some (.string x)) (first | exact unhide HSS _ (Fr.refl _ _) | exact unhide HSS _ ((Fr.refl _ _).drew) | exact unhide HSS _ (unhide hF8)) (first | (go_at_call 9; refine (unhide RH _ ((Fr.refl _ _).drew)).mono ?_; rintro e w8 ⟨rfl, hF8'⟩; have hF8 := hide hF8'; clear hF8'))
                    have HI8 : Hid (Fr (fun _ => False) w7 w8) := hide ((unhide HI).trans (unhide hF8) (fun _ _ t => t))
                    clear hF8 HSS RH HI
                    go_wp2
                    exact ⟨⟨k + 1, by omega, by go_num, unhide HI8⟩, by simp [intOf]; omega⟩
                  · obtain rfl : k = ts.length := by omega
                    have HN : Hid (∃ (L : Rl) (a1 : Option Addr) (c1 g1 : Nat) (a2 : Option Addr) (c2 g2 : Nat), Cn w W wq B L a1 c1 g1 a2 c2 g2) := hide ⟨_, _, _, _, _, _, _, (unhide HC7).keep (unhide HI)⟩
                    clear HI HC7 HHas HTT
                    go_wp2
                    exact ⟨⟨i + 1, by omega, by go_num, unhide HN⟩, by simp [intOf]; omega⟩
            · have hx : (E == 0) = false := by rw [beq_eq_false_iff_ne]; exact hE
              have HN : Hid (∃ (L : Rl) (a1 : Option Addr) (c1 g1 : Nat) (a2 : Option Addr) (c2 g2 : Nat), Cn w W V B L a1 c1 g1 a2 c2 g2) := hide ⟨_, _, _, _, _, _, _, (unhide HCC).keep (unhide HV).1⟩
              clear HV HCC HOKh HBADh hE
              go_wp2
              exact ⟨⟨i + 1, by omega, by go_num, unhide HN⟩, by simp [intOf]; omega⟩
        · as_aux_lemma =>
            have HV : Hid (Fr (fun _ => False) wr (((w2.setCell ⟨wr.heap.size, 0, none⟩ (.int .i64 dv)).setCell ⟨wr.heap.size, 1, none⟩ (.slice b1 dA.length k1)).setCell ⟨wr.heap.size, 2, none⟩ (.slice b2 dG.length k2)) ∧ Bx (((w2.setCell ⟨wr.heap.size, 0, none⟩ (.int .i64 dv)).setCell ⟨wr.heap.size, 1, none⟩ (.slice b1 dA.length k1)).setCell ⟨wr.heap.size, 2, none⟩ (.slice b2 dG.length k2)) wr.heap.size #[.int .i64 dv, .slice b1 dA.length k1, .slice b2 dG.length k2] 27 ∧ DO wr (((w2.setCell ⟨wr.heap.size, 0, none⟩ (.int .i64 dv)).setCell ⟨wr.heap.size, 1, none⟩ (.slice b1 dA.length k1)).setCell ⟨wr.heap.size, 2, none⟩ (.slice b2 dG.length k2)) ⟨dv, dA, dG⟩ b1 k1 i1 b2 k2 i2) := hide (by
              have hs : Fr (fun k => k = wr.heap.size) w2 (((w2.setCell ⟨wr.heap.size, 0, none⟩ (.int .i64 dv)).setCell ⟨wr.heap.size, 1, none⟩ (.slice b1 dA.length k1)).setCell ⟨wr.heap.size, 2, none⟩ (.slice b2 dG.length k2)) := (((Fr.refl (fun k => k = wr.heap.size) w2).setCell (fun _ => rfl) _).setCell (fun _ => rfl) _).setCell (fun _ => rfl) _
              refine ⟨(unhide hF2).trans hs (fun i hi t => by omega), (((unhide hB2).setCell 0 _).setCell 1 _).setCell 2 _, ?_⟩
              exact ((unhide hD3).go hs (fun hc t => by have := (unhide hD3).add.new hc; rw [heap_alloc] at this; have e : wr.drew.heap.size = wr.heap.size := rfl; omega) (fun hc t => by have := (unhide hD3).gone.new hc; rw [heap_alloc] at this; have e : wr.drew.heap.size = wr.heap.size := rfl; omega)).later (by simp [World.alloc]))
            generalize ((w2.setCell ⟨wr.heap.size, 0, none⟩ (.int .i64 dv)).setCell ⟨wr.heap.size, 1, none⟩ (.slice b1 dA.length k1)).setCell ⟨wr.heap.size, 2, none⟩ (.slice b2 dG.length k2) = V at *
            obtain ⟨Q, HQe⟩ : ∃ Q, Hid (wr.heap.size = Q) := ⟨_, rfl⟩
            rw [unhide HQe] at HV ⊢
            clear hD2 hF2 hD3 hB2 y0 y1 y2 z0 z1 z2
            clear HSS R1
            by_cases hE : E = 0
            · subst hE
              obtain ⟨rfl, q1, q2, q3, q4, q5, q6, q7, q8, q9⟩ := unhide HOKh rfl
              have HD : Hid (∀ w', Fr (fun _ => False) V w' → DI w' ⟨L.ver + 1, dA, dG⟩ b1 k1 b2 k2 ∧ Bx w' Q #[.int .i64 (L.ver + 1), .slice b1 dA.length k1, .slice b2 dG.length k2] 27 ∧ Cn w W w' B L a1 c1 g1 a2 c2 g2) := hide (fun w' hf => by
                obtain ⟨p1, p2, p3⟩ := unhide HV
                exact ⟨⟨p3.add.sat.keep hf, p3.gone.sat.keep hf, by show dA.length ≤ _; omega, by show dG.length ≤ _; omega, by show L.ver + 1 ≤ _; omega, p3.add.len, p3.gone.len⟩, p2.keep hf, ((unhide HCC).keep p1).keep hf⟩)
              have R2 : Hid (∀ w', Fr (fun _ => False) V w' → ∀ ax cx, RIn w' L ax cx → Calls Try.prog 7 #[.agg #[.int .i64 L.ver, .slice ax L.toks.length cx], .agg #[.int .i64 (L.ver + 1), .slice b1 dA.length k1, .slice b2 dG.length k2]] w' fun e w'' => ∃ ao cap g, e = .returned (.tuple #[.agg #[.int .i64 (L.ver + 1), .slice ao (riseL ts).length cap], .int .i64 0]) ∧ LO w' w'' ao cap g (riseL ts) ∧ Fr (fun _ => False) w' w'') := hide (fun w' hf ax cx hr => by
                have := apply_any w' L ax cx hr ⟨L.ver + 1, dA, dG⟩ b1 k1 b2 k2 (unhide HD w' hf).1
                rw [q3] at this
                exact this)
              have HVV := hide (And.intro q1 (And.intro q2 q8))
              clear q1 q2 q3 q4 q5 q6 q7 q8 q9 HOKh HBADh
              have x0 : V.cell? ⟨B, 0, none⟩ = some (.int .i64 L.ver) := (unhide HD V (Fr.refl _ _)).2.2.b1.cell 0
              have x1 : V.cell? ⟨B, 1, none⟩ = some (.slice a1 L.toks.length c1) := (unhide HD V (Fr.refl _ _)).2.2.b1.cell 1
              have y0 : V.cell? ⟨Q, 0, none⟩ = some (.int .i64 (L.ver + 1)) := (unhide HD V (Fr.refl _ _)).2.1.cell 0
              have y1 : V.cell? ⟨Q, 1, none⟩ = some (.slice b1 dA.length k1) := (unhide HD V (Fr.refl _ _)).2.1.cell 1
              have y2 : V.cell? ⟨Q, 2, none⟩ = some (.slice b2 dG.length k2) := (unhide HD V (Fr.refl _ _)).2.1.cell 2
              go_wp2_with fail
              refine (unhide R2 V (Fr.refl _ _) a1 c1 (unhide HD V (Fr.refl _ _)).2.2.r1).mono ?_
              clear x0 x1 y0 y1 y2
              rintro e w3 ⟨ao3, cap3, g3, rfl, hL3, hF3⟩
              obtain ⟨P, HP⟩ : ∃ P, Hid (w3.heap.size = P) := ⟨_, rfl⟩
              have HA3 : Hid (Fr (fun _ => False) V (w3.alloc (.cells #[.int .i64 (L.ver + 1), .slice ao3 (riseL ts).length cap3] 24)) ∧ Bx (w3.alloc (.cells #[.int .i64 (L.ver + 1), .slice ao3 (riseL ts).length cap3] 24)) P #[.int .i64 (L.ver + 1), .slice ao3 (riseL ts).length cap3] 24 ∧ LO V (w3.alloc (.cells #[.int .i64 (L.ver + 1), .slice ao3 (riseL ts).length cap3] 24)) ao3 cap3 g3 (riseL ts)) := hide ⟨hF3.alloc _, by rw [← unhide HP]; exact Bx.new _ _ _, hL3.keep ((Fr.refl _ _).alloc _)⟩
              have HPV : Hid (V.heap.size ≤ P) := hide (by rw [← unhide HP]; exact hF3.size)
              clear hL3 hF3
              have x0 : (w3.alloc (.cells #[.int .i64 (L.ver + 1), .slice ao3 (riseL ts).length cap3] 24)).cell? ⟨B + 1, 0, none⟩ = some (.int .i64 L.ver) := (unhide HD _ (unhide HA3).1).2.2.b2.cell 0
              have x1 : (w3.alloc (.cells #[.int .i64 (L.ver + 1), .slice ao3 (riseL ts).length cap3] 24)).cell? ⟨B + 1, 1, none⟩ = some (.slice a2 L.toks.length c2) := (unhide HD _ (unhide HA3).1).2.2.b2.cell 1
              have y0 : (w3.alloc (.cells #[.int .i64 (L.ver + 1), .slice ao3 (riseL ts).length cap3] 24)).cell? ⟨Q, 0, none⟩ = some (.int .i64 (L.ver + 1)) := (unhide HD _ (unhide HA3).1).2.1.cell 0
              have y1 : (w3.alloc (.cells #[.int .i64 (L.ver + 1), .slice ao3 (riseL ts).length cap3] 24)).cell? ⟨Q, 1, none⟩ = some (.slice b1 dA.length k1) := (unhide HD _ (unhide HA3).1).2.1.cell 1
              have y2 : (w3.alloc (.cells #[.int .i64 (L.ver + 1), .slice ao3 (riseL ts).length cap3] 24)).cell? ⟨Q, 2, none⟩ = some (.slice b2 dG.length k2) := (unhide HD _ (unhide HA3).1).2.1.cell 2
              go_wp2_with fail
              rw [unhide HP]
              refine (unhide R2 _ (unhide HA3).1 a2 c2 (unhide HD _ (unhide HA3).1).2.2.r2).mono ?_
              clear x0 x1 y0 y1 y2 R2
              rintro e w4 ⟨ao4, cap4, g4, rfl, hL4, hF4⟩
              obtain ⟨P2, HP2⟩ : ∃ P, Hid (w4.heap.size = P) := ⟨_, rfl⟩
              have HA4 : Hid (Fr (fun _ => False) V (w4.alloc (.cells #[.int .i64 (L.ver + 1), .slice ao4 (riseL ts).length cap4] 24)) ∧ Bx (w4.alloc (.cells #[.int .i64 (L.ver + 1), .slice ao4 (riseL ts).length cap4] 24)) P #[.int .i64 (L.ver + 1), .slice ao3 (riseL ts).length cap3] 24 ∧ Bx (w4.alloc (.cells #[.int .i64 (L.ver + 1), .slice ao4 (riseL ts).length cap4] 24)) P2 #[.int .i64 (L.ver + 1), .slice ao4 (riseL ts).length cap4] 24 ∧ LO V (w4.alloc (.cells #[.int .i64 (L.ver + 1), .slice ao4 (riseL ts).length cap4] 24)) ao3 cap3 g3 (riseL ts) ∧ LO V (w4.alloc (.cells #[.int .i64 (L.ver + 1), .slice ao4 (riseL ts).length cap4] 24)) ao4 cap4 g4 (riseL ts) ∧ V.heap.size ≤ P ∧ V.heap.size ≤ P2) := hide (by
                obtain ⟨p1, p2, p3⟩ := unhide HA3
                have hg := hF4.alloc (.cells #[.int .i64 (L.ver + 1), .slice ao4 (riseL ts).length cap4] 24)
                have hg2 : Fr (fun _ => False) w4 (w4.alloc (.cells #[.int .i64 (L.ver + 1), .slice ao4 (riseL ts).length cap4] 24)) := (Fr.refl _ _).alloc _
                exact ⟨p1.trans hg (fun _ _ t => t), p2.keep hg, by rw [← unhide HP2]; exact Bx.new _ _ _, p3.keep hg, (hL4.later p1.size).keep hg2, unhide HPV, by rw [← unhide HP2]; exact Nat.le_trans p1.size hF4.size⟩)
              clear hL4 hF4 HA3
              have x0 : (w4.alloc (.cells #[.int .i64 (L.ver + 1), .slice ao4 (riseL ts).length cap4] 24)).cell? ⟨P, 0, none⟩ = some (.int .i64 (L.ver + 1)) := (unhide HA4).2.1.cell 0
              have x1 : (w4.alloc (.cells #[.int .i64 (L.ver + 1), .slice ao4 (riseL ts).length cap4] 24)).cell? ⟨P, 1, none⟩ = some (.slice ao3 (riseL ts).length cap3) := (unhide HA4).2.1.cell 1
              have RS := hide (sameL_is _ ⟨L.ver + 1, riseL ts⟩ ao3 cap3 ao4 cap4 (unhide HA4).2.2.2.1.sat (unhide HA4).2.2.2.2.1.sat (by show (riseL ts).length ≤ _; have := (unhide HVV).2.2; omega))
              unfold rlC at RS
              go_wp2_with fail
              rw [unhide HP2]
              refine (unhide RS).mono ?_
              clear x0 x1 RS
              rintro e w5 ⟨rfl, hF⟩
              have HA5 : Hid (Cn w W w5 B L a1 c1 g1 a2 c2 g2 ∧ Bx w5 P #[.int .i64 (L.ver + 1), .slice ao3 (riseL ts).length cap3] 24 ∧ Bx w5 P2 #[.int .i64 (L.ver + 1), .slice ao4 (riseL ts).length cap4] 24 ∧ LO V w5 ao3 cap3 g3 (riseL ts) ∧ LO V w5 ao4 cap4 g4 (riseL ts) ∧ B + 1 < P ∧ B + 1 < P2 ∧ B + 1 + 1 ≤ V.heap.size) := hide (by
                obtain ⟨p1, p2, p3, p4, p5, p6, p7⟩ := unhide HA4
                have hb := (unhide HD V (Fr.refl _ _)).2.2.b2.lt
                exact ⟨(unhide HD _ (p1.trans hF (fun _ _ t => t))).2.2, p2.keep hF, p3.keep hF, p4.keep hF, p5.keep hF, by omega, by omega, by omega⟩)
              clear hF HA4 HD
              have x0 : w5.cell? ⟨P, 0, none⟩ = some (.int .i64 (L.ver + 1)) := (unhide HA5).2.1.cell 0
              have x1 : w5.cell? ⟨P, 1, none⟩ = some (.slice ao3 (riseL ts).length cap3) := (unhide HA5).2.1.cell 1
              have y0 : w5.cell? ⟨B, 0, none⟩ = some (.int .i64 L.ver) := (unhide HA5).1.b1.cell 0
              have y1 : w5.cell? ⟨B, 1, none⟩ = some (.slice a1 L.toks.length c1) := (unhide HA5).1.b1.cell 1
              have z0 := (unhide HA5).1.b1.frozen 0
              have z1 := (unhide HA5).1.b1.frozen 1
              go_upto_region 15 with (fail)
              have HA6 : Hid (Fr (fun k => k = B) w5 ((w5.setCell ⟨B, 0, none⟩ (.int .i64 (L.ver + 1))).setCell ⟨B, 1, none⟩ (.slice ao3 (riseL ts).length cap3)) ∧ Bx ((w5.setCell ⟨B, 0, none⟩ (.int .i64 (L.ver + 1))).setCell ⟨B, 1, none⟩ (.slice ao3 (riseL ts).length cap3)) B #[.int .i64 (L.ver + 1), .slice ao3 (riseL ts).length cap3] 24) := hide ⟨((Fr.refl (fun k => k = B) w5).setCell (fun _ => rfl) _).setCell (fun _ => rfl) _, ((unhide HA5).1.b1.setCell 0 _).setCell 1 _⟩
              generalize (w5.setCell ⟨B, 0, none⟩ (.int .i64 (L.ver + 1))).setCell ⟨B, 1, none⟩ (.slice ao3 (riseL ts).length cap3) = w6 at *
              clear x0 x1 y0 y1 z0 z1
              have hb2 : Bx w6 (B + 1) #[.int .i64 L.ver, .slice a2 L.toks.length c2] 24 := (unhide HA5).1.b2.frame (unhide HA6).1 (by omega)
              have hp2 : Bx w6 P2 #[.int .i64 (L.ver + 1), .slice ao4 (riseL ts).length cap4] 24 := (unhide HA5).2.2.1.frame (unhide HA6).1 (by have := (unhide HA5).2.2.2.2.2.2.1; omega)
              have x0 : w6.cell? ⟨P2, 0, none⟩ = some (.int .i64 (L.ver + 1)) := hp2.cell 0
              have x1 : w6.cell? ⟨P2, 1, none⟩ = some (.slice ao4 (riseL ts).length cap4) := hp2.cell 1
              have y0 : w6.cell? ⟨B + 1, 0, none⟩ = some (.int .i64 L.ver) := hb2.cell 0
              have y1 : w6.cell? ⟨B + 1, 1, none⟩ = some (.slice a2 L.toks.length c2) := hb2.cell 1
              have z0 := hb2.frozen 0
              have z1 := hb2.frozen 1
              have HB2 := hide hb2
              clear hb2 hp2
              go_upto_region 16 with (fail)
              have HA7 : Hid (Fr (fun k => k = B ∨ k = B + 1) w5 ((w6.setCell ⟨B + 1, 0, none⟩ (.int .i64 (L.ver + 1))).setCell ⟨B + 1, 1, none⟩ (.slice ao4 (riseL ts).length cap4)) ∧ Bx ((w6.setCell ⟨B + 1, 0, none⟩ (.int .i64 (L.ver + 1))).setCell ⟨B + 1, 1, none⟩ (.slice ao4 (riseL ts).length cap4)) B #[.int .i64 (L.ver + 1), .slice ao3 (riseL ts).length cap3] 24 ∧ Bx ((w6.setCell ⟨B + 1, 0, none⟩ (.int .i64 (L.ver + 1))).setCell ⟨B + 1, 1, none⟩ (.slice ao4 (riseL ts).length cap4)) (B + 1) #[.int .i64 (L.ver + 1), .slice ao4 (riseL ts).length cap4] 24) := hide ⟨((Fr.mono (T := fun k => k = B ∨ k = B + 1) (unhide HA6).1 (fun _ _ t => Or.inl t)).setCell (fun _ => Or.inr rfl) _).setCell (fun _ => Or.inr rfl) _, ((unhide HA6).2.setOther (by omega) 0 _).setOther (by omega) 1 _, ((unhide HB2).setCell 0 _).setCell 1 _⟩
              generalize (w6.setCell ⟨B + 1, 0, none⟩ (.int .i64 (L.ver + 1))).setCell ⟨B + 1, 1, none⟩ (.slice ao4 (riseL ts).length cap4) = w7 at *
              clear x0 x1 y0 y1 z0 z1 HB2 HA6
              have HC7 : Hid (Cn w W w7 B ⟨L.ver + 1, riseL ts⟩ ao3 cap3 g3 ao4 cap4 g4) := hide (by
                obtain ⟨p1, p2, p3, p4, p5, p6, p7, p8⟩ := unhide HA5
                obtain ⟨s1, s2, s3⟩ := unhide HA7
                have hv := unhide HVV
                have hlow := p1.low
                have hsz := p1.sz
                exact ⟨p1.fr.trans s1 (fun i hi t => by omega), p1.low, p1.sz, s2, s3, (p4.go s1 (fun hc t => by have := p4.new hc; omega)).later (by omega), (p5.go s1 (fun hc t => by have := p5.new hc; omega)).later (by omega), hv.2.2, by show L.ver + 1 ≤ _; omega⟩)
              clear HA7 HA5 HVV HCC
              as_aux_lemma =>
                have HHas : Hid (∀ w', Fr (fun _ => False) w7 w' → ∀ x, x ∈ ts → Calls Try.prog 9 #[.agg #[.int .i64 (L.ver + 1), .slice ao3 (riseL ts).length cap3], .string x] w' fun e w'' => e = .returned (.bool true) ∧ Fr (fun _ => False) w' w'') := hide (fun w' hf x hx => by
                  have hr := ((unhide HC7).keep hf).r1
                  have := has_any w' ⟨L.ver + 1, riseL ts⟩ ao3 cap3 x hr.toks hr.len
                  rw [show memS (Rl.toks ⟨L.ver + 1, riseL ts⟩) x = true from memS_mem.2 ((riseL_mem ts x).2 hx)] at this
                  exact this)
                have HTT : Hid (∀ w', Fr (fun _ => False) w7 w' → w'.cell? ⟨b, off + i, none⟩ = some (.slice at' ts.length ct) ∧ SAt w' at' ts) := hide (fun w' hf => by
                  have hfr := ((unhide HC7).fr.trans hf (fun _ _ t => t))
                  obtain ⟨p1, p2, p3⟩ := unhide HTS0
                  exact ⟨(hfr.cell (a := ⟨b, off + i, none⟩) (World.block_lt_of_cell? _ _ p1) (fun t => t)).trans p1, p2.keep hfr⟩)
                go_wp2
                go_loopw [14, 15] (fun kv _ wq => ∃ (k : Nat), k ≤ ts.length ∧ kv = .int .i64 k ∧ Hid (Fr (fun _ => False) w7 wq)) (fun kv _ _ => ts.length - (intOf kv).toNat)
                case atStart => exact ⟨0, Nat.zero_le _, rfl, Fr.refl _ _⟩
                case round =>
                  obtain ⟨k, hk, rfl, HI⟩ := hrel
                  obtain ⟨wq, hwq⟩ : ∃ wq, wq = wr := ⟨_, rfl⟩
                  rw [← hwq] at HI ⊢
                  clear hwq
                  have c0 := (unhide HTT wq (unhide HI)).1
                  by_cases hkl : k < ts.length
                  · have HM := hide (List.getElem_mem hkl)
                    have HC1 : Hid (∃ b' off', at' = some ⟨b', off', none⟩ ∧ ∀ w', Fr (fun _ => False) wq w' → w'.cell? ⟨b', off' + k, none⟩ = some (.string ts[k])) := hide (by
                      obtain ⟨b', off', e, hc⟩ := (unhide HTT wq (unhide HI)).2.at hkl
                      exact ⟨b', off', e, fun w' hf => (hf.cell (a := ⟨b', off' + k, none⟩) (World.block_lt_of_cell? _ _ hc) (fun t => t)).trans hc⟩)
                    obtain ⟨b', off', rfl, hc1⟩ := unhide HC1
                    clear HC1
                    have HSS : Hid (∀ w', Fr (fun _ => False) wq w' → w'.cell? ⟨B, 0, none⟩ = some (.int .i64 (L.ver + 1)) ∧ w'.cell? ⟨B, 1, none⟩ = some (.slice ao3 (riseL ts).length cap3) ∧ w'.cell? ⟨b, off + i, none⟩ = some (.slice (some ⟨b', off', none⟩) ts.length ct) ∧ w'.cell? ⟨b', off' + k, none⟩ = some (.string ts[k])) := hide (fun w' hf => by
                      have hC := (unhide HC7).keep ((unhide HI).trans hf (fun _ _ t => t))
                      exact ⟨hC.b1.cell 0, hC.b1.cell 1, (unhide HTT w' ((unhide HI).trans hf (fun _ _ t => t))).1, hc1 w' hf⟩)
                    have RH : Hid (∀ w', Fr (fun _ => False) wq w' → Calls Try.prog 9 #[.agg #[.int .i64 (L.ver + 1), .slice ao3 (riseL ts).length cap3], .string ts[k]] w' fun e w'' => e = .returned (.bool true) ∧ Fr (fun _ => False) wq w'') := hide (fun w' hf => (unhide HHas w' ((unhide HI).trans hf (fun _ _ t => t)) ts[k] (unhide HM)).mono (fun e w'' h => ⟨h.1, hf.trans h.2 (fun _ _ t => t)⟩))
                    clear hc1 HM
                    generalize ts[k] = x at *
                    go_upto_region 19 with (fail)
                    clear c0
                    go_region_held3 (fun w' => w'.cell? ⟨B, 0, none⟩ = some (.int .i64 (L.ver + 1)) ∧ w'.cell? ⟨B, 1, none⟩ = some (.slice ao3 (riseL ts).length cap3) ∧ w'.cell? ⟨b, off + i, none⟩ = some (.slice (some ⟨b', off', none⟩) ts.length ct) ∧ w'.cell? ⟨b', off' + k, none⟩ = some (.string x)) (first | exact unhide HSS _ (Fr.refl _ _) | exact unhide HSS _ ((Fr.refl _ _).drew) | exact unhide HSS _ (unhide hF8)) (first | (go_at_call 9; refine (unhide RH _ ((Fr.refl _ _).drew)).mono ?_; rintro e w8 ⟨rfl, hF8'⟩; have hF8 := hide hF8'; clear hF8'))
                    have HI8 : Hid (Fr (fun _ => False) w7 w8) := hide ((unhide HI).trans (unhide hF8) (fun _ _ t => t))
                    clear hF8 HSS RH HI
                    go_wp2
                    exact ⟨⟨k + 1, by omega, by go_num, unhide HI8⟩, by simp [intOf]; omega⟩
                  · obtain rfl : k = ts.length := by omega
                    have HN : Hid (∃ (L : Rl) (a1 : Option Addr) (c1 g1 : Nat) (a2 : Option Addr) (c2 g2 : Nat), Cn w W wq B L a1 c1 g1 a2 c2 g2) := hide ⟨_, _, _, _, _, _, _, (unhide HC7).keep (unhide HI)⟩
                    clear HI HC7 HHas HTT
                    go_wp2
                    exact ⟨⟨i + 1, by omega, by go_num, unhide HN⟩, by simp [intOf]; omega⟩
            · have hx : (E == 0) = false := by rw [beq_eq_false_iff_ne]; exact hE
              have HN : Hid (∃ (L : Rl) (a1 : Option Addr) (c1 g1 : Nat) (a2 : Option Addr) (c2 g2 : Nat), Cn w W V B L a1 c1 g1 a2 c2 g2) := hide ⟨_, _, _, _, _, _, _, (unhide HCC).keep (unhide HV).1⟩
              clear HV HCC HOKh HBADh hE
              go_wp2
              exact ⟨⟨i + 1, by omega, by go_num, unhide HN⟩, by simp [intOf]; omega⟩
      · have HFF := hide (show Fr (fun _ => False) w wr by obtain ⟨L, a1, c1, g1, a2, c2, g2, hC⟩ := unhide HR; exact hC.fr)
        clear HR
        go_wp2
        go_ret
        exact ⟨rfl, unhide HFF⟩
    · have HFF := hide (show Fr (fun _ => False) w wr by obtain ⟨L, a1, c1, g1, a2, c2, g2, hC⟩ := unhide HR; exact hC.fr)
      obtain rfl : i = ss.length := by omega
      clear HR
      go_wp2
      go_ret
      exact ⟨rfl, unhide HFF⟩

end Go.Proofs.Ytmhljehkodhggaa

