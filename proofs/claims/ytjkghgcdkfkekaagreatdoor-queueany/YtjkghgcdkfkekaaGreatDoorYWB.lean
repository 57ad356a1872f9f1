import Derived.Test.YtjkghgcdkfkekaaGreatDoorYWA
import Derived.Test.YtjkghgcdkfkekaaGreatDoorMPX
import Derived.Test.YtjkghgcdkfkekaaGreatDoorZX
/- Contract: a stream's put. -/
namespace Go.Proofs.YtjkghgcdkfkekaaGreatDoor
open Go.RowKit

/-- A stream within a block of cells, from the cell o on: where its disk is, its half, its number, its records. Role 6: the log's own. -/
structure StAt (w : World) (R : Nat → Nat) (q o : Nat) (cs : Array Value) (T : TypeId) (p first H G : Nat) (rs : List Bs) : Prop where
  box : Bx w q cs T
  c0 : cs[o]? = some (.pointer (some ⟨p, 0, none⟩))
  c1 : cs[o + 1]? = some (.int .i64 (first : Int))
  c2 : cs[o + 2]? = some (.int .i64 (H : Int))
  c3 : cs[o + 3]? = some (.int .i64 (G : Int))
  c4 : cs[o + 4]? = some (.int .i64 (rs.length : Int))
  c5 : cs[o + 5]? = some (.int .i64 (bgn (strm rs).length : Int))
  c6 : ∃ ao cap, cs[o + 6]? = some (.slice ao (aheadOf rs).length cap) ∧ BAt w ao cap (aheadOf rs) ∧ ∀ b off, 0 < (aheadOf rs).length → ao = some ⟨b, off, none⟩ → R b = 6 ∧ b ≠ q

theorem StAt.frame {S : Nat → Prop} {w w' : World} {R R' : Nat → Nat} {q o : Nat} {cs : Array Value} {T : TypeId} {p first H G : Nat} {rs : List Bs} (h : StAt w R q o cs T p first H G rs) (hF : Fr S w w') (hq : ¬ S q) (h6 : ∀ k, R k = 6 → k ≠ q → ¬ S k) (hU : UpR w R R') : StAt w' R' q o cs T p first H G rs := by
  refine ⟨h.box.frame hF hq, h.c0, h.c1, h.c2, h.c3, h.c4, h.c5, ?_⟩
  obtain ⟨ao, cap, e1, e2, e3⟩ := h.c6
  refine ⟨ao, cap, e1, e2.stay (fun b off ea h0 hlt => hF.block b hlt (by obtain ⟨r1, r2⟩ := e3 b off h0 ea; exact h6 b r1 r2)), fun b off h0 ea => ?_⟩
  obtain ⟨b', off', ea', hc⟩ := e2.2.1 h0
  rw [ea] at ea'
  injection ea' with ea'
  injection ea' with e4 e5
  have hlt : b < w.heap.size := by rw [e4]; exact World.block_lt_of_cell? _ _ (hc 0 h0)
  obtain ⟨r1, r2⟩ := e3 b off h0 ea
  exact ⟨by rw [hU b hlt]; exact r1, r2⟩

/-- The table and its role. -/
def TabR (w : World) (R : Nat → Nat) : Prop := TabAt w ∧ R 1 = 0

theorem TabR.frame {S : Nat → Prop} {w w' : World} {R R' : Nat → Nat} (h : TabR w R) (hF : Fr S w w') (hS : ∀ k, S k → R k ≠ 0) (hU : UpR w R R') : TabR w' R' :=
  ⟨h.1.frame hF (fun t => hS _ t h.2), by rw [hU _ h.1.pos]; exact h.2⟩

/-- The disk behind acts. -/
def Ran (w : World) (R : Nat → Nat) (b : Nat) (d : Dk) (w' : World) : Prop := ∃ R', DAt w' R' b d ∧ UpR w R R' ∧ Fr (DS R) w w'

theorem cutM {w : World} {ao : Option Addr} {cap : Nat} {s : Bs} (hB : BAt w ao cap s) (i j : Nat) (hij : i < j) (hj : j ≤ s.length) (hc : s.length ≤ cap) :
    ∃ ao', (∀ w', (Instr.slice 28 (.slice ao s.length cap) (some (.int .i64 (i : Int))) (some (.int .i64 (j : Int))) none).run Tryz.prog w' = .ok (.slice ao' (j - i) (cap - i)) w') ∧ ∀ w', BAt w' ao cap s → BAt w' ao' (cap - i) ((s.drop i).take (j - i)) := by
  obtain ⟨b, off, rfl, hcell⟩ := hB.2.1 (by omega)
  refine ⟨some ⟨b, off + i, none⟩, fun w' => ?_, fun w' h => ?_⟩
  · rw [run_slice_lh (P := Tryz.prog) (w := w') 28 (some ⟨b, off, none⟩) s.length cap under37 .i64 .i64 (i : Int) (j : Int) (by omega) (by omega) (by omega), size5w]
    simp only [Result.andThen, sliced, Int.toNat_natCast, Nat.mul_one]
    rw [if_neg (by omega)]
    simp [Addr.add_lit]
  · obtain ⟨b', off', e, hcell'⟩ := h.2.1 (by omega)
    injection e with e
    injection e with e1 e2
    subst e1 e2
    exact h.cut hcell' i (j - i) (cap - i) (by omega)

theorem fill_img (G : Nat) (rs : List Bs) (x : Bs) (i : Nat) : fillS (digs G 8 ++ ((somE rs x).drop (504 * i)).take 504) = img G (strm (rs ++ [x])) (q0 rs + i) := by
  rw [img_part, fillS, pad, List.append_assoc]
  congr 3
  rw [List.length_append, digs_length]; omega

theorem upR_w2 {w w2 : World} {R Ri : Nat → Nat} {S : Nat → Prop} (hU : UpR w2 R Ri) (hF : Fr S w w2) : UpR w R Ri := fun k hk => hU k (Nat.lt_of_lt_of_le hk hF.size)

/-- The two calls of a round of put. -/
theorem put_calls (wr : World) (R : Nat → Nat) (p b : Nat) (d : Dk) (hk : Dsk wr R p b d.many) (hD : DAt wr R b d) (hup : d.down = false) (hcnt : d.cnt < 576460752303423488 ∧ d.wait.length < 2199023255552) (a G : Nat) (ha : a < d.many) (hG : G < 9223372036854775808) (pa : Option Addr) (pc : Nat) (part : Bs) (hB : BAt wr pa pc part) (hl : part.length ≤ 504) :
    Calls Tryz.prog 72 #[.int .i64 (G : Int), .slice pa part.length pc] wr.drew (fun e w1 => ∃ g, e = .returned (.slice (some ⟨g, 0, none⟩) 512 512) ∧ Fr (fun _ => False) wr w1 ∧ Hid (Bx w1 g (bytesV (fillS (digs G 8 ++ part))).toArray 5)) ∧
    ∀ w1 g, Fr (fun _ => False) wr w1 → Bx w1 g (bytesV (fillS (digs G 8 ++ part))).toArray 5 → Calls Tryz.prog 71 #[.pointer (some ⟨p, 0, none⟩), .int .i64 (a : Int), .slice (some ⟨g, 0, none⟩) 512 512] w1 (Acted wr R b (d.act (.wr a (fillS (digs G 8 ++ part))))) := by
  have hfl : (fillS (digs G 8 ++ part)).length = 512 := by rw [fillS_length]; rw [List.length_append, digs_length]; omega
  refine ⟨?_, fun w1 g hF hbx => ?_⟩
  · refine (stamped_any wr.drew G hG pa pc part (hB.later ((Fr.refl _ _).drew)) hl).mono ?_
    rintro e w1 ⟨v, rfl, g, rfl, h2, h3, h4⟩
    rw [hfl]
    exact ⟨g, rfl, ((Fr.refl _ wr).drew).trans h3 (fun _ _ t => t), h2⟩
  · have hb := BAt.ofBx hbx (by omega)
    rw [hfl] at hb
    refine (write_any w1 R p b d (hk.frame hF (fun _ _ t => t) (UpR.refl _ _)) (hD.frame hF (fun _ t => t.elim)) hup hcnt a ha _ hfl _ _ hb).mono ?_
    intro e w2 hA
    exact hA.later hF (UpR.refl _ _)

set_option maxHeartbeats 4000000 in
set_option maxRecDepth 20000 in
theorem put_any (w : World) (R : Nat → Nat) (q o : Nat) (cs : Array Value) (T : TypeId) (p b : Nat) (d : Dk) (first H G : Nat) (rs : List Bs) (hT : TabR w R) (hs : StAt w R q o cs T p first H G rs) (hrq : R q = 0 ∨ R q = 6) (hk : Dsk w R p b d.many) (hD : DAt w R b d) (hup : d.down = false) (hcnt : d.cnt + 524288 < 576460752303423488 ∧ d.wait.length + 524288 < 2199023255552)
    (hfh : first + H ≤ d.many) (hH : H ≤ 524287) (hG : G < 9223372036854775808) (xo : Option Addr) (xc : Nat) (x : Bs) (hx : BAt w xo xc x) (hxr : ∀ b off, 0 < x.length → xo = some ⟨b, off, none⟩ → R b = 0) (hfit : (strm (rs ++ [x])).length ≤ 504 * H) :
    Calls Tryz.prog 43 #[.pointer (some ⟨q, o, none⟩), .slice xo x.length xc] w fun e w' =>
      e = .returned (if (d.run (putActs first G rs x)).2 then errV 5 else .nilIface) ∧ ∃ R' cs', DAt w' R' b (d.run (putActs first G rs x)).1 ∧ UpR w R R' ∧ Fr (fun k => DS R k ∨ k = q) w w' ∧ Bx w' q cs' T ∧ cs'.size = cs.size ∧ (∀ i, i < o + 4 ∨ o + 7 ≤ i → cs'[i]? = cs[i]?) ∧
        ((d.run (putActs first G rs x)).2 = false → StAt w' R' q o cs' T p first H G (rs ++ [x])) := by
  have hlen := strm_len_put rs x
  have hsl := somE_length rs x
  have hmany := hD.many
  have hb := hs.box
  have hrb := strm_many rs
  have hrb2 := strm_many (rs ++ [x])
  have hbl := bgn_le (strm rs).length
  have hq0 := q0_le rs
  have hnl := nput_le rs x H hfit
  have hn1 := nput_pos rs x
  have hx32 : x.length < 4294967296 := by omega
  have hr32 : rs.length < 4294967296 := by simp at hrb2; omega
  obtain ⟨ao, cap, e6, hbA, hrA⟩ := hs.c6
  have k0 : w.cell? ⟨q, o, none⟩ = some (.pointer (some ⟨p, 0, none⟩)) := (hb.cell o).trans hs.c0
  have k1 : w.cell? ⟨q, o + 1, none⟩ = some (.int .i64 (first : Int)) := (hb.cell _).trans hs.c1
  have k3 : w.cell? ⟨q, o + 3, none⟩ = some (.int .i64 (G : Int)) := (hb.cell _).trans hs.c3
  have k4 : w.cell? ⟨q, o + 4, none⟩ = some (.int .i64 (rs.length : Int)) := (hb.cell _).trans hs.c4
  have k5 : w.cell? ⟨q, o + 5, none⟩ = some (.int .i64 (bgn (strm rs).length : Int)) := (hb.cell _).trans hs.c5
  have k6 : w.cell? ⟨q, o + 6, none⟩ = some (.slice ao (aheadOf rs).length cap) := (hb.cell _).trans e6
  have hlq : q < w.heap.size := hb.lt
  have hdiv : ((bgn (strm rs).length : Nat) : Int) / 504 = ((q0 rs : Nat) : Int) := by unfold q0; omega
  have hbgi : ((bgn (strm rs).length : Nat) : Int) ≤ 264240660 := by omega
  have hbg0 : (0 : Int) ≤ ((bgn (strm rs).length : Nat) : Int) := by omega
  have HH := hide (And.intro hT (And.intro hs (And.intro hrq (And.intro hk (And.intro hD (And.intro hup (And.intro hcnt (And.intro hfh (And.intro hH (And.intro hG (And.intro hx (And.intro hxr hfit))))))))))))
  have HM := hide (And.intro hlen (And.intro hsl (And.intro hmany (And.intro hrb2 (And.intro hbl (And.intro hq0 (And.intro hnl (And.intro hn1 (And.intro hx32 (And.intro hr32 (And.intro hbA hrA)))))))))))
  -- the frame's head, and all of it in a row
  have hFd : Fr (fun _ => False) w w.drew := (Fr.refl _ _).drew
  have FH := frameHead_any w.drew (hT.1.later hFd) xo xc x (hx.later hFd) hx32 rs.length hr32
  have HS : ∀ w', Fr (fun _ => False) w w' → w'.cell? ⟨q, o + 6, none⟩ = some (.slice ao (aheadOf rs).length cap) ∧ w'.cell? ⟨q, o + 4, none⟩ = some (.int .i64 (rs.length : Int)) := fun w' hf => ⟨(hf.cell (a := ⟨q, o + 6, none⟩) hlq (fun t => t)).trans k6, (hf.cell (a := ⟨q, o + 4, none⟩) hlq (fun t => t)).trans k4⟩
  have HCC : ∀ w1 vo vc g1, Row w1 (.slice vo 12 vc) g1 (fh x rs.length) → Fr (fun _ => False) w.drew w1 → Calls Tryz.prog 62 #[.slice (some ⟨w1.heap.size, 0, none⟩) 3 3] (w1.alloc (.cells #[.slice ao (aheadOf rs).length cap, .slice vo 12 vc, .slice xo x.length xc] 28)) fun e w' => ∃ v, e = .returned v ∧ New w (somE rs x) v w' := by
    intro w1 vo vc g1 hrow hf1
    have hf0 : Fr (fun _ => False) w w1 := hFd.trans hf1 (fun _ _ t => t)
    have hFa : Fr (fun _ => False) w1 (w1.alloc (.cells #[.slice ao (aheadOf rs).length cap, .slice vo 12 vc, .slice xo x.length xc] 28)) := (Fr.refl _ _).alloc _
    have hf2 := hf0.trans hFa (fun _ _ t => t)
    have hbx := Bx.new w1 #[.slice ao (aheadOf rs).length cap, .slice vo 12 vc, .slice xo x.length xc] 28
    generalize w1.alloc (.cells #[.slice ao (aheadOf rs).length cap, .slice vo 12 vc, .slice xo x.length xc] 28) = w2 at *
    have b1 := hbA.later hf2
    have hr2 : Row w2 (.slice vo 12 vc) g1 (fh x rs.length) := hrow.elsewhere (fun hc => hFa.block g1 (hrow.lt0 hc) (fun t => t))
    have b2 := (hr2.bat (by rw [fh_length]; omega)).2
    have b3 := hx.later hf2
    have hal : allB [(ao, cap, aheadOf rs), (vo, vc, fh x rs.length), (xo, xc, x)] = somE rs x := by simp [allB, somE]
    have C := concat_any w2 w1.heap.size [(ao, cap, aheadOf rs), (vo, vc, fh x rs.length), (xo, xc, x)] (fun i h => ?c0) (by simp) (fun i h => ?b0) (by rw [hal, hsl]; omega) (by rw [hal, hsl]; omega)
    case c0 => match i, h with
      | 0, _ => exact hbx.cell 0
      | 1, _ => rw [show ([(ao, cap, aheadOf rs), (vo, vc, fh x rs.length), (xo, xc, x)] : List (Option Addr × Nat × List UInt8))[1].2.2.length = 12 from fh_length x rs.length]; exact hbx.cell 1
      | 2, _ => exact hbx.cell 2
    case b0 => match i, h with
      | 0, _ => exact b1
      | 1, _ => exact b2
      | 2, _ => exact b3
    rw [hal] at C
    refine C.mono ?_
    rintro e w3 ⟨v, h1, g3, h2, h3, h4⟩
    exact ⟨v, h1, g3, h2, hf2.trans h3 (fun _ _ t => t), Nat.le_trans hf2.size h4⟩
  have HSS := hide HS
  have HF := hide FH
  have HC := hide HCC
  clear HS FH HCC hFd hlen hsl hmany hrb hrb2 hbl hq0 hnl hn1 hx32 hr32 e6 hbA hrA hT hs hrq hk hD hup hcnt hfh hH hG hx hxr hfit hb
  generalize hBG : bgn (strm rs).length = BG at *
  have HBG := hide hBG
  clear hBG
  obtain ⟨DR, hDR⟩ : ∃ DR, DR = d.run (putActs first G rs x) := ⟨_, rfl⟩
  obtain ⟨rv, hrv⟩ : ∃ rv : Value, rv = if DR.2 then errV 5 else .nilIface := ⟨_, rfl⟩
  rw [← hDR, ← hrv]
  have HDR := hide (And.intro hDR hrv)
  clear hDR hrv
  go_enter Tryz.func43, Tryz.ntmps43
  go_wp2
  go_region_held3 (fun w' => w'.cell? ⟨q, o + 6, none⟩ = some (.slice ao (aheadOf rs).length cap) ∧ w'.cell? ⟨q, o + 4, none⟩ = some (.int .i64 (rs.length : Int))) (first | exact unhide HSS _ ((Fr.refl _ _).drew) | exact unhide HSS _ (((Fr.refl _ w).drew).trans k2 (fun _ _ t => t)) | exact unhide HSS _ ((((Fr.refl _ w).drew).trans k2 (fun _ _ t => t)).alloc _) | exact unhide HSS _ j2) (first | (go_at_call 70; refine (unhide HF).mono ?_; rintro e w1 ⟨v, rfl, g1, k1', k2, k3'⟩; obtain ⟨vo, vc, rfl, hjunk⟩ := k1'.shape; clear hjunk; rw [fh_length] at *) | (go_at_call 62; refine (unhide HC w1 vo vc g1 k1' k2).mono ?_; rintro e w2 ⟨v, rfl, g2, j1, j2, j3⟩; obtain ⟨so, sc, rfl, hjunk, hjunk2, hjunk3, hjunk4⟩ := j1.shape))
  have HR := hide (And.intro j1 (And.intro j2 (And.intro j3 (And.intro hjunk hjunk2))))
  clear j1 j2 j3 k1' k2 k3' hjunk hjunk2 hjunk3 hjunk4 HSS HF HC
  obtain ⟨hlen, hsl, hmany, hrb2, hbl, hq0, hnl, hn1, hx32, hr32, hbA, hrA⟩ := unhide HM
  have hH := (unhide HH).2.2.2.2.2.2.2.2.1
  have hfit := (unhide HH).2.2.2.2.2.2.2.2.2.2.2.2
  have hnv : (((somE rs x).length : Int) + 504 - 1) / 504 = ((nput rs x : Nat) : Int) := by unfold nput; omega
  have hLi : ((somE rs x).length : Int) ≤ 264241152 := by omega
  have hL0 : (12 : Int) ≤ ((somE rs x).length : Int) := by omega
  have hni : ((nput rs x : Nat) : Int) ≤ 524287 := by omega
  have hqi : ((q0 rs : Nat) : Int) ≤ 524287 := by omega
  have hlq2 : q < w2.heap.size := by have := (unhide HR).2.1.size; omega
  have hD2 : DAt w2 R b d := (unhide HH).2.2.2.2.1.frame (unhide HR).2.1 (fun _ t => t.elim)
  have HD2 := hide hD2
  clear hlen hsl hmany hrb2 hbl hq0 hnl hn1 hx32 hr32 hbA hrA hH hfit hD2
  generalize hN : nput rs x = N at *
  have HN := hide hN
  clear hN
  generalize hLL : (somE rs x).length = LL at *
  have HLL := hide hLL
  clear hLL
  generalize hQQ : q0 rs = QQ at *
  have HQQ := hide hQQ
  clear hQQ k0 k1 k3 k4 k5 k6
  go_wp2
  rw [hnv]
  have HNV := hide hnv
  clear hnv
  go_loopw [34] (fun iv wr => ∃ i : Nat, i ≤ N ∧ iv = .int .i64 i ∧ ∃ Ri, Hid (DAt wr Ri b (d.run ((putActs first G rs x).take i)).1 ∧ (d.run ((putActs first G rs x).take i)).2 = false ∧ UpR w2 R Ri ∧ Fr (DS R) w2 wr)) (fun iv _ => N - (intOf iv).toNat)
  case atStart => exact ⟨0, Nat.zero_le _, rfl, R, by rw [List.take_zero]; exact unhide HD2, by rw [List.take_zero]; rfl, UpR.refl _ _, Fr.refl _ _⟩
  case round =>
    obtain ⟨i, hi, rfl, Ri, HI⟩ := hrel
    by_cases hlt : i < N
    · obtain ⟨hDi, hno, hUi, hFi⟩ := unhide HI
      obtain ⟨hT, hs, hrq, hk, hD, hup, hcnt, hfh, hH, hG, hx, hxr, hfit⟩ := unhide HH
      obtain ⟨hlen, hsl, hmany, hrb2, hbl, hq0, hnl, hn1, hx32, hr32, hbA, hrA⟩ := unhide HM
      obtain ⟨hrow, hF2, hg2, hls, hsm⟩ := unhide HR
      have hN := unhide HN
      have hLL := unhide HLL
      have hQQ := unhide HQQ
      have hU0 := upR_w2 hUi hF2
      have hF0 : Fr (DS R) w wr := (hF2.mono (fun _ _ t => t.elim)).trans hFi (fun _ _ t => t)
      obtain ⟨f1, f2, f3⟩ := d.run_facts _ (putActs_wr first G rs x i) hno
      have hln : ((putActs first G rs x).take i).length ≤ i := by rw [List.length_take]; omega
      have hz2 : R g2 = 0 := hD.zero g2 hg2
      have hroww := hrow.elsewhere (fun hc => hFi.block g2 (hrow.lt0 hc) (fun t => by have := t.1; omega))
      have hba := (hroww.bat (by rw [hLL]; omega)).2
      obtain ⟨m, hmm⟩ : ∃ m, m = min (504 * (i + 1)) LL := ⟨_, rfl⟩
      have hmin : ∀ ts t (w : World), (Builtin.min_ ts t #[.int .i64 (((i : Int) + 1) * 504), .int .i64 (LL : Int)]).run Tryz.prog w = .ok (.int .i64 (m : Int)) w := fun ts t w => by
        rw [run_min_int2]; congr 2; split <;> omega
      have hnv := unhide HNV
      have hil : 504 * i < m := by omega
      clear hnv
      obtain ⟨pa, hcut, hBc⟩ := cutM hba (504 * i) m hil (by rw [hLL]; omega) (by rw [hLL]; omega)
      rw [hLL, show ((504 * i : Nat) : Int) = (i : Int) * 504 by omega] at hcut
      have hpart := hBc wr hba
      have hpt := part_take rs x i
      rw [hLL, ← hmm] at hpt
      rw [hpt] at hpart
      have hpl : (((somE rs x).drop (504 * i)).take 504).length = m - 504 * i := by rw [List.length_take, List.length_drop, hLL]; omega
      have hk' : Dsk wr Ri p b (d.run ((putActs first G rs x).take i)).1.many := by rw [f2]; exact hk.frame hF0 (fun k hk t => by have := t.1; have := t.2; omega) hU0
      obtain ⟨C1, C2⟩ := put_calls wr Ri p b _ hk' hDi (f1.trans hup) ⟨by rw [f3]; omega, by have := d.run_wl ((putActs first G rs x).take i); omega⟩ (first + QQ + i) G (by rw [f2]; omega) hG pa (sc - 504 * i) _ hpart (by rw [hpl]; omega)
      rw [hpl] at C1
      have hfill := fill_img G rs x i
      rw [hQQ] at hfill
      rw [hfill] at C2
      rw [hfill] at C1
      have hact := run_put d first G rs x i (by rw [hN]; exact hlt) hno
      rw [hQQ] at hact
      rw [← hact, show ((first + QQ + i : Nat) : Int) = (first : Int) + (QQ : Int) + (i : Int) by omega] at C2
      have hq6 : ¬ DS R q := fun t => by have := t.1; have := t.2; omega
      have hqi6 : ¬ DS Ri q := fun t => by have h1 := t.1; have h2 := t.2; rw [hU0 q hlq] at h1 h2; omega
      have HS : ∀ w', Fr (DS Ri) wr w' → w'.cell? ⟨q, o, none⟩ = some (.pointer (some ⟨p, 0, none⟩)) ∧ w'.cell? ⟨q, o + 1, none⟩ = some (.int .i64 (first : Int)) ∧ w'.cell? ⟨q, o + 3, none⟩ = some (.int .i64 (G : Int)) := by
        intro w' hf
        have hb' := (hs.box.frame hF0 hq6).frame hf hqi6
        exact ⟨(hb'.cell _).trans hs.c0, (hb'.cell _).trans hs.c1, (hb'.cell _).trans hs.c3⟩
      have hiI : (i : Int) < (N : Int) := by omega
      have hi0 : (0 : Int) ≤ (i : Int) := by omega
      have hQ0 : (0 : Int) ≤ (QQ : Int) := by omega
      have hfI : (first : Int) ≤ 4294967296 := by omega
      have hf0 : (0 : Int) ≤ (first : Int) := by omega
      have hw1 : IntKind.i64.wrap ((first : Int) + (QQ : Int)) = (first : Int) + (QQ : Int) := by rw [IntKind.wrap_i64]; omega
      have hw2 : IntKind.i64.wrap ((first : Int) + (QQ : Int) + (i : Int)) = (first : Int) + (QQ : Int) + (i : Int) := by rw [IntKind.wrap_i64]; omega
      have hlqr : q < wr.heap.size := by have := hFi.size; omega
      have hpsz : (m : Int) ≤ (LL : Int) := by omega
      have HSS := hide HS
      have HC1 := hide C1
      have HHA := hide (And.intro hno (And.intro hU0 hF0))
      clear HS C1 hqi6 hact hfill hpl hpt hpart hk' hBc hba hroww hz2 hln f1 f2 f3 hF0 hU0 hQQ hLL hN hrow hF2 hg2 hls hsm hlen hsl hmany hrb2 hbl hq0 hnl hn1 hx32 hr32 hbA hrA hT hs hrq hk hD hup hcnt hfh hH hG hx hxr hfit hDi hno hUi hFi hq6 hmm
      cases hr : (d.run ((putActs first G rs x).take (i + 1))).2 with
      | true =>
        have HC2 : Hid (∀ w1 g, Fr (fun _ => False) wr w1 → Bx w1 g (bytesV (img G (strm (rs ++ [x])) (QQ + i))).toArray 5 → Calls Tryz.prog 71 #[.pointer (some ⟨p, 0, none⟩), .int .i64 ((first : Int) + (QQ : Int) + (i : Int)), .slice (some ⟨g, 0, none⟩) 512 512] w1 fun e w4 => e = .returned (errV 5) ∧ Fr (DS Ri) wr w4 ∧ Hid (∃ R4, DAt w4 R4 b (d.run ((putActs first G rs x).take (i + 1))).1 ∧ UpR wr Ri R4)) := fun w1 g h1 h2 => (C2 w1 g h1 h2).mono (by
          rintro e w4 ⟨rfl, R4, j1, j2, j3⟩
          rw [hr]
          exact ⟨rfl, j3, R4, j1, j2⟩)
        have HRR := hide hr
        clear hr C2
        go_wp2
        clear hcut hmin
        go_region_held3 (fun w' => w'.cell? ⟨q, o, none⟩ = some (.pointer (some ⟨p, 0, none⟩)) ∧ w'.cell? ⟨q, o + 1, none⟩ = some (.int .i64 (first : Int)) ∧ w'.cell? ⟨q, o + 3, none⟩ = some (.int .i64 (G : Int))) (first | exact unhide HSS _ ((Fr.refl _ _).drew) | exact unhide HSS _ (k2.mono (fun _ _ t => t.elim)) | exact unhide HSS _ j3) (first | (go_at_call 72; refine (unhide HC1).mono ?_; rintro e w3 ⟨g3, rfl, k2, k3⟩) | (go_at_call 71; refine (unhide HC2 w3 g3 k2 (unhide k3)).mono ?_; rintro e w4 ⟨rfl, j3, HJ⟩; clear k2 k3))
        have HJ3 := hide j3
        clear j3 hw1 hw2
        go_wp2
        go_ret
        obtain ⟨R4, k1, k2⟩ := unhide HJ
        have k3 := unhide HJ3
        obtain ⟨hno, hU0, hF0⟩ := unhide HHA
        have hrr := run_put_no d first G rs x (i + 1) (unhide HRR)
        have hs := (unhide HH).2.1
        have hrq := (unhide HH).2.2.1
        have hfr : Fr (DS R) w w4 := hF0.trans k3 (fun k hk t => by unfold DS at t ⊢; rw [hU0 k hk] at t; exact t)
        have hr2 : (d.run (putActs first G rs x)).2 = true := by rw [hrr]; exact unhide HRR
        obtain ⟨hDR, hrv⟩ := unhide HDR
        rw [← hDR] at hr2
        rw [hr2, if_pos rfl] at hrv
        refine ⟨by rw [hrv]; rfl, R4, cs, by rw [hDR, hrr]; exact k1, hU0.trans k2 hF0.size, hfr.mono (fun _ _ t => .inl t), hs.box.frame hfr (fun t => by have := t.1; have := t.2; omega), rfl, fun _ _ => rfl, fun h => by rw [hr2] at h; cases h⟩
      | false =>
        have HC2 : Hid (∀ w1 g, Fr (fun _ => False) wr w1 → Bx w1 g (bytesV (img G (strm (rs ++ [x])) (QQ + i))).toArray 5 → Calls Tryz.prog 71 #[.pointer (some ⟨p, 0, none⟩), .int .i64 ((first : Int) + (QQ : Int) + (i : Int)), .slice (some ⟨g, 0, none⟩) 512 512] w1 fun e w4 => e = .returned .nilIface ∧ Fr (DS Ri) wr w4 ∧ Hid (∃ R4, DAt w4 R4 b (d.run ((putActs first G rs x).take (i + 1))).1 ∧ UpR wr Ri R4)) := fun w1 g h1 h2 => (C2 w1 g h1 h2).mono (by
          rintro e w4 ⟨rfl, R4, j1, j2, j3⟩
          rw [hr]
          exact ⟨rfl, j3, R4, j1, j2⟩)
        have HRR := hide hr
        clear hr C2
        go_wp2
        clear hcut hmin
        go_region_held3 (fun w' => w'.cell? ⟨q, o, none⟩ = some (.pointer (some ⟨p, 0, none⟩)) ∧ w'.cell? ⟨q, o + 1, none⟩ = some (.int .i64 (first : Int)) ∧ w'.cell? ⟨q, o + 3, none⟩ = some (.int .i64 (G : Int))) (first | exact unhide HSS _ ((Fr.refl _ _).drew) | exact unhide HSS _ (k2.mono (fun _ _ t => t.elim)) | exact unhide HSS _ j3) (first | (go_at_call 72; refine (unhide HC1).mono ?_; rintro e w3 ⟨g3, rfl, k2, k3⟩) | (go_at_call 71; refine (unhide HC2 w3 g3 k2 (unhide k3)).mono ?_; rintro e w4 ⟨rfl, j3, HJ⟩; clear k2 k3))
        have HJ3 := hide j3
        clear j3 hw1 hw2
        go_wp2
        obtain ⟨R4, k1, k2⟩ := unhide HJ
        have k3 := unhide HJ3
        obtain ⟨hDi, hno, hUi, hFi⟩ := unhide HI
        refine ⟨?_, ?_⟩
        · exact ⟨i + 1, hlt, by go_num, R4, k1, unhide HRR, hUi.trans k2 hFi.size, hFi.trans k3 (fun k hk t => by unfold DS at t ⊢; rw [hUi k hk] at t; exact t)⟩
        · simp [intOf]; omega
    · obtain rfl : i = N := by omega
      obtain ⟨hDi, hno, hUi, hFi⟩ := unhide HI
      obtain ⟨hT, hs, hrq, hk, hD, hup, hcnt, hfh, hH, hG, hx, hxr, hfit⟩ := unhide HH
      obtain ⟨hlen, hsl, hmany, hrb2, hbl, hq0, hnl, hn1, hx32, hr32, hbA, hrA⟩ := unhide HM
      obtain ⟨hrow, hF2, hg2, hls, hsm⟩ := unhide HR
      have hN := unhide HN
      have hLL := unhide HLL
      have hQQ := unhide HQQ
      have hU0 := upR_w2 hUi hF2
      have hF0 : Fr (DS R) w wr := (hF2.mono (fun _ _ t => t.elim)).trans hFi (fun _ _ t => t)
      have htk : (putActs first G rs x).take i = putActs first G rs x := List.take_of_length_le (by rw [putActs_length, hN]; omega)
      rw [htk, ← (unhide HDR).1] at hDi hno
      have hrv := (unhide HDR).2
      rw [hno] at hrv
      rw [if_neg (by decide)] at hrv
      have hq6 : ¬ DS R q := fun t => by have := t.1; have := t.2; omega
      have hz2 : R g2 = 0 := hD.zero g2 hg2
      have hroww := hrow.elsewhere (fun hc => hFi.block g2 (hrow.lt0 hc) (fun t => by have := t.1; omega))
      have hbw := hs.box.frame hF0 hq6
      have k4 : wr.cell? ⟨q, o + 4, none⟩ = some (.int .i64 (rs.length : Int)) := (hbw.cell _).trans hs.c4
      have f4 : wr.frozen? ⟨q, o + 4, none⟩ = false := hbw.frozen _
      have hri : (rs.length : Int) < 4294967296 := by omega
      have hr0 : (0 : Int) ≤ (rs.length : Int) := by omega
      have hpq : (QQ : Int) * 504 + (LL : Int) = (((strm (rs ++ [x])).length : Nat) : Int) := by omega
      have hpl : (strm (rs ++ [x])).length < 4611686018427387904 := by omega
      have hpi : (((strm (rs ++ [x])).length : Nat) : Int) ≤ 264241152 := by omega
      have HE := hide (And.intro hDi (And.intro hno (And.intro hU0 (And.intro hF0 (And.intro hrv (And.intro hroww (And.intro hbw hz2)))))))
      clear hDi hno hUi hFi hT hs hrq hk hD hup hcnt hfh hH hG hx hxr hfit hlen hsl hmany hrb2 hbl hq0 hnl hn1 hx32 hr32 hbA hrA hrow hF2 hg2 hls hsm hN hLL hQQ hU0 hF0 htk hrv hq6 hz2 hroww hbw
      generalize hPP : (strm (rs ++ [x])).length = PP at *
      have HPP := hide hPP
      clear hPP
      go_wp2_with fail
      refine (begin_any _ PP hpl).mono ?_
      rintro e w5 ⟨rfl, rfl⟩
      have hb5 := (unhide HE).2.2.2.2.2.2.1.setCell (o + 4) (.int .i64 ((rs.length : Int) + 1))
      have hF5 : Fr (fun k => k = q) wr (wr.setCell ⟨q, o + 4, none⟩ (.int .i64 ((rs.length : Int) + 1))) := (Fr.refl (fun k => k = q) wr).setCell (p := ⟨q, o + 4, none⟩) (fun _ => rfl) _
      generalize wr.setCell ⟨q, o + 4, none⟩ (.int .i64 ((rs.length : Int) + 1)) = w5 at *
      have k5 : w5.cell? ⟨q, o + 5, none⟩ = some (.int .i64 (BG : Int)) := by
        rw [hb5.cell, Array.getElem?_setIfInBounds_ne (by omega), ← unhide HBG]
        exact (unhide HH).2.1.c5
      have f5 : w5.frozen? ⟨q, o + 5, none⟩ = false := hb5.frozen _
      have hb2 := bgn_le PP
      have hb3 := bgn_lt PP
      generalize hB2 : bgn PP = B2 at *
      have hqB : QQ ≤ B2 / 504 := by omega
      generalize hQ2 : B2 / 504 = Q2 at *
      have hdiv2 : (B2 : Int) / 504 = (Q2 : Int) := by omega
      have hB2i : (B2 : Int) ≤ 264241700 := by omega
      have hB20 : (0 : Int) ≤ (B2 : Int) := by omega
      have hQ2i : (Q2 : Int) ≤ 600000 := by omega
      have hQqi : (QQ : Int) ≤ (Q2 : Int) := by omega
      have hba := ((unhide HE).2.2.2.2.2.1.bat (by rw [unhide HLL]; omega)).2
      obtain ⟨m, hmm⟩ : ∃ m, m = min ((Q2 - QQ) * 504) LL := ⟨_, rfl⟩
      have hmin : ∀ ts t (w : World), (Builtin.min_ ts t #[.int .i64 (((Q2 : Int) - (QQ : Int)) * 504), .int .i64 (LL : Int)]).run Tryz.prog w = .ok (.int .i64 (m : Int)) w := fun ts t w => by
        rw [run_min_int2]; congr 2; split <;> omega
      have hls := (unhide HR).2.2.2.1
      obtain ⟨pa, hcut, hBc⟩ := cutL hba m (by rw [unhide HLL]; omega) (by rw [unhide HLL]; omega)
      rw [unhide HLL] at hcut
      have HE2 := hide (And.intro hb5 (And.intro hF5 (And.intro hBc (And.intro hba (And.intro hmm (And.intro hB2 hQ2))))))
      clear hb5 hF5 hBc hba hmm hb2 hb3 hqB hB2 hQ2 hls
      go_wp2_with fail
      obtain ⟨hb5, hF5, hBc, hba, hmm, hB2, hQ2⟩ := unhide HE2
      have hb6 := hb5.setCell (o + 5) (.int .i64 (B2 : Int))
      have hF6 : Fr (fun k => k = q) wr (w5.setCell ⟨q, o + 5, none⟩ (.int .i64 (B2 : Int))) := hF5.setCell (p := ⟨q, o + 5, none⟩) (fun _ => rfl) _
      generalize w5.setCell ⟨q, o + 5, none⟩ (.int .i64 (B2 : Int)) = w6 at *
      have hroww := (unhide HE).2.2.2.2.2.1
      have hgq : g2 ≠ q := by have := (unhide HR).2.2.1; omega
      have hrow6 := hroww.elsewhere (fun hc => hF6.block g2 (hroww.lt0 hc) hgq)
      have hba6 := (hrow6.bat (by rw [unhide HLL]; omega)).2
      have hp6 := hBc w6 hba6
      have hdl : ((somE rs x).drop m).length = LL - m := by rw [List.length_drop, unhide HLL]
      have hah : (somE rs x).drop m = aheadOf (rs ++ [x]) := by
        have := ahead_next rs x
        rw [unhide HLL, unhide HPP, hB2, unhide HQQ, hQ2, ← hmm] at this
        exact this
      have SC := sclone_any w6 pa (sc - m) _ hp6
      rw [hdl] at SC
      refine SC.mono ?_
      rintro e w7 ⟨v, rfl, g7, hr7, hF7, hg7⟩
      obtain ⟨vo, vc, rfl, hj1, hj2, hj3, hj4⟩ := hr7.shape
      have hb7 := hb6.keep hF7
      obtain ⟨ao6, cap6, e6, hju⟩ := (unhide HH).2.1.c6
      clear hju
      have k6 : w7.cell? ⟨q, o + 6, none⟩ = some (.slice ao6 (aheadOf rs).length cap6) := by
        rw [hb7.cell, Array.getElem?_setIfInBounds_ne (by omega), Array.getElem?_setIfInBounds_ne (by omega)]
        exact e6
      have f6 : w7.frozen? ⟨q, o + 6, none⟩ = false := hb7.frozen _
      have HE3 := hide (And.intro hb7 (And.intro hr7 (And.intro hF7 (And.intro hg7 (And.intro hF6 (And.intro hah (And.intro hB2 e6)))))))
      clear hb5 hF5 hBc hba hmm hB2 hQ2 hb6 hF6 hroww hgq hrow6 hba6 hp6 SC hr7 hF7 hg7 hj1 hj2 hj3 hj4 hb7 hcut hmin hah k5 f5 k4 f4 e6
      go_wp2
      go_ret
      rw [← hdl]
      obtain ⟨hb7, hr7, hF7, hg7, hF6, hah, hB2, e6⟩ := unhide HE3
      obtain ⟨hDi, hno, hU0, hF0, hrv, hroww, hbw, hz2⟩ := unhide HE
      have hs := (unhide HH).2.1
      have hrq := (unhide HH).2.2.1
      have hsz : o + 6 < cs.size := (Array.getElem?_eq_some_iff.1 e6).1
      have hs6 := hF6.size
      have hs0 := hF0.size
      have hF8 : Fr (fun k => k = q) wr (w7.setCell ⟨q, o + 6, none⟩ (.slice vo ((somE rs x).drop m).length vc)) := (hF6.trans hF7 (fun _ _ t => t.elim)).setCell (p := ⟨q, o + 6, none⟩) (fun _ => rfl) _
      have hb8 := hb7.setCell (o + 6) (.slice vo ((somE rs x).drop m).length vc)
      have hgq7 : g7 ≠ q := by omega
      have hr8 : Row (w7.setCell ⟨q, o + 6, none⟩ (.slice vo ((somE rs x).drop m).length vc)) (.slice vo ((somE rs x).drop m).length vc) g7 ((somE rs x).drop m) := hr7.elsewhere (fun _ => Below.heap_setCell _ _ _ _ hgq7)
      have hlt7 : 0 < vc → g7 < (w7.setCell ⟨q, o + 6, none⟩ (.slice vo ((somE rs x).drop m).length vc)).heap.size := fun h => hr8.lt0 h
      generalize w7.setCell ⟨q, o + 6, none⟩ (.slice vo ((somE rs x).drop m).length vc) = w8 at *
      have hqi : Ri q = R q := hU0 q hlq
      have hUp : UpR wr Ri (if 0 < vc then upd Ri g7 6 else Ri) := fun k hk => by
        split
        · exact upd_other _ _ (by omega)
        · rfl
      have hlv : (bgn (strm (rs ++ [x])).length) = B2 := by rw [unhide HPP]; exact hB2
      have hvb := (hr8.bat (by rw [hdl]; omega)).2
      have hvc : ((somE rs x).drop m).length ≤ vc := by
        obtain ⟨v1, v2, h1, h2, _⟩ := hr8.shape
        injection h1 with _ _ h3
        omega
      refine ⟨by rw [hrv]; rfl, if 0 < vc then upd Ri g7 6 else Ri, _, hDi.up hF8 (fun k hk => by subst hk; rw [hqi]; omega) hUp (fun k hk => ?zz), hU0.trans hUp hs0, ?frame, hb8, by simp, fun j hj => ?cells, fun _ => ⟨hb8, ?c0, ?c1, ?c2, ?c3, ?c4, ?c5, ?c6⟩⟩
      case zz =>
        have hz := hDi.zero k (Nat.le_trans hF8.size hk)
        split
        · rename_i hv; have := hlt7 hv; rw [upd_other _ _ (by omega)]; exact hz
        · exact hz
      case frame => exact (hF0.mono (fun _ _ t => Or.inl t)).trans hF8 (fun _ _ t => Or.inr t)
      case cells => rw [Array.getElem?_setIfInBounds_ne (by omega), Array.getElem?_setIfInBounds_ne (by omega), Array.getElem?_setIfInBounds_ne (by omega)]
      case c0 => rw [Array.getElem?_setIfInBounds_ne (by omega), Array.getElem?_setIfInBounds_ne (by omega), Array.getElem?_setIfInBounds_ne (by omega)]; exact hs.c0
      case c1 => rw [Array.getElem?_setIfInBounds_ne (by omega), Array.getElem?_setIfInBounds_ne (by omega), Array.getElem?_setIfInBounds_ne (by omega)]; exact hs.c1
      case c2 => rw [Array.getElem?_setIfInBounds_ne (by omega), Array.getElem?_setIfInBounds_ne (by omega), Array.getElem?_setIfInBounds_ne (by omega)]; exact hs.c2
      case c3 => rw [Array.getElem?_setIfInBounds_ne (by omega), Array.getElem?_setIfInBounds_ne (by omega), Array.getElem?_setIfInBounds_ne (by omega)]; exact hs.c3
      case c4 => rw [Array.getElem?_setIfInBounds_ne (by omega), Array.getElem?_setIfInBounds_ne (by omega), Array.getElem?_setIfInBounds_self_of_lt (by omega)]; simp
      case c5 => rw [Array.getElem?_setIfInBounds_ne (by omega), Array.getElem?_setIfInBounds_self_of_lt (by simp; omega), hlv]
      case c6 =>
        rw [← hah]
        refine ⟨vo, vc, by rw [Array.getElem?_setIfInBounds_self_of_lt (by simp; omega)], hvb, fun b off h0 ea => ?_⟩
        have hv0 : 0 < vc := by omega
        obtain ⟨v1, v2, h1, h2, h3, h4, h5⟩ := hr8.shape
        injection h1 with h6 h7 h8
        subst h6 h8
        rw [h4 hv0] at ea
        injection ea with ea
        injection ea with ea1 ea2
        subst ea1
        rw [if_pos hv0, upd_same]
        exact ⟨rfl, hgq7⟩

end Go.Proofs.YtjkghgcdkfkekaaGreatDoor

