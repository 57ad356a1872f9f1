/- The document's own answers: deltas, outages, written. -/
import Derived.Test.YtkjoojamkbpfcaaN9
import Derived.Test.YtkjoojamkbpfcaaG1
namespace Go.Proofs.Ytkjoojamkbpfcaa
open Go.RowKit

/-- What the document's own writing of tokens comes to. -/
def wrT (l : List ByteArray) : Option (List UInt8) := stepW (wCount (l.length : Int)) (wrN tokenK ((l.take 70000).map tkC))
theorem wrT_small {l : List ByteArray} (h : l.length ≤ 70000) : wrT l = wrM tokenK (l.map tkC) := by
  unfold wrT wrM
  rw [List.take_of_length_le h, List.length_map]
theorem wrT_most (l : List ByteArray) : Most (wrT l) 600000 := by
  refine ((Most.count _).step (Most.wrN tokenK ((l.take 70000).map tkC))).mono ?_
  simp only [wide, List.foldr, Kd.n, List.length_map, List.length_take]
  omega

set_option maxHeartbeats 1000000 in
theorem rtokens_any {w : World} {p g : Nat} {st : Option (List UInt8)} (h : YSt w p g st) (ao : Option Addr) (cap : Nat) (l : List ByteArray) (hc : CAt w ao (tkV l)) (hsep : ∀ q off, ao = some ⟨q, off, none⟩ → 0 < l.length → q ≠ p ∧ q ≠ g) (hl : l.length ≤ 140737488355328) (Lm : Nat) (hL : Most st Lm) (hfit : Lm ≤ 2000000) :
    Calls Try.prog 56 #[.pointer (some ⟨p, 0, none⟩), .slice ao l.length cap] w fun e w' => e = .returned (.tuple #[]) ∧ YPuts p g (stepW st (wrT l)) w w' := by
  have HC := hide hc
  have HSP := hide hsep
  have HL := hide hL
  have hp := h.lt
  have R0 := hide (yCount h (fun bs e => by have := hL bs e; omega) (l.length : Int) (by omega))
  clear h hc hsep hL
  go_enter Try.func56, Try.ntmps56
  go_wp2_with fail
  refine (unhide R0).mono ?_
  rintro e w1 ⟨rfl, hP⟩
  have HP1 := hide hP
  clear hP R0
  go_wp2
  go_loopw [4] (fun iv wr => ∃ i : Nat, i ≤ l.length ∧ i ≤ 70000 ∧ iv = .int .i64 i ∧ Hid (YPuts p g (stepW (stepW st (wCount (l.length : Int))) (wrN tokenK ((l.take i).map tkC))) w wr)) (fun iv _ => 70000 - (intOf iv).toNat)
  case atStart =>
    refine ⟨0, Nat.zero_le _, Nat.zero_le _, rfl, ?_⟩
    have e : stepW (stepW st (wCount (l.length : Int))) (wrN tokenK ((l.take 0).map tkC)) = stepW st (wCount (l.length : Int)) := by simp [wrN, stepW_nil]
    rw [e]
    exact unhide HP1
  case round =>
    clear HP1
    obtain ⟨i, hi, hi2, rfl, HS⟩ := hrel
    by_cases hlt : i < l.length
    · by_cases h7 : i < 70000
      · obtain ⟨g2, hY, hF, hgg⟩ := unhide HS
        have hcat : CAt wr ao (tkV l) := (unhide HC).frame hF (fun q off e h0 => by
          have := unhide HSP q off e (by omega)
          omega)
        obtain ⟨q, off, rfl, hcell⟩ := cat_cell tkC 1 (fun _ => rfl) hcat hlt (by omega)
        obtain ⟨st1, Hst⟩ : ∃ st1, Hid (stepW (stepW st (wCount (l.length : Int))) (wrN tokenK ((l.take i).map tkC)) = st1) := ⟨_, rfl⟩
        have hM1 : Most st1 (Lm + 2 + 70000 * 8) := by
          rw [← unhide Hst]
          refine (((unhide HL).step (Most.count _)).step (Most.wrN _ _)).mono ?_
          simp only [wide, List.foldr, Kd.n, List.length_map, List.length_take]
          omega
        rw [unhide Hst] at hY
        have HNX : Hid (stepW (stepW st (wCount (l.length : Int))) (wrN tokenK ((l.take (i + 1)).map tkC)) = stepW st1 (wrL tokenK (tkC l[i]))) := hide (by
          rw [List.take_succ_eq_append_getElem hlt, List.map_append, List.map_cons, List.map_nil, wrN_snoc, ← stepW_assoc, unhide Hst])
        generalize l[i] = x at hcell HNX
        have e0 : wr.cell? ⟨q, off + i, none⟩ = some (.string x) := by have := hcell 0 (by omega); rw [Nat.mul_one] at this; exact this
        have R := hide (yFixed hY x 8 (fun bs e _ => by have := hM1 bs e; omega))
        have HW := hide (And.intro hF hgg)
        have H7 := hide (And.intro hi2 h7)
        have h7' : (i : Int) < 70000 := by omega
        clear hcat hcell hM1 hY hF hgg HS hi2 h7
        go_wp2_with fail
        refine (unhide R).mono ?_
        rintro e w2 ⟨rfl, hP⟩
        have HP2 : Hid (YPuts p g (stepW (stepW st (wCount (l.length : Int))) (wrN tokenK ((l.take (i + 1)).map tkC))) w w2) := hide (by
          rw [unhide HNX]
          obtain ⟨g3, k1, k2, k3⟩ := hP
          obtain ⟨hF, hgg⟩ := unhide HW
          have e1 : wrL tokenK (tkC x) = wFixed x 8 := by
            show stepW (wFixed x 8) (some []) = wFixed x 8
            exact stepW_nil _
          rw [e1]
          have := hF.size
          exact ⟨g3, k1, hF.trans k2 (fun _ _ t => by omega), by omega⟩)
        clear hP e0 R
        go_wp2
        exact ⟨⟨i + 1, by omega, by have := unhide H7; omega, by go_num, unhide HP2⟩, by have := unhide H7; simp [intOf]; omega⟩
      · obtain rfl : i = 70000 := by omega
        have HE : Hid (YPuts p g (stepW st (wrT l)) w wr) := hide (by have := unhide HS; rw [stepW_assoc] at this; exact this)
        clear HS
        go_wp2
        go_end0
        exact ⟨rfl, unhide HE⟩
    · obtain rfl : i = l.length := by omega
      have HE : Hid (YPuts p g (stepW st (wrT l)) w wr) := hide (by
        have h1 := unhide HS
        rw [stepW_assoc, List.take_length] at h1
        have e : wrT l = stepW (wCount (l.length : Int)) (wrN tokenK (l.map tkC)) := by unfold wrT; rw [List.take_of_length_le hi2]
        rw [e]
        exact h1)
      clear HS
      go_wp2
      go_end0
      exact ⟨rfl, unhide HE⟩

theorem delta_said (d : Dl) : ∀ ok, deltaOk d = ok → (deltaW d).1 = (if ok then (stepW (stepW (stepW (some []) (wNumber d.ver 8)) (wrT d.add)) (wrT d.gone)).getD [] else []) ∧ (deltaW d).2 = (if ok then codeOf (stepW (stepW (stepW (some []) (wNumber d.ver 8)) (wrT d.add)) (wrT d.gone)) else 80) := by
  intro ok hok
  unfold deltaW
  rw [hok]
  cases ok with
  | false => exact ⟨rfl, rfl⟩
  | true =>
    simp only [deltaOk, Bool.and_eq_true] at hok
    have h1 := listOk_len hok.1.1.2
    have h2 := listOk_len hok.1.2
    have e : deltaB d = stepW (stepW (stepW (some []) (wNumber d.ver 8)) (wrT d.add)) (wrT d.gone) := by
      unfold deltaB
      rw [wrT_small (by omega), wrT_small (by omega)]
      have : wrL (List.replicate 1 (Kd.num 8)) ([d.ver].map (Value.int .i64)) = wNumber d.ver 8 := by
        show stepW (wNumber d.ver 8) (some []) = _
        exact stepW_nil _
      rw [this]
    rw [e]
    exact ⟨rfl, rfl⟩

set_option maxHeartbeats 1000000 in
theorem refDelta_any (d : Dl) (w : World) (a1 : Option Addr) (c1 : Nat) (a2 : Option Addr) (c2 : Nat) (h : DIn w d a1 c1 a2 c2) : Calls Try.prog 20 #[.agg (dlC d a1 c1 a2 c2)] w (Wrote w (deltaW d).1 (deltaW d).2) := by
  have R := hide (fun (w' : World) (hf : Fr (fun _ => False) w w') => deltaRight_any d w' a1 c1 a2 c2 (cat_sat (h.add.keep hf)) (cat_sat (h.gone.keep hf)) h.l1 h.l2)
  have HI := hide h
  obtain ⟨ok, Hok⟩ : ∃ b, Hid (deltaOk d = b) := ⟨_, rfl⟩
  have hs := delta_said d ok (unhide Hok)
  rw [hs.1, hs.2]
  simp only [unhide Hok] at R
  clear hs h Hok
  unfold dlC at *
  obtain ⟨F1, HF1⟩ : ∃ F, Hid (F = if ok then (stepW (stepW (stepW (some []) (wNumber d.ver 8)) (wrT d.add)) (wrT d.gone)).getD [] else []) := ⟨_, rfl⟩
  obtain ⟨F2, HF2⟩ : ∃ F, Hid (F = if ok then codeOf (stepW (stepW (stepW (some []) (wNumber d.ver 8)) (wrT d.add)) (wrT d.gone)) else 80) := ⟨_, rfl⟩
  rw [← unhide HF1, ← unhide HF2]
  go_enter Try.func20, Try.ntmps20
  go_wp2_with fail
  have HB0 : Hid (YB ((w.alloc (.cells #[.int .i64 d.ver, .slice a1 d.add.length c1, .slice a2 d.gone.length c2] 41)).alloc (.cells #[.slice none 0 0, .bool false] 76)) (w.heap.size + 1) (w.heap.size + 1) w.heap.size (some []) #[.int .i64 d.ver, .slice a1 d.add.length c1, .slice a2 d.gone.length c2] 41) := hide (by
    have h := newY (w.alloc (.cells #[.int .i64 d.ver, .slice a1 d.add.length c1, .slice a2 d.gone.length c2] 41)) 76
    rw [heap_alloc] at h
    exact ⟨h, (Bx.new _ _ _).alloc _, by omega, by omega⟩)
  have HG0 : Hid (Fr (fun _ => False) w ((w.alloc (.cells #[.int .i64 d.ver, .slice a1 d.add.length c1, .slice a2 d.gone.length c2] 41)).alloc (.cells #[.slice none 0 0, .bool false] 76)) ∧ w.heap.size ≤ w.heap.size + 1 ∧ w.heap.size ≤ w.heap.size + 1) := hide ⟨((Fr.refl _ w).alloc _).alloc _, by omega, by omega⟩
  generalize (w.alloc (.cells #[.int .i64 d.ver, .slice a1 d.add.length c1, .slice a2 d.gone.length c2] 41)).alloc (.cells #[.slice none 0 0, .bool false] 76) = w0 at *
  obtain ⟨p, Hp⟩ : ∃ p, Hid (w.heap.size + 1 = p) := ⟨_, rfl⟩
  obtain ⟨B, HBb⟩ : ∃ p, Hid (w.heap.size = p) := ⟨_, rfl⟩
  rw [unhide Hp, unhide HBb] at HB0 HG0 ⊢
  have c0 : w0.cell? ⟨B, 0, none⟩ = some (.int .i64 d.ver) := (unhide HB0).x.cell 0
  go_wp2_with fail
  refine (yNumber (unhide HB0).s (fun bs e => by injection e with e; subst e; simp) d.ver 8 (unhide HI).ver).mono ?_
  rintro e w1 ⟨rfl, hP⟩
  obtain ⟨g1, hB, hg, hF⟩ := (unhide HB0).next hP
  have HB1 := hide hB
  have HM1 : Hid (Most (stepW (some []) (wNumber d.ver 8)) 8) := hide ((Most.nil.step (Most.kd (Kd.num 8) (.int .i64 d.ver))).mono (by simp [Kd.n]))
  have HG1 : Hid (Fr (fun _ => False) w w1 ∧ w.heap.size ≤ p ∧ w.heap.size ≤ g1) := hide (by
    obtain ⟨q1, q2, q3⟩ := unhide HG0
    have := q1.size
    exact ⟨q1.trans hF (fun _ hi t => by rw [← unhide HBb] at *; omega), by rw [← unhide HBb] at *; omega, by rw [← unhide HBb] at *; omega⟩)
  clear hB hg hF hP c0 HB0 HG0
  have c1' : w1.cell? ⟨B, 1, none⟩ = some (.slice a1 d.add.length c1) := (unhide HB1).x.cell 1
  go_wp2_with fail
  refine (rtokens_any (unhide HB1).s a1 c1 d.add ((unhide HI).add.keep (unhide HG1).1) (fun q off e h0 => by
    have h1 := (unhide HI).add.low q off e (by rw [tkV_length]; omega)
    have h2 := unhide HG1
    omega) (unhide HI).l1 8 (unhide HM1) (by omega)).mono ?_
  rintro e w2 ⟨rfl, hP⟩
  obtain ⟨g2, hB, hg, hF⟩ := (unhide HB1).next hP
  have HB2 := hide hB
  have HM2 : Hid (Most (stepW (stepW (some []) (wNumber d.ver 8)) (wrT d.add)) 700000) := hide (((unhide HM1).step (wrT_most _)).mono (by omega))
  have HG2 : Hid (Fr (fun _ => False) w w2 ∧ w.heap.size ≤ p ∧ w.heap.size ≤ g2) := hide (by
    obtain ⟨q1, q2, q3⟩ := unhide HG1
    have := q1.size
    exact ⟨q1.trans hF (fun _ hi t => by omega), by omega, by omega⟩)
  clear hB hg hF hP c1' HB1 HG1
  have c2' : w2.cell? ⟨B, 2, none⟩ = some (.slice a2 d.gone.length c2) := (unhide HB2).x.cell 2
  go_wp2_with fail
  refine (rtokens_any (unhide HB2).s a2 c2 d.gone ((unhide HI).gone.keep (unhide HG2).1) (fun q off e h0 => by
    have h1 := (unhide HI).gone.low q off e (by rw [tkV_length]; omega)
    have h2 := unhide HG2
    omega) (unhide HI).l2 700000 (unhide HM2) (by omega)).mono ?_
  rintro e w3 ⟨rfl, hP⟩
  obtain ⟨g3, hB, hg, hF⟩ := (unhide HB2).next hP
  have HB3 := hide hB
  have HM3 : Hid (Most (stepW (stepW (stepW (some []) (wNumber d.ver 8)) (wrT d.add)) (wrT d.gone)) 1400000) := hide (((unhide HM2).step (wrT_most _)).mono (by omega))
  have HG3 : Hid (Fr (fun _ => False) w w3 ∧ w.heap.size ≤ p ∧ w.heap.size ≤ g3) := hide (by
    obtain ⟨q1, q2, q3⟩ := unhide HG2
    have := q1.size
    exact ⟨q1.trans hF (fun _ hi t => by omega), by omega, by omega⟩)
  clear hB hg hF hP c2' HB2 HG2
  have c0 : w3.cell? ⟨B, 0, none⟩ = some (.int .i64 d.ver) := (unhide HB3).x.cell 0
  have c1' : w3.cell? ⟨B, 1, none⟩ = some (.slice a1 d.add.length c1) := (unhide HB3).x.cell 1
  have c2' : w3.cell? ⟨B, 2, none⟩ = some (.slice a2 d.gone.length c2) := (unhide HB3).x.cell 2
  go_wp2_with fail
  refine (unhide R _ (unhide HG3).1).mono ?_
  rintro e w7 ⟨rfl, hF7⟩
  have HY := hide ((unhide HB3).s.frame hF7 (fun t => t) (fun t => t))
  have HFq : Hid (Fr (fun _ => False) w w7) := hide ((unhide HG3).1.trans hF7 (fun _ _ t => t))
  clear hF7 c0 c1' c2'
  go_wp2_with fail
  refine (told_any (unhide HY) _ (unhide HM3) (by omega) ok).mono ?_
  rw [← unhide HF1, ← unhide HF2]
  rintro e w9 hWr
  obtain ⟨ao, cap, gb, rfl, h2⟩ := Wrote.later (unhide HFq) hWr
  have H4 := hide h2
  clear hWr h2
  go_wp2
  go_ret2
  exact ⟨ao, cap, gb, rfl, unhide H4⟩

set_option maxHeartbeats 1000000 in
theorem refOutages_any (l : List Otg) (w : World) (ao : Option Addr) (cap : Nat) (h : OIn w l ao cap) : Calls Try.prog 34 #[.slice ao l.length cap] w (Wrote w (outsW l).1 (outsW l).2) := by
  have R := hide (outagesRight_any w ao cap l h.row h.len)
  have HI := hide h
  obtain ⟨ok, Hok⟩ : ∃ b, Hid (outsOk l = b) := ⟨_, rfl⟩
  rw [unhide Hok] at R
  have hl := h.len
  clear h
  cases ok with
  | false =>
    have HA : Hid (outsW l = ([], 80)) := hide (by unfold outsW; rw [unhide Hok]; rfl)
    rw [unhide HA]
    clear HA HI Hok
    go_enter Try.func34, Try.ntmps34
    go_wp2_with fail
    refine (unhide R).mono ?_
    rintro e w1 ⟨rfl, hF⟩
    have HF := hide hF
    clear hF
    go_wp2
    go_ret2
    exact ⟨none, 0, 0, rfl, Row.nil _ _, fun h => absurd h (by omega), unhide HF⟩
  | true =>
    have HA : Hid (outsW l = ((outsB l).getD [], codeOf (outsB l))) := hide (by unfold outsW; rw [unhide Hok]; rfl)
    have HSM := hide (outs_small l (unhide Hok))
    have HM := hide (outsB_most l (unhide Hok))
    have hl2 : l.length ≤ 100 := by
      have := unhide Hok
      simp only [outsOk, Bool.and_eq_true, decide_eq_true_eq] at this
      exact this.1
    rw [unhide HA]
    obtain ⟨F1, HF1⟩ : ∃ F, Hid (F = (outsB l).getD []) := ⟨_, rfl⟩
    obtain ⟨F2, HF2⟩ : ∃ F, Hid (F = codeOf (outsB l)) := ⟨_, rfl⟩
    rw [← unhide HF1, ← unhide HF2]
    clear HA Hok
    go_enter Try.func34, Try.ntmps34
    go_wp2_with fail
    refine (unhide R).mono ?_
    rintro e w1 ⟨rfl, hF⟩
    have HG0 : Hid (Fr (fun _ => False) w (w1.alloc (.cells #[.slice none 0 0, .bool false] 76)) ∧ w.heap.size ≤ w1.heap.size) := hide ⟨hF.alloc _, hF.size⟩
    have HY0 : Hid (YSt (w1.alloc (.cells #[.slice none 0 0, .bool false] 76)) w1.heap.size w1.heap.size (some [])) := hide (newY w1 _)
    clear hF
    go_wp2_with fail
    generalize w1.alloc (.cells #[.slice none 0 0, .bool false] 76) = w0 at *
    generalize w1.heap.size = p at *
    refine (yCount (unhide HY0) (fun bs e => by injection e with e; subst e; simp) (l.length : Int) (by omega)).mono ?_
    rintro e w2 ⟨rfl, hP⟩
    have HP1 : Hid (∃ g, YSt w2 p g (stepW (some []) (wCount (l.length : Int))) ∧ Fr (fun _ => False) w w2 ∧ w.heap.size ≤ p ∧ w.heap.size ≤ g) := hide (by
      obtain ⟨g, k1, k2, k3⟩ := hP
      obtain ⟨q1, q2⟩ := unhide HG0
      have := q1.size
      exact ⟨g, k1, q1.trans k2 (fun _ hi t => by omega), by omega, by omega⟩)
    clear hP HY0 HG0
    go_wp2
    go_loopw [6] (fun iv wr => ∃ i : Nat, i ≤ l.length ∧ iv = .int .i64 i ∧ Hid (∃ g, YSt wr p g (stepW (stepW (some []) (wCount (l.length : Int))) (wrN outageK ((l.take i).map otC))) ∧ Fr (fun _ => False) w wr ∧ w.heap.size ≤ p ∧ w.heap.size ≤ g)) (fun iv _ => l.length - (intOf iv).toNat)
    case atStart =>
      refine ⟨0, Nat.zero_le _, rfl, ?_⟩
      have e : stepW (stepW (some []) (wCount (l.length : Int))) (wrN outageK ((l.take 0).map otC)) = stepW (some []) (wCount (l.length : Int)) := by simp [wrN, stepW_nil]
      rw [e]
      exact unhide HP1
    case round =>
      clear HP1
      obtain ⟨i, hi, rfl, HS⟩ := hrel
      by_cases hlt : i < l.length
      · obtain ⟨g2, hY, hF, hpp, hgg⟩ := unhide HS
        obtain ⟨q, off, rfl, e0, e1, e2⟩ := ((unhide HI).row.keep hF).ot hlt
        have hq : q < w.heap.size := (unhide HI).row.low q off rfl (by rw [otV_length]; omega)
        obtain ⟨st1, Hst⟩ : ∃ st1, Hid (stepW (stepW (some []) (wCount (l.length : Int))) (wrN outageK ((l.take i).map otC)) = st1) := ⟨_, rfl⟩
        have hM1 : Most st1 2000 := by
          rw [← unhide Hst]
          refine ((Most.nil.step (Most.count _)).step (Most.wrN _ _)).mono ?_
          simp only [wide, List.foldr, Kd.n, List.length_map, List.length_take]
          omega
        rw [unhide Hst] at hY
        have HNX : Hid (stepW (stepW (some []) (wCount (l.length : Int))) (wrN outageK ((l.take (i + 1)).map otC)) = stepW st1 (wrL outageK (otC l[i]))) := hide (by
          rw [List.take_succ_eq_append_getElem hlt, List.map_append, List.map_cons, List.map_nil, wrN_snoc, ← stepW_assoc, unhide Hst])
        obtain ⟨s0, s1, s2⟩ := unhide HSM l[i] (List.getElem_mem hlt)
        generalize l[i] = x at *
        obtain ⟨xs, xf, xt⟩ := x
        simp only at e0 e1 e2 s0 s1 s2
        have J1 := hide s1
        have J2 := hide s2
        have HM1 := hide hM1
        have HQ := hide (And.intro hq (And.intro hpp hgg))
        have HF := hide hF
        have R1 := hide (yNumber hY (fun bs e => by have := hM1 bs e; omega) xs 2 s0)
        have HK : Hid (∀ w', Fr (fun k => k = p ∨ k = g2 ∨ w.heap.size ≤ k) wr w' → w'.cell? ⟨q, off + i * 3 + 1, none⟩ = some (.int .i64 xf) ∧ w'.cell? ⟨q, off + i * 3 + 2, none⟩ = some (.int .i64 xt)) := hide (fun w' hf => ⟨(hf.cell (a := ⟨q, off + i * 3 + 1, none⟩) (World.block_lt_of_cell? _ _ e1) (fun t => by simp only at t; omega)).trans e1, (hf.cell (a := ⟨q, off + i * 3 + 2, none⟩) (World.block_lt_of_cell? _ _ e2) (fun t => by simp only at t; omega)).trans e2⟩)
        clear hY hF hpp hgg hq s0 s1 s2 hM1 HS e1 e2
        go_wp2_with fail
        refine (unhide R1).mono ?_
        rintro e wa ⟨rfl, g3, hYa, hFa, hga⟩
        obtain ⟨d1, d2⟩ := unhide HK wa (hFa.mono (fun _ _ t => by omega))
        have HFa : Hid (Fr (fun k => k = p ∨ k = g2 ∨ w.heap.size ≤ k) wr wa ∧ w.heap.size ≤ g3 ∧ wr.heap.size ≤ wa.heap.size) := hide ⟨hFa.mono (fun _ _ t => by omega), by have := unhide HQ; have := (unhide HF).size; omega, hFa.size⟩
        have HMa := hide ((unhide HM1).step (Most.kd (Kd.num 2) (.int .i64 xs)))
        have R2 := hide (yNumber hYa (fun bs e => by have := unhide HMa bs e; simp only [Kd.n] at this; omega) xf 4 (unhide J1))
        clear hYa hFa hga R1 e0 d2
        go_wp2_with fail
        refine (unhide R2).mono ?_
        rintro e wb ⟨rfl, g4, hYb, hFb, hgb⟩
        have HFb : Hid (Fr (fun k => k = p ∨ k = g2 ∨ w.heap.size ≤ k) wr wb ∧ w.heap.size ≤ g4 ∧ wr.heap.size ≤ wb.heap.size) := hide (by
          obtain ⟨f1, f2, f3⟩ := unhide HFa
          have := (unhide HF).size
          have := hFb.size
          exact ⟨f1.trans hFb (fun _ _ t => by omega), by omega, by omega⟩)
        obtain ⟨d3, d4⟩ := unhide HK wb (unhide HFb).1
        have HMb := hide ((unhide HMa).step (Most.kd (Kd.num 4) (.int .i64 xf)))
        have R3 := hide (yNumber hYb (fun bs e => by have := unhide HMb bs e; simp only [Kd.n] at this; omega) xt 4 (unhide J2))
        clear hYb hFb hgb R2 d1 d3
        go_wp2_with fail
        refine (unhide R3).mono ?_
        rintro e wc ⟨rfl, g5, hYc, hFc, hgc⟩
        have HP2 : Hid (∃ g, YSt wc p g (stepW (stepW (some []) (wCount (l.length : Int))) (wrN outageK ((l.take (i + 1)).map otC))) ∧ Fr (fun _ => False) w wc ∧ w.heap.size ≤ p ∧ w.heap.size ≤ g) := hide (by
          obtain ⟨f1, f2, f3⟩ := unhide HFb
          obtain ⟨q1, q2, q3⟩ := unhide HQ
          have := (unhide HF).size
          have e1 : wrL outageK (otC ⟨xs, xf, xt⟩) = stepW (wNumber xs 2) (stepW (wNumber xf 4) (wNumber xt 4)) := by
            show stepW (wNumber xs 2) (stepW (wNumber xf 4) (stepW (wNumber xt 4) (some []))) = _
            rw [stepW_nil]
          rw [unhide HNX, e1, ← stepW_assoc, ← stepW_assoc]
          exact ⟨g5, hYc, (unhide HF).trans (f1.trans (hFc.mono (T := fun k => k = p ∨ k = g2 ∨ w.heap.size ≤ k) (fun _ _ t => by omega)) (fun _ _ t => t)) (fun _ hi t => by omega), q2, by omega⟩)
        clear hYc hFc hgc R3 d4
        go_wp2
        exact ⟨⟨i + 1, by omega, by go_num, unhide HP2⟩, by simp [intOf]; omega⟩
      · obtain rfl : i = l.length := by omega
        obtain ⟨g2, hY, hF, hpp, hgg⟩ := unhide HS
        have e : outsB l = stepW (stepW (some []) (wCount (l.length : Int))) (wrN outageK ((l.take l.length).map otC)) := by
          rw [List.take_length, stepW_assoc]
          unfold outsB wrM
          rw [List.length_map]
        rw [← e] at hY
        have R2 := hide (ybytes hY 20000 (unhide HM) (by omega))
        have HF := hide hF
        clear hY hF hpp hgg HS e
        rw [← unhide HF1, ← unhide HF2] at R2
        go_wp2_with fail
        refine (unhide R2).mono ?_
        rintro e w9 hWr
        obtain ⟨ao', cap', gb, rfl, h2⟩ := Wrote.later (unhide HF) hWr
        have H4 := hide h2
        clear hWr h2 R2
        go_wp2
        go_ret2
        exact ⟨ao', cap', gb, rfl, unhide H4⟩

end Go.Proofs.Ytkjoojamkbpfcaa
