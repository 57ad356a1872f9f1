import Derived.Test.YtkjoojamkbpfcaaNO
import Derived.Test.YtkjoojamkbpfcaaG1
import Derived.Test.YtkjoojamkbpfcaaG2
/- The document's own answers: deltas, outages, written. -/
namespace Go.Proofs.Ytkjoojamkbpfcaa
open Go.RowKit

/-- What the document's own writing of tokens comes to. -/
def wrT (l : List ByteArray) : Option (List UInt8) := stepW (wCount (l.length : Int)) (wrN tokenK ((l.take 70000).map tkC))
theorem wrT_small {l : List ByteArray} (h : l.length ≤ 70000) : wrT l = wrM tokenK (l.map tkC) := by
  unfold wrT wrM
  rw [List.take_of_length_le h, List.length_map]
theorem wrT_most (l : List ByteArray) : Most (wrT l) 600000 := by
  refine ((Most.count _).step (Most.wrN tokenK ((l.take 70000).map tkC))).mono ?_
  simp only [wide, List.foldr, Kd.n, List.length_map, List.length_take]
  omega

set_option maxHeartbeats 1000000 in
theorem rtokens_any {w : World} {p g : Nat} {st : Option (List UInt8)} (h : YSt w p g st) (ao : Option Addr) (cap : Nat) (l : List ByteArray) (hc : CAt w ao (tkV l)) (hsep : ∀ q off, ao = some ⟨q, off, none⟩ → 0 < l.length → q ≠ p ∧ q ≠ g) (hl : l.length ≤ 140737488355328) (Lm : Nat) (hL : Most st Lm) (hfit : Lm ≤ 2000000) :
    Calls Try.prog 56 #[.pointer (some ⟨p, 0, none⟩), .slice ao l.length cap] w fun e w' => e = .returned (.tuple #[]) ∧ YPuts p g (stepW st (wrT l)) w w' := by
  have HC := hide hc
  have HSP := hide hsep
  have HL := hide hL
  have hp := h.lt
  have R0 := hide (yCount h (fun bs e => by have := hL bs e; omega) (l.length : Int) (by omega))
  clear h hc hsep hL
  go_enter Try.func56, Try.ntmps56
  go_wp2_with fail
  refine (unhide R0).mono ?_
  rintro e w1 ⟨rfl, hP⟩
  have HP1 := hide hP
  clear hP R0
  go_wp2
  go_loopw [4] (fun iv wr => ∃ i : Nat, i ≤ l.length ∧ i ≤ 70000 ∧ iv = .int .i64 i ∧ Hid (YPuts p g (stepW (stepW st (wCount (l.length : Int))) (wrN tokenK ((l.take i).map tkC))) w wr)) (fun iv _ => 70000 - (intOf iv).toNat)
  case atStart =>
    refine ⟨0, Nat.zero_le _, Nat.zero_le _, rfl, ?_⟩
    have e : stepW (stepW st (wCount (l.length : Int))) (wrN tokenK ((l.take 0).map tkC)) = stepW st (wCount (l.length : Int)) := by simp [wrN, stepW_nil]
    rw [e]
    exact unhide HP1
  case round =>
    clear HP1
    obtain ⟨i, hi, hi2, rfl, HS⟩ := hrel
    by_cases hlt : i < l.length
    · by_cases h7 : i < 70000
      · obtain ⟨g2, hY, hF, hgg⟩ := unhide HS
        have hcat : CAt wr ao (tkV l) := (unhide HC).frame hF (fun q off e h0 => by
          have := unhide HSP q off e (by omega)
          omega)
        obtain ⟨q, off, rfl, hcell⟩ := cat_cell tkC 1 (fun _ => rfl) hcat hlt (by omega)
        obtain ⟨st1, Hst⟩ : ∃ st1, Hid (stepW (stepW st (wCount (l.length : Int))) (wrN tokenK ((l.take i).map tkC)) = st1) := ⟨_, rfl⟩
        have hM1 : Most st1 (Lm + 2 + 70000 * 8) := by
          rw [← unhide Hst]
          refine (((unhide HL).step (Most.count _)).step (Most.wrN _ _)).mono ?_
          simp only [wide, List.foldr, Kd.n, List.length_map, List.length_take]
          omega
        rw [unhide Hst] at hY
        have HNX : Hid (stepW (stepW st (wCount (l.length : Int))) (wrN tokenK ((l.take (i + 1)).map tkC)) = stepW st1 (wrL tokenK (tkC l[i]))) := hide (by
          rw [List.take_succ_eq_append_getElem hlt, List.map_append, List.map_cons, List.map_nil, wrN_snoc, ← stepW_assoc, unhide Hst])
        generalize l[i] = x at hcell HNX
        have e0 : wr.cell? ⟨q, off + i, none⟩ = some (.string x) := by have := hcell 0 (by omega); rw [Nat.mul_one] at this; exact this
        have R := hide (yFixed hY x 8 (fun bs e _ => by have := hM1 bs e; omega))
        have HW := hide (And.intro hF hgg)
        have H7 := hide (And.intro hi2 h7)
        have h7' : (i : Int) < 70000 := by omega
        clear hcat hcell hM1 hY hF hgg HS hi2 h7
        go_wp2_with fail
        refine (unhide R).mono ?_
        rintro e w2 ⟨rfl, hP⟩
        have HP2 : Hid (YPuts p g (stepW (stepW st (wCount (l.length : Int))) (wrN tokenK ((l.take (i + 1)).map tkC))) w w2) := hide (by
          rw [unhide HNX]
          obtain ⟨g3, k1, k2, k3⟩ := hP
          obtain ⟨hF, hgg⟩ := unhide HW
          have e1 : wrL tokenK (tkC x) = wFixed x 8 := by
            show stepW (wFixed x 8) (some []) = wFixed x 8
            exact stepW_nil _
          rw [e1]
          have := hF.size
          exact ⟨g3, k1, hF.trans k2 (fun _ _ t => by omega), by omega⟩)
        clear hP e0 R
        go_wp2
        exact ⟨⟨i + 1, by omega, by have := unhide H7; omega, by go_num, unhide HP2⟩, by have := unhide H7; simp [intOf]; omega⟩
      · obtain rfl : i = 70000 := by omega
        have HE : Hid (YPuts p g (stepW st (wrT l)) w wr) := hide (by have := unhide HS; rw [stepW_assoc] at this; exact this)
        clear HS
        go_wp2
        go_end0
        exact ⟨rfl, unhide HE⟩
    · obtain rfl : i = l.length := by omega
      have HE : Hid (YPuts p g (stepW st (wrT l)) w wr) := hide (by
        have h1 := unhide HS
        rw [stepW_assoc, List.take_length] at h1
        have e : wrT l = stepW (wCount (l.length : Int)) (wrN tokenK (l.map tkC)) := by unfold wrT; rw [List.take_of_length_le hi2]
        rw [e]
        exact h1)
      clear HS
      go_wp2
      go_end0
      exact ⟨rfl, unhide HE⟩

theorem delta_said (d : Dl) : ∀ ok, deltaOk d = ok → (deltaW d).1 = (if ok then (stepW (stepW (stepW (some []) (wNumber d.ver 8)) (wrT d.add)) (wrT d.gone)).getD [] else []) ∧ (deltaW d).2 = (if ok then codeOf (stepW (stepW (stepW (some []) (wNumber d.ver 8)) (wrT d.add)) (wrT d.gone)) else 80) := by
  intro ok hok
  unfold deltaW
  rw [hok]
  cases ok with
  | false => exact ⟨rfl, rfl⟩
  | true =>
    simp only [deltaOk, Bool.and_eq_true] at hok
    have h1 := listOk_len hok.1.1.2
    have h2 := listOk_len hok.1.2
    have e : deltaB d = stepW (stepW (stepW (some []) (wNumber d.ver 8)) (wrT d.add)) (wrT d.gone) := by
      unfold deltaB
      rw [wrT_small (by omega), wrT_small (by omega)]
      have : wrL (List.replicate 1 (Kd.num 8)) ([d.ver].map (Value.int .i64)) = wNumber d.ver 8 := by
        show stepW (wNumber d.ver 8) (some []) = _
        exact stepW_nil _
      rw [this]
    rw [e]
    exact ⟨rfl, rfl⟩

set_option maxHeartbeats 1000000 in
theorem refDelta_any (d : Dl) (w : World) (a1 : Option Addr) (c1 : Nat) (a2 : Option Addr) (c2 : Nat) (h : DIn w d a1 c1 a2 c2) : Calls Try.prog 20 #[.agg (dlC d a1 c1 a2 c2)] w (Wrote w (deltaW d).1 (deltaW d).2) := by
  have R := hide (fun (w' : World) (hf : Fr (fun _ => False) w w') => deltaRight_any d w' a1 c1 a2 c2 (cat_sat (h.add.keep hf)) (cat_sat (h.gone.keep hf)) h.l1 h.l2)
  have HI := hide h
  obtain ⟨ok, Hok⟩ : ∃ b, Hid (deltaOk d = b) := ⟨_, rfl⟩
  have hs := delta_said d ok (unhide Hok)
  rw [hs.1, hs.2]
  simp only [unhide Hok] at R
  clear hs h Hok
  unfold dlC at *
  obtain ⟨F1, HF1⟩ : ∃ F, Hid (F = if ok then (stepW (stepW (stepW (some []) (wNumber d.ver 8)) (wrT d.add)) (wrT d.gone)).getD [] else []) := ⟨_, rfl⟩
  obtain ⟨F2, HF2⟩ : ∃ F, Hid (F = if ok then codeOf (stepW (stepW (stepW (some []) (wNumber d.ver 8)) (wrT d.add)) (wrT d.gone)) else 80) := ⟨_, rfl⟩
  rw [← unhide HF1, ← unhide HF2]
  go_enter Try.func20, Try.ntmps20
  go_wp2_with fail
  have HB0 : Hid (YB ((w.alloc (.cells #[.int .i64 d.ver, .slice a1 d.add.length c1, .slice a2 d.gone.length c2] 41)).alloc (.cells #[.slice none 0 0, .bool false] 76)) (w.heap.size + 1) (w.heap.size + 1) w.heap.size (some []) #[.int .i64 d.ver, .slice a1 d.add.length c1, .slice a2 d.gone.length c2] 41) := hide (by
    have h := newY (w.alloc (.cells #[.int .i64 d.ver, .slice a1 d.add.length c1, .slice a2 d.gone.length c2] 41)) 76
    rw [heap_alloc] at h
    exact ⟨h, (Bx.new _ _ _).alloc _, by omega, by omega⟩)
  have HG0 : Hid (Fr (fun _ => False) w ((w.alloc (.cells #[.int .i64 d.ver, .slice a1 d.add.length c1, .slice a2 d.gone.length c2] 41)).alloc (.cells #[.slice none 0 0, .bool false] 76)) ∧ w.heap.size ≤ w.heap.size + 1 ∧ w.heap.size ≤ w.heap.size + 1) := hide ⟨((Fr.refl _ w).alloc _).alloc _, by omega, by omega⟩
  generalize (w.alloc (.cells #[.int .i64 d.ver, .slice a1 d.add.length c1, .slice a2 d.gone.length c2] 41)).alloc (.cells #[.slice none 0 0, .bool false] 76) = w0 at *
  obtain ⟨p, Hp⟩ : ∃ p, Hid (w.heap.size + 1 = p) := ⟨_, rfl⟩
  obtain ⟨B, HBb⟩ : ∃ p, Hid (w.heap.size = p) := ⟨_, rfl⟩
  rw [unhide Hp, unhide HBb] at HB0 HG0 ⊢
  have c0 : w0.cell? ⟨B, 0, none⟩ = some (.int .i64 d.ver) := (unhide HB0).x.cell 0
  go_wp2_with fail
  refine (yNumber (unhide HB0).s (fun bs e => by injection e with e; subst e; simp) d.ver 8 (unhide HI).ver).mono ?_
  rintro e w1 ⟨rfl, hP⟩
  obtain ⟨g1, hB, hg, hF⟩ := (unhide HB0).next hP
  have HB1 := hide hB
  have HM1 : Hid (Most (stepW (some []) (wNumber d.ver 8)) 8) := hide ((Most.nil.step (Most.kd (Kd.num 8) (.int .i64 d.ver))).mono (by simp [Kd.n]))
  have HG1 : Hid (Fr (fun _ => False) w w1 ∧ w.heap.size ≤ p ∧ w.heap.size ≤ g1) := hide (by
    obtain ⟨q1, q2, q3⟩ := unhide HG0
    have := q1.size
    exact ⟨q1.trans hF (fun _ hi t => by rw [← unhide HBb] at *; omega), by rw [← unhide HBb] at *; omega, by rw [← unhide HBb] at *; omega⟩)
  clear hB hg hF hP c0 HB0 HG0
  have c1' : w1.cell? ⟨B, 1, none⟩ = some (.slice a1 d.add.length c1) := (unhide HB1).x.cell 1
  go_wp2_with fail
  refine (rtokens_any (unhide HB1).s a1 c1 d.add ((unhide HI).add.keep (unhide HG1).1) (fun q off e h0 => by
    have h1 := (unhide HI).add.low q off e (by rw [tkV_length]; omega)
    have h2 := unhide HG1
    omega) (unhide HI).l1 8 (unhide HM1) (by omega)).mono ?_
  rintro e w2 ⟨rfl, hP⟩
  obtain ⟨g2, hB, hg, hF⟩ := (unhide HB1).next hP
  have HB2 := hide hB
  have HM2 : Hid (Most (stepW (stepW (some []) (wNumber d.ver 8)) (wrT d.add)) 700000) := hide (((unhide HM1).step (wrT_most _)).mono (by omega))
  have HG2 : Hid (Fr (fun _ => False) w w2 ∧ w.heap.size ≤ p ∧ w.heap.size ≤ g2) := hide (by
    obtain ⟨q1, q2, q3⟩ := unhide HG1
    have := q1.size
    exact ⟨q1.trans hF (fun _ hi t => by omega), by omega, by omega⟩)
  clear hB hg hF hP c1' HB1 HG1
  have c2' : w2.cell? ⟨B, 2, none⟩ = some (.slice a2 d.gone.length c2) := (unhide HB2).x.cell 2
  go_wp2_with fail
  refine (rtokens_any (unhide HB2).s a2 c2 d.gone ((unhide HI).gone.keep (unhide HG2).1) (fun q off e h0 => by
    have h1 := (unhide HI).gone.low q off e (by rw [tkV_length]; omega)
    have h2 := unhide HG2
    omega) (unhide HI).l2 700000 (unhide HM2) (by omega)).mono ?_
  rintro e w3 ⟨rfl, hP⟩
  obtain ⟨g3, hB, hg, hF⟩ := (unhide HB2).next hP
  have HB3 := hide hB
  have HM3 : Hid (Most (stepW (stepW (stepW (some []) (wNumber d.ver 8)) (wrT d.add)) (wrT d.gone)) 1400000) := hide (((unhide HM2).step (wrT_most _)).mono (by omega))
  have HG3 : Hid (Fr (fun _ => False) w w3 ∧ w.heap.size ≤ p ∧ w.heap.size ≤ g3) := hide (by
    obtain ⟨q1, q2, q3⟩ := unhide HG2
    have := q1.size
    exact ⟨q1.trans hF (fun _ hi t => by omega), by omega, by omega⟩)
  clear hB hg hF hP c2' HB2 HG2
  have c0 : w3.cell? ⟨B, 0, none⟩ = some (.int .i64 d.ver) := (unhide HB3).x.cell 0
  have c1' : w3.cell? ⟨B, 1, none⟩ = some (.slice a1 d.add.length c1) := (unhide HB3).x.cell 1
  have c2' : w3.cell? ⟨B, 2, none⟩ = some (.slice a2 d.gone.length c2) := (unhide HB3).x.cell 2
  go_wp2_with fail
  refine (unhide R _ (unhide HG3).1).mono ?_
  rintro e w7 ⟨rfl, hF7⟩
  have HY := hide ((unhide HB3).s.frame hF7 (fun t => t) (fun t => t))
  have HFq : Hid (Fr (fun _ => False) w w7) := hide ((unhide HG3).1.trans hF7 (fun _ _ t => t))
  clear hF7 c0 c1' c2'
  go_wp2_with fail
  refine (told_any (unhide HY) _ (unhide HM3) (by omega) ok).mono ?_
  rw [← unhide HF1, ← unhide HF2]
  rintro e w9 hWr
  obtain ⟨ao, cap, gb, rfl, h2⟩ := Wrote.later (unhide HFq) hWr
  have H4 := hide h2
  clear hWr h2
  go_wp2
  go_ret2
  exact ⟨ao, cap, gb, rfl, unhide H4⟩

set_option maxHeartbeats 1000000 in
theorem refOutages_any (l : List Otg) (w : World) (ao : Option Addr) (cap : Nat) (h : OIn w l ao cap) : Calls Try.prog 34 #[.slice ao l.length cap] w (Wrote w (outsW l).1 (outsW l).2) := by
  have R := hide (outagesRight_any w ao cap l h.row h.len)
  have HI := hide h
  obtain ⟨ok, Hok⟩ : ∃ b, Hid (outsOk l = b) := ⟨_, rfl⟩
  rw [unhide Hok] at R
  have hl := h.len
  clear h
  cases ok with
  | false =>
    have HA : Hid (outsW l = ([], 80)) := hide (by unfold outsW; rw [unhide Hok]; rfl)
    rw [unhide HA]
    clear HA HI Hok
    go_enter Try.func34, Try.ntmps34
    go_wp2_with fail
    refine (unhide R).mono ?_
    rintro e w1 ⟨rfl, hF⟩
    have HF := hide hF
    clear hF
    go_wp2
    go_ret2
    exact ⟨none, 0, 0, rfl, Row.nil _ _, fun h => absurd h (by omega), unhide HF⟩
  | true =>
    have HA : Hid (outsW l = ((outsB l).getD [], codeOf (outsB l))) := hide (by unfold outsW; rw [unhide Hok]; rfl)
    have HSM := hide (outs_small l (unhide Hok))
    have HM := hide (outsB_most l (unhide Hok))
    have hl2 : l.length ≤ 100 := by
      have := unhide Hok
      simp only [outsOk, Bool.and_eq_true, decide_eq_true_eq] at this
      exact this.1
    rw [unhide HA]
    obtain ⟨F1, HF1⟩ : ∃ F, Hid (F = (outsB l).getD []) := ⟨_, rfl⟩
    obtain ⟨F2, HF2⟩ : ∃ F, Hid (F = codeOf (outsB l)) := ⟨_, rfl⟩
    rw [← unhide HF1, ← unhide HF2]
    clear HA Hok
    go_enter Try.func34, Try.ntmps34
    go_wp2_with fail
    refine (unhide R).mono ?_
    rintro e w1 ⟨rfl, hF⟩
    have HG0 : Hid (Fr (fun _ => False) w (w1.alloc (.cells #[.slice none 0 0, .bool false] 76)) ∧ w.heap.size ≤ w1.heap.size) := hide ⟨hF.alloc _, hF.size⟩
    have HY0 : Hid (YSt (w1.alloc (.cells #[.slice none 0 0, .bool false] 76)) w1.heap.size w1.heap.size (some [])) := hide (newY w1 _)
    clear hF
    go_wp2_with fail
    generalize w1.alloc (.cells #[.slice none 0 0, .bool false] 76) = w0 at *
    generalize w1.heap.size = p at *
    refine (yCount (unhide HY0) (fun bs e => by injection e with e; subst e; simp) (l.length : Int) (by omega)).mono ?_
    rintro e w2 ⟨rfl, hP⟩
    have HP1 : Hid (∃ g, YSt w2 p g (stepW (some []) (wCount (l.length : Int))) ∧ Fr (fun _ => False) w w2 ∧ w.heap.size ≤ p ∧ w.heap.size ≤ g) := hide (by
      obtain ⟨g, k1, k2, k3⟩ := hP
      obtain ⟨q1, q2⟩ := unhide HG0
      have := q1.size
      exact ⟨g, k1, q1.trans k2 (fun _ hi t => by omega), by omega, by omega⟩)
    clear hP HY0 HG0
    go_wp2
    go_loopw [6] (fun iv wr => ∃ i : Nat, i ≤ l.length ∧ iv = .int .i64 i ∧ Hid (∃ g, YSt wr p g (stepW (stepW (some []) (wCount (l.length : Int))) (wrN outageK ((l.take i).map otC))) ∧ Fr (fun _ => False) w wr ∧ w.heap.size ≤ p ∧ w.heap.size ≤ g)) (fun iv _ => l.length - (intOf iv).toNat)
    case atStart =>
      refine ⟨0, Nat.zero_le _, rfl, ?_⟩
      have e : stepW (stepW (some []) (wCount (l.length : Int))) (wrN outageK ((l.take 0).map otC)) = stepW (some []) (wCount (l.length : Int)) := by simp [wrN, stepW_nil]
      rw [e]
      exact unhide HP1
    case round =>
      clear HP1
      obtain ⟨i, hi, rfl, HS⟩ := hrel
      by_cases hlt : i < l.length
      · obtain ⟨g2, hY, hF, hpp, hgg⟩ := unhide HS
        obtain ⟨q, off, rfl, e0, e1, e2⟩ := ((unhide HI).row.keep hF).ot hlt
        have hq : q < w.heap.size := (unhide HI).row.low q off rfl (by rw [otV_length]; omega)
        obtain ⟨st1, Hst⟩ : ∃ st1, Hid (stepW (stepW (some []) (wCount (l.length : Int))) (wrN outageK ((l.take i).map otC)) = st1) := ⟨_, rfl⟩
        have hM1 : Most st1 2000 := by
          rw [← unhide Hst]
          refine ((Most.nil.step (Most.count _)).step (Most.wrN _ _)).mono ?_
          simp only [wide, List.foldr, Kd.n, List.length_map, List.length_take]
          omega
        rw [unhide Hst] at hY
        have HNX : Hid (stepW (stepW (some []) (wCount (l.length : Int))) (wrN outageK ((l.take (i + 1)).map otC)) = stepW st1 (wrL outageK (otC l[i]))) := hide (by
          rw [List.take_succ_eq_append_getElem hlt, List.map_append, List.map_cons, List.map_nil, wrN_snoc, ← stepW_assoc, unhide Hst])
        obtain ⟨s0, s1, s2⟩ := unhide HSM l[i] (List.getElem_mem hlt)
        generalize l[i] = x at *
        obtain ⟨xs, xf, xt⟩ := x
        simp only at e0 e1 e2 s0 s1 s2
        have J1 := hide s1
        have J2 := hide s2
        have HM1 := hide hM1
        have HQ := hide (And.intro hq (And.intro hpp hgg))
        have HF := hide hF
        have R1 := hide (yNumber hY (fun bs e => by have := hM1 bs e; omega) xs 2 s0)
        have HK : Hid (∀ w', Fr (fun k => k = p ∨ k = g2 ∨ w.heap.size ≤ k) wr w' → w'.cell? ⟨q, off + i * 3 + 1, none⟩ = some (.int .i64 xf) ∧ w'.cell? ⟨q, off + i * 3 + 2, none⟩ = some (.int .i64 xt)) := hide (fun w' hf => ⟨(hf.cell (a := ⟨q, off + i * 3 + 1, none⟩) (World.block_lt_of_cell? _ _ e1) (fun t => by simp only at t; omega)).trans e1, (hf.cell (a := ⟨q, off + i * 3 + 2, none⟩) (World.block_lt_of_cell? _ _ e2) (fun t => by simp only at t; omega)).trans e2⟩)
        clear hY hF hpp hgg hq s0 s1 s2 hM1 HS e1 e2
        go_wp2_with fail
        refine (unhide R1).mono ?_
        rintro e wa ⟨rfl, g3, hYa, hFa, hga⟩
        obtain ⟨d1, d2⟩ := unhide HK wa (hFa.mono (fun _ _ t => by omega))
        have HFa : Hid (Fr (fun k => k = p ∨ k = g2 ∨ w.heap.size ≤ k) wr wa ∧ w.heap.size ≤ g3 ∧ wr.heap.size ≤ wa.heap.size) := hide ⟨hFa.mono (fun _ _ t => by omega), by have := unhide HQ; have := (unhide HF).size; omega, hFa.size⟩
        have HMa := hide ((unhide HM1).step (Most.kd (Kd.num 2) (.int .i64 xs)))
        have R2 := hide (yNumber hYa (fun bs e => by have := unhide HMa bs e; simp only [Kd.n] at this; omega) xf 4 (unhide J1))
        clear hYa hFa hga R1 e0 d2
        go_wp2_with fail
        refine (unhide R2).mono ?_
        rintro e wb ⟨rfl, g4, hYb, hFb, hgb⟩
        have HFb : Hid (Fr (fun k => k = p ∨ k = g2 ∨ w.heap.size ≤ k) wr wb ∧ w.heap.size ≤ g4 ∧ wr.heap.size ≤ wb.heap.size) := hide (by
          obtain ⟨f1, f2, f3⟩ := unhide HFa
          have := (unhide HF).size
          have := hFb.size
          exact ⟨f1.trans hFb (fun _ _ t => by omega), by omega, by omega⟩)
        obtain ⟨d3, d4⟩ := unhide HK wb (unhide HFb).1
        have HMb := hide ((unhide HMa).step (Most.kd (Kd.num 4) (.int .i64 xf)))
        have R3 := hide (yNumber hYb (fun bs e => by have := unhide HMb bs e; simp only [Kd.n] at this; omega) xt 4 (unhide J2))
        clear hYb hFb hgb R2 d1 d3
        go_wp2_with fail
        refine (unhide R3).mono ?_
        rintro e wc ⟨rfl, g5, hYc, hFc, hgc⟩
        have HP2 : Hid (∃ g, YSt wc p g (stepW (stepW (some []) (wCount (l.length : Int))) (wrN outageK ((l.take (i + 1)).map otC))) ∧ Fr (fun _ => False) w wc ∧ w.heap.size ≤ p ∧ w.heap.size ≤ g) := hide (by
          obtain ⟨f1, f2, f3⟩ := unhide HFb
          obtain ⟨q1, q2, q3⟩ := unhide HQ
          have := (unhide HF).size
          have e1 : wrL outageK (otC ⟨xs, xf, xt⟩) = stepW (wNumber xs 2) (stepW (wNumber xf 4) (wNumber xt 4)) := by
            show stepW (wNumber xs 2) (stepW (wNumber xf 4) (stepW (wNumber xt 4) (some []))) = _
            rw [stepW_nil]
          rw [unhide HNX, e1, ← stepW_assoc, ← stepW_assoc]
          exact ⟨g5, hYc, (unhide HF).trans (f1.trans (hFc.mono (T := fun k => k = p ∨ k = g2 ∨ w.heap.size ≤ k) (fun _ _ t => by omega)) (fun _ _ t => t)) (fun _ hi t => by omega), q2, by omega⟩)
        clear hYc hFc hgc R3 d4
        go_wp2
        exact ⟨⟨i + 1, by omega, by go_num, unhide HP2⟩, by simp [intOf]; omega⟩
      · obtain rfl : i = l.length := by omega
        obtain ⟨g2, hY, hF, hpp, hgg⟩ := unhide HS
        have e : outsB l = stepW (stepW (some []) (wCount (l.length : Int))) (wrN outageK ((l.take l.length).map otC)) := by
          rw [List.take_length, stepW_assoc]
          unfold outsB wrM
          rw [List.length_map]
        rw [← e] at hY
        have R2 := hide (ybytes hY 20000 (unhide HM) (by omega))
        have HF := hide hF
        clear hY hF hpp hgg HS e
        rw [← unhide HF1, ← unhide HF2] at R2
        go_wp2_with fail
        refine (unhide R2).mono ?_
        rintro e w9 hWr
        obtain ⟨ao', cap', gb, rfl, h2⟩ := Wrote.later (unhide HF) hWr
        have H4 := hide h2
        clear hWr h2 R2
        go_wp2
        go_ret2
        exact ⟨ao', cap', gb, rfl, unhide H4⟩

end Go.Proofs.Ytkjoojamkbpfcaa

/- The document's own readings: lists of tokens, deltas. -/
namespace Go.Proofs.Ytkjoojamkbpfcaa
open Go.RowKit

theorem XAt.frame2 {S : Nat → Prop} {w w' : World} {p : Nat} {ao : Option Addr} {cap : Nat} {bs : List UInt8} {s : RS} (h : XAt w p ao cap bs s) (hf : Fr S w w') (hp : ¬ S p) (hr : ∀ b off, ao = some ⟨b, off, none⟩ → 0 < bs.length → ¬ S b) : XAt w' p ao cap bs s :=
  h.stay (hf.block p h.lt hp) (fun b off e h0 hb => hf.block b hb (hr b off e h0))

/-- A list that the document's reader is reading: the reader, the row. -/
structure XL (w wr : World) (p : Nat) (ao : Option Addr) (cap : Nat) (bs : List UInt8) (s : RS) (la : Option Addr) (lc gl k : Nat) (vs : List Value) : Prop where
  r : XAt wr p ao cap bs s
  l : KL w wr la lc gl k vs
  fr : Fr (· = p) w wr
  pl : p < w.heap.size
  rl : ∀ b off, ao = some ⟨b, off, none⟩ → 0 < bs.length → b < w.heap.size

theorem XL.read {w wr w' : World} {p : Nat} {ao : Option Addr} {cap : Nat} {bs : List UInt8} {s s' : RS} {la : Option Addr} {lc gl k : Nat} {vs : List Value} (h : XL w wr p ao cap bs s la lc gl k vs) (hk : 0 < k) (hr : XAt w' p ao cap bs s') (hf : Fr (· = p) wr w') : XL w w' p ao cap bs s' la lc gl k vs :=
  ⟨hr, h.l.go hk hf (fun q hq => by have := h.pl; omega), h.fr.trans hf (fun _ _ t => t), h.pl, h.rl⟩

theorem XL.keep {w wr w' : World} {p : Nat} {ao : Option Addr} {cap : Nat} {bs : List UInt8} {s : RS} {la : Option Addr} {lc gl k : Nat} {vs : List Value} (h : XL w wr p ao cap bs s la lc gl k vs) (hk : 0 < k) (hf : Fr (fun _ => False) wr w') : XL w w' p ao cap bs s la lc gl k vs :=
  ⟨h.r.frame2 hf (fun t => t) (fun _ _ _ _ t => t), h.l.go hk hf (fun _ hq => hq.elim), h.fr.trans hf (fun _ _ t => t.elim), h.pl, h.rl⟩

theorem XL.app {w wr w2 : World} {p : Nat} {ao : Option Addr} {cap : Nat} {bs : List UInt8} {s : RS} {la la' : Option Addr} {lc gl lc' gl' k : Nat} {vs news : List Value} (h : XL w wr p ao cap bs s la lc gl k vs) (hr : KRow w2 la' lc' gl' k (vs ++ news)) (hg : Grew wr gl lc w2 gl' lc') : XL w w2 p ao cap bs s la' lc' gl' k (vs ++ news) := by
  have h1 := h.fr.size
  have h2 := h.pl
  have hF : Fr (fun q => q = gl ∧ 0 < lc) wr w2 := by
    rcases hg with ⟨_, _, hf⟩ | ⟨_, _, hf⟩
    · exact hf
    · exact hf.mono (fun _ _ t => t.elim)
  have hn : 0 < lc' → w.heap.size ≤ gl' := by
    intro hc
    rcases hg with ⟨e1, e2, _⟩ | ⟨e1, _, _⟩
    · rw [e1]; exact h.l.new (by omega)
    · omega
  refine ⟨h.r.frame2 hF (fun t => by have := h.l.new t.2; omega) (fun b off e h0 t => by have := h.l.new t.2; have := h.rl b off e h0; omega), ⟨hr, hn⟩, ?_, h2, h.rl⟩
  exact h.fr.trans hF (fun q hq t => by have := h.l.new t.2; omega)

set_option maxHeartbeats 1000000 in
theorem readTokens_any {w : World} {p : Nat} {ao : Option Addr} {cap : Nat} {bs : List UInt8} {s : RS} (h : XAt w p ao cap bs s) :
    Calls Try.prog 59 #[.pointer (some ⟨p, 0, none⟩)] w fun e w' => ∃ la lc gl, e = .returned (.slice la (rdM bs 1000 tokenK s).1.length lc) ∧ XL w w' p ao cap bs (rdM bs 1000 tokenK s).2 la lc gl 1 (rdM bs 1000 tokenK s).1.flatten := by
  obtain ⟨info, hi, hzz⟩ := Option.map_eq_some_iff.1 Token_info
  simp only [Prod.mk.injEq] at hzz
  have HI := hide (And.intro hi hzz)
  have R0 := hide (xCount h 1000)
  have HPL := hide (And.intro h.lt (fun (b off : Nat) (e : ao = some ⟨b, off, none⟩) (h0 : 0 < bs.length) => h.rowlt e h0))
  clear hi hzz h
  obtain ⟨C, HC⟩ : ∃ C, Hid (cntR bs 1000 s = C) := ⟨_, rfl⟩
  have hC : stepR s (.int .i64 0) (oCount bs s.a 1000) = C := unhide HC
  rw [hC] at R0
  clear hC
  have hc1 := (cnt_spec bs 1000 s).1
  have hcm := (cnt_spec bs 1000 s).2
  obtain ⟨c, Hc⟩ : ∃ c, Hid (cnt bs 1000 s = c) := ⟨_, rfl⟩
  rw [unhide HC, unhide Hc] at hc1
  rw [unhide Hc] at hcm
  have HM : Hid (rdM bs 1000 tokenK s = rdN bs tokenK c C.2) := hide (by unfold rdM; rw [unhide HC, unhide Hc])
  rw [unhide HM]
  unfold XDone at R0
  rw [hc1] at R0
  clear hc1
  go_enter Try.func59, Try.ntmps59
  go_wp2_with fail
  refine (unhide R0).mono ?_
  rintro e w1 ⟨rfl, hR, hF⟩
  have HL : Hid (XL w w1 p ao cap bs C.2 none 0 0 1 []) := hide ⟨hR, KL.none _ _ _ _, hF, (unhide HPL).1, (unhide HPL).2⟩
  clear hR hF R0
  go_wp2
  go_loopw [4, 5, 6] (fun lv iv _ wr => ∃ i : Nat, i ≤ c ∧ iv = .int .i64 i ∧ ∃ la lc gl, lv = .slice la i lc ∧ Hid (XL w wr p ao cap bs (rdN bs tokenK i C.2).2 la lc gl 1 (rdN bs tokenK i C.2).1.flatten)) (fun _ iv _ _ => c - (intOf iv).toNat)
  case atStart => exact ⟨0, Nat.zero_le _, rfl, none, 0, 0, rfl, unhide HL⟩
  case round =>
    clear HL
    obtain ⟨i, hi', rfl, la, lc, gl, rfl, HS⟩ := hrel
    by_cases hlt : i < c
    · obtain ⟨s1, Hs1⟩ : ∃ s1, Hid (rdN bs tokenK i C.2 = s1) := ⟨_, rfl⟩
      have hlen : s1.1.flatten.length = i * 1 := by
        rw [← unhide Hs1, flat_len _ 1, rdN_length]
        intro l hl
        obtain ⟨s', rfl⟩ := rdN_mem _ _ _ _ l hl
        rw [rdL_length]
        rfl
      rw [unhide Hs1] at HS
      have HNX : Hid ((rdN bs tokenK (i + 1) C.2).1.flatten = s1.1.flatten ++ (rdL bs tokenK s1.2).1 ∧ (rdN bs tokenK (i + 1) C.2).2 = (rdL bs tokenK s1.2).2) := hide (by rw [rdN_snoc, unhide Hs1]; simp)
      have HLE := hide hlen
      have R1 := hide (xFixed (unhide HS).r 8)
      obtain ⟨r0, Hr0⟩ : ∃ r, Hid ((Kd.fix 8).rd bs s1.2 = r) := ⟨_, rfl⟩
      have hr0 : stepR s1.2 (.string ⟨#[]⟩) (oFixed bs s1.2.a 8) = r0 := unhide Hr0
      rw [hr0] at R1
      obtain ⟨n0, hv0⟩ := rd_fix bs 8 s1.2
      rw [unhide Hr0] at hv0
      have HNX2 : Hid ((rdN bs tokenK (i + 1) C.2).1.flatten = s1.1.flatten ++ [.string n0] ∧ (rdN bs tokenK (i + 1) C.2).2 = r0.2) := hide (by
        have h1 := unhide HNX
        have e1 : (rdL bs tokenK s1.2).1 = [((Kd.fix 8).rd bs s1.2).1] := rfl
        have e2 : (rdL bs tokenK s1.2).2 = ((Kd.fix 8).rd bs s1.2).2 := rfl
        rw [e1, e2, unhide Hr0, hv0] at h1
        exact h1)
      unfold XDone at R1
      rw [hv0] at R1
      clear hlen hr0 hv0 HNX
      go_wp2_with fail
      refine (unhide R1).mono ?_
      rintro e w2 ⟨rfl, hR, hF⟩
      have HS2 := hide (((unhide HS).read (by omega) hR hF).keep (by omega) ((Fr.refl (fun _ => False) w2).alloc (.cells #[.string n0] 9)))
      have HSR := hide (src_one (P := Try.prog) w2 [.string n0] 39 9 1 Try.underlying39 rfl (fun u hu => by simp only [List.mem_cons, List.not_mem_nil, or_false] at hu; subst hu; rfl) (W := w2.alloc (.cells #[.string n0] 9)) (fun j => by rw [World.cell?_alloc_new]; simp))
      clear hR hF R1
      go_wp2_with (at_builtin; refine wpList_append_krow _ rfl (.tmp 16) (.tmp 18) 39 39 rfl 9 info _ 1 (by omega) Try.underlying39 (unhide HI).1 (unhide HI).2.1 rfl (unhide HI).2.2.1 rfl (unhide HS2).l.row (unhide HLE) _ _ 1 rfl (unhide HSR) (by rw [(unhide HI).2.2.2]; omega) (by omega) ?_)
      intro la' lc' w3 gl' hK hG
      have HL3 : Hid (XL w w3 p ao cap bs (rdN bs tokenK (i + 1) C.2).2 la' lc' gl' 1 (rdN bs tokenK (i + 1) C.2).1.flatten) := hide (by
        rw [(unhide HNX2).1, (unhide HNX2).2]
        exact (unhide HS2).app hK hG)
      clear hK hG HS2 HSR
      go_wp2
      exact ⟨⟨i + 1, by omega, by go_num, la', lc', gl', rfl, unhide HL3⟩, by simp [intOf]; omega⟩
    · obtain rfl : i = c := by omega
      have HN : Hid ((rdN bs tokenK i C.2).1.length = i) := hide (rdN_length ..)
      go_wp2
      go_ret
      exact ⟨la, lc, ⟨gl, by rw [unhide HN]; rfl, unhide HS⟩⟩

end Go.Proofs.Ytkjoojamkbpfcaa

/- The document's own readings: outages. -/
namespace Go.Proofs.Ytkjoojamkbpfcaa
open Go.RowKit

theorem XL.other {w wr w' : World} {p O : Nat} {ao : Option Addr} {cap : Nat} {bs : List UInt8} {s : RS} {la : Option Addr} {lc gl k : Nat} {vs : List Value} (h : XL w wr p ao cap bs s la lc gl k vs) (hk : 0 < k) (hf : Fr (· = O) wr w') (hO : w.heap.size ≤ O) (hg : 0 < lc → gl ≠ O) : XL w w' p ao cap bs s la lc gl k vs := by
  have h2 := h.pl
  refine ⟨h.r.frame2 hf (fun t => by have : p = O := t; omega) (fun b off e h0 t => by have := h.rl b off e h0; have : b = O := t; omega), ⟨h.l.row.stay (fun hc => hf.block gl (h.l.row.lt hk hc) (fun t => hg hc t)), h.l.new⟩, ?_, h2, h.rl⟩
  exact h.fr.trans hf (fun q hq t => by have : q = O := t; omega)

set_option maxHeartbeats 2000000 in
set_option maxRecDepth 100000 in
theorem refReadOutages_any (w : World) (ao : Option Addr) (cap : Nat) (bs : List UInt8) (hB : BInC w ao cap bs) : Calls Try.prog 36 #[.slice ao bs.length cap] w (ReadOuts w (outsRd bs)) := by
  have HSH := hide (outs_shape bs 100 s00)
  have HLN : Hid ((outsOf bs).length = (rdM bs 100 outageK s00).1.length ∧ (outsOf bs).length ≤ 100) := hide ⟨by unfold outsOf; rw [List.length_map], by unfold outsOf; rw [List.length_map]; exact rdM_length _ _ _ _⟩
  obtain ⟨l, Hl⟩ : ∃ l, Hid (outsOf bs = l) := ⟨_, rfl⟩
  have HFL : Hid ((rdM bs 100 outageK s00).1.flatten = otV l) := hide (by rw [← unhide Hl]; exact (unhide HSH).2)
  rw [unhide Hl] at HLN
  obtain ⟨q, Hq⟩ : ∃ q, Hid ((rdM bs 100 outageK s00).2 = q) := ⟨_, rfl⟩
  obtain ⟨z, Hz⟩ : ∃ z, Hid (endR q bs.length = z) := ⟨_, rfl⟩
  obtain ⟨R, HRe⟩ : ∃ R, Hid (outsRd bs = R) := ⟨_, rfl⟩
  obtain ⟨okb, Hok⟩ : ∃ b, Hid (outsOk l = b) := ⟨_, rfl⟩
  have HR : Hid (R = if z.c ≠ 0 then ([], z.c, z.f) else if okb then (l, 0, 0) else ([], 80, -1)) := hide (by rw [← unhide HRe]; unfold outsRd; rw [unhide Hq, unhide Hl, unhide Hz, unhide Hok])
  have HCL : Hid (Clean z) := hide (by rw [← unhide Hz, ← unhide Hq]; exact endR_clean (rdM_clean _ _ clean0) _)
  rw [unhide HRe]
  have HBI := hide hB
  clear hB HRe HSH Hl
  obtain ⟨info, hi, hzz⟩ := Option.map_eq_some_iff.1 Outage_info
  simp only [Prod.mk.injEq] at hzz
  have HI := hide (And.intro hi hzz)
  clear hi hzz
  obtain ⟨C, HC⟩ : ∃ C, Hid (cntR bs 100 s00 = C) := ⟨_, rfl⟩
  have hc1 := (cnt_spec bs 100 s00).1
  have hcm := (cnt_spec bs 100 s00).2
  obtain ⟨c, Hc⟩ : ∃ c, Hid (cnt bs 100 s00 = c) := ⟨_, rfl⟩
  rw [unhide HC, unhide Hc] at hc1
  rw [unhide Hc] at hcm
  have HQ : Hid (stepR s00 (.int .i64 0) (oCount bs s00.a 100) = (.int .i64 (c : Int), C.2)) := hide (by
    have h : stepR s00 (.int .i64 0) (oCount bs s00.a 100) = C := unhide HC
    rw [h, ← hc1])
  have HM : Hid (rdM bs 100 outageK s00 = rdN bs outageK c C.2) := hide (by unfold rdM; rw [unhide HC, unhide Hc])
  rw [unhide HM] at HLN HFL Hq
  have hlc : l.length = c := by rw [(unhide HLN).1, rdN_length]
  clear hc1 HC Hc HM
  subst hlc
  go_enter Try.func36, Try.ntmps36
  go_wp2_with fail
  have HX0 : Hid (Fr (fun _ => False) w ((w.alloc (.cells #[.int .i64 0, .int .i64 0] 31)).alloc (.cells #[.slice ao bs.length cap, .int .i64 0, .int .i64 0, .int .i64 0, .int .i64 0] 84)) ∧ Bx ((w.alloc (.cells #[.int .i64 0, .int .i64 0] 31)).alloc (.cells #[.slice ao bs.length cap, .int .i64 0, .int .i64 0, .int .i64 0, .int .i64 0] 84)) w.heap.size #[.int .i64 0, .int .i64 0] 31 ∧ XAt ((w.alloc (.cells #[.int .i64 0, .int .i64 0] 31)).alloc (.cells #[.slice ao bs.length cap, .int .i64 0, .int .i64 0, .int .i64 0, .int .i64 0] 84)) (w.heap.size + 1) ao cap bs s00) := hide (by
    have hb := (unhide HBI).keep ((Fr.refl _ w).alloc (.cells #[.int .i64 0, .int .i64 0] 31))
    have hx := newX _ ao cap bs hb.b hb.le hb.max 84
    rw [heap_alloc] at hx
    exact ⟨((Fr.refl _ w).alloc _).alloc _, (Bx.new _ _ _).alloc _, hx⟩)
  obtain ⟨R1, HR1⟩ : ∃ B, Hid (w.heap.size = B) := ⟨_, rfl⟩
  obtain ⟨p, Hp⟩ : ∃ B, Hid (R1 + 1 = B) := ⟨_, rfl⟩
  rw [unhide HR1, unhide Hp] at HX0 ⊢
  generalize ((w.alloc (.cells #[.int .i64 0, .int .i64 0] 31)).alloc (.cells #[.slice ao bs.length cap, .int .i64 0, .int .i64 0, .int .i64 0, .int .i64 0] 84)) = w0 at *
  have HD : Hid (w.heap.size = R1 ∧ R1 + 1 = p ∧ p < w0.heap.size) := hide ⟨unhide HR1, unhide Hp, (unhide HX0).2.2.lt⟩
  refine (xCount (unhide HX0).2.2 100).mono ?_
  rw [unhide HQ]
  unfold XDone
  rintro e w1 ⟨rfl, hXA, hF⟩
  have HL : Hid (XL w0 w1 p ao cap bs C.2 none 0 0 3 []) := hide ⟨hXA, KL.none _ _ _ _, hF, (unhide HX0).2.2.lt, fun b off e h0 => (unhide HX0).2.2.rowlt e h0⟩
  clear hXA hF
  go_wp2
  go_loopw [6, 7, 8] (fun lv iv _ wr => ∃ i : Nat, i ≤ l.length ∧ iv = .int .i64 i ∧ ∃ la lc gl, lv = .slice la i lc ∧ Hid (XL w0 wr p ao cap bs (rdN bs outageK i C.2).2 la lc gl 3 (rdN bs outageK i C.2).1.flatten)) (fun _ iv _ _ => l.length - (intOf iv).toNat)
  case atStart => exact ⟨0, Nat.zero_le _, rfl, none, 0, 0, rfl, unhide HL⟩
  case round =>
    clear HL
    obtain ⟨i, hi', rfl, la, lc, gl, rfl, HS⟩ := hrel
    by_cases hlt : i < l.length
    · obtain ⟨s1, Hs1⟩ : ∃ s1, Hid (rdN bs outageK i C.2 = s1) := ⟨_, rfl⟩
      have HLE : Hid (s1.1.flatten.length = i * 3) := hide (by
        rw [← unhide Hs1, flat_len _ 3, rdN_length]
        intro l hl
        obtain ⟨s', rfl⟩ := rdN_mem _ _ _ _ l hl
        rw [rdL_length]
        rfl)
      rw [unhide Hs1] at HS
      obtain ⟨r0, Hr0⟩ : ∃ r, Hid ((Kd.num 2).rd bs s1.2 = r) := ⟨_, rfl⟩
      obtain ⟨r1, Hr1⟩ : ∃ r, Hid ((Kd.num 4).rd bs r0.2 = r) := ⟨_, rfl⟩
      obtain ⟨r2, Hr2⟩ : ∃ r, Hid ((Kd.num 4).rd bs r1.2 = r) := ⟨_, rfl⟩
      obtain ⟨v0, hv0⟩ := rd_num bs (.num 2) s1.2 (Or.inl ⟨_, rfl⟩)
      obtain ⟨v1, hv1⟩ := rd_num bs (.num 4) r0.2 (Or.inl ⟨_, rfl⟩)
      obtain ⟨v2, hv2⟩ := rd_num bs (.num 4) r1.2 (Or.inl ⟨_, rfl⟩)
      rw [unhide Hr0] at hv0
      rw [unhide Hr1] at hv1
      rw [unhide Hr2] at hv2
      have HNX : Hid ((rdN bs outageK (i + 1) C.2).1.flatten = s1.1.flatten ++ [.int .i64 v0, .int .i64 v1, .int .i64 v2] ∧ (rdN bs outageK (i + 1) C.2).2 = r2.2) := hide (by
        have e : rdL bs outageK s1.2 = ([r0.1, r1.1, r2.1], r2.2) := by
          simp only [rdL, unhide Hr0, unhide Hr1, unhide Hr2]
        rw [rdN_snoc, unhide Hs1, e, hv0, hv1, hv2]
        simp)
      have HS1 : Hid (XL w0 (wr.alloc (.cells #[.int .i64 0, .int .i64 0, .int .i64 0] 60)) p ao cap bs s1.2 la lc gl 3 s1.1.flatten ∧ Bx (wr.alloc (.cells #[.int .i64 0, .int .i64 0, .int .i64 0] 60)) wr.heap.size #[.int .i64 0, .int .i64 0, .int .i64 0] 60) := hide ⟨(unhide HS).keep (by omega) ((Fr.refl (fun _ => False) wr).alloc _), Bx.new _ _ _⟩
      have HO : Hid (w0.heap.size ≤ wr.heap.size ∧ p < wr.heap.size ∧ (0 < lc → gl ≠ wr.heap.size)) := hide ⟨(unhide HS).fr.size, (unhide HS).r.lt, fun hc => by have := (unhide HS).l.row.lt (by omega) hc; omega⟩
      clear HS
      go_wp2_with fail
      generalize wr.alloc (.cells #[.int .i64 0, .int .i64 0, .int .i64 0] 60) = u0 at *
      generalize wr.heap.size = O at *
      refine (xNumber (unhide HS1).1.r 2).mono ?_
      rw [show stepR s1.2 (.int .i64 0) (oNumber bs s1.2.a 2) = r0 from unhide Hr0]
      unfold XDone
      rw [hv0]
      rintro e u1 ⟨rfl, hXA, hF⟩
      have HS2 : Hid (XL w0 (u1.setCell ⟨O, 0, none⟩ (.int .i64 v0)) p ao cap bs r0.2 la lc gl 3 s1.1.flatten ∧ Bx (u1.setCell ⟨O, 0, none⟩ (.int .i64 v0)) O #[.int .i64 v0, .int .i64 0, .int .i64 0] 60) := hide (by
        obtain ⟨k1, k2⟩ := unhide HS1
        obtain ⟨o1, o2, o3⟩ := unhide HO
        exact ⟨(k1.read (by omega) hXA hF).other (by omega) ((Fr.refl (fun q => q = O) u1).setCell (p := ⟨O, 0, none⟩) (fun _ => rfl) _) o1 o3, (k2.frame hF (fun t => by omega)).setCell 0 _⟩)
      have c0 : u1.cell? ⟨O, 0, none⟩ = some (.int .i64 0) := ((unhide HS1).2.frame hF (fun t => by have := unhide HO; omega)).cell 0
      have f0 : u1.frozen? ⟨O, 0, none⟩ = false := ((unhide HS1).2.frame hF (fun t => by have := unhide HO; omega)).frozen 0
      clear hXA hF HS1
      go_wp2_with fail
      clear c0 f0
      generalize u1.setCell ⟨O, 0, none⟩ (.int .i64 v0) = u2 at *
      refine (xNumber (unhide HS2).1.r 4).mono ?_
      rw [show stepR r0.2 (.int .i64 0) (oNumber bs r0.2.a 4) = r1 from unhide Hr1]
      unfold XDone
      rw [hv1]
      rintro e u3 ⟨rfl, hXA, hF⟩
      have HS3 : Hid (XL w0 (u3.setCell ⟨O, 1, none⟩ (.int .i64 v1)) p ao cap bs r1.2 la lc gl 3 s1.1.flatten ∧ Bx (u3.setCell ⟨O, 1, none⟩ (.int .i64 v1)) O #[.int .i64 v0, .int .i64 v1, .int .i64 0] 60) := hide (by
        obtain ⟨k1, k2⟩ := unhide HS2
        obtain ⟨o1, o2, o3⟩ := unhide HO
        exact ⟨(k1.read (by omega) hXA hF).other (by omega) ((Fr.refl (fun q => q = O) u3).setCell (p := ⟨O, 1, none⟩) (fun _ => rfl) _) o1 o3, (k2.frame hF (fun t => by omega)).setCell 1 _⟩)
      have c1 : u3.cell? ⟨O, 1, none⟩ = some (.int .i64 0) := ((unhide HS2).2.frame hF (fun t => by have := unhide HO; omega)).cell 1
      have f1 : u3.frozen? ⟨O, 1, none⟩ = false := ((unhide HS2).2.frame hF (fun t => by have := unhide HO; omega)).frozen 1
      clear hXA hF HS2
      go_wp2_with fail
      clear c1 f1
      generalize u3.setCell ⟨O, 1, none⟩ (.int .i64 v1) = u4 at *
      refine (xNumber (unhide HS3).1.r 4).mono ?_
      rw [show stepR r1.2 (.int .i64 0) (oNumber bs r1.2.a 4) = r2 from unhide Hr2]
      unfold XDone
      rw [hv2]
      rintro e u5 ⟨rfl, hXA, hF⟩
      have HS4 : Hid (XL w0 (u5.setCell ⟨O, 2, none⟩ (.int .i64 v2)) p ao cap bs r2.2 la lc gl 3 s1.1.flatten ∧ Bx (u5.setCell ⟨O, 2, none⟩ (.int .i64 v2)) O #[.int .i64 v0, .int .i64 v1, .int .i64 v2] 60) := hide (by
        obtain ⟨k1, k2⟩ := unhide HS3
        obtain ⟨o1, o2, o3⟩ := unhide HO
        exact ⟨(k1.read (by omega) hXA hF).other (by omega) ((Fr.refl (fun q => q = O) u5).setCell (p := ⟨O, 2, none⟩) (fun _ => rfl) _) o1 o3, (k2.frame hF (fun t => by omega)).setCell 2 _⟩)
      have c2 : u5.cell? ⟨O, 2, none⟩ = some (.int .i64 0) := ((unhide HS3).2.frame hF (fun t => by have := unhide HO; omega)).cell 2
      have f2 : u5.frozen? ⟨O, 2, none⟩ = false := ((unhide HS3).2.frame hF (fun t => by have := unhide HO; omega)).frozen 2
      have b0 : (u5.setCell ⟨O, 2, none⟩ (.int .i64 v2)).cell? ⟨O, 0, none⟩ = some (.int .i64 v0) := (unhide HS4).2.cell 0
      have b1 : (u5.setCell ⟨O, 2, none⟩ (.int .i64 v2)).cell? ⟨O, 1, none⟩ = some (.int .i64 v1) := (unhide HS4).2.cell 1
      have b2 : (u5.setCell ⟨O, 2, none⟩ (.int .i64 v2)).cell? ⟨O, 2, none⟩ = some (.int .i64 v2) := (unhide HS4).2.cell 2
      have HS5 := hide ((unhide HS4).1.keep (by omega) ((Fr.refl (fun _ => False) (u5.setCell ⟨O, 2, none⟩ (.int .i64 v2))).alloc (.cells #[.int .i64 v0, .int .i64 v1, .int .i64 v2] 60)))
      have hSR := (src_one (P := Try.prog) (u5.setCell ⟨O, 2, none⟩ (.int .i64 v2)) [.int .i64 v0, .int .i64 v1, .int .i64 v2] 58 60 3 Try.underlying58 rfl (fun u hu => by simp only [List.mem_cons, List.not_mem_nil, or_false] at hu; rcases hu with rfl | rfl | rfl <;> rfl) (W := (u5.setCell ⟨O, 2, none⟩ (.int .i64 v2)).alloc (.cells #[.int .i64 v0, .int .i64 v1, .int .i64 v2] 60)) (fun j => by rw [World.cell?_alloc_new]; simp))
      rw [show (u5.setCell ⟨O, 2, none⟩ (.int .i64 v2)).heap.size = u5.heap.size by simp] at hSR
      have HSR := hide hSR
      clear hXA hF HS3 hv0 hv1 hv2 hSR
      go_wp2_with (at_builtin; refine wpList_append_krow _ rfl (.tmp 30) (.tmp 32) 58 58 rfl 60 info _ 3 (by omega) Try.underlying58 (unhide HI).1 (unhide HI).2.1 rfl (unhide HI).2.2.1 rfl (unhide HS5).l.row (unhide HLE) _ _ 1 rfl (unhide HSR) (by rw [(unhide HI).2.2.2]; omega) (by omega) ?_)
      intro la' lc' w3 gl' hK hG
      have HL3 : Hid (XL w0 w3 p ao cap bs (rdN bs outageK (i + 1) C.2).2 la' lc' gl' 3 (rdN bs outageK (i + 1) C.2).1.flatten) := hide (by
        rw [(unhide HNX).1, (unhide HNX).2]
        exact (unhide HS5).app hK hG)
      clear hK hG HS5 HSR HS4 b0 b1 b2 c2 f2
      go_wp2
      exact ⟨⟨i + 1, by omega, by go_num, la', lc', gl', rfl, unhide HL3⟩, by simp [intOf]; omega⟩
    · obtain rfl : i = l.length := by omega
      rw [unhide HFL, unhide Hq] at HS
      have HY0 : Hid (Fr (fun _ => False) w wr ∧ Bx wr R1 #[.int .i64 0, .int .i64 0] 31 ∧ XL w0 wr p ao cap bs q la lc gl 3 (otV l)) := hide (by
        obtain ⟨k0, k1, k2⟩ := unhide HX0
        obtain ⟨d1, d2, d3⟩ := unhide HD
        have hS := unhide HS
        exact ⟨k0.trans hS.fr (fun _ hi t => by omega), k1.frame hS.fr (fun t => by omega), hS⟩)
      have HLL : Hid (l.length ≤ 100) := hide (unhide HLN).2
      have hl100 : l.length ≤ 100 := unhide HLL
      clear HS hlt hi' hcm
      go_wp2_with fail
      have RE := outagesRight_any wr la lc l (unhide HY0).2.2.l.row.catN (by omega)
      rw [unhide Hok] at RE
      refine RE.mono ?_
      rintro e y1 ⟨rfl, hF⟩
      have HY1 : Hid (Fr (fun _ => False) w y1 ∧ Bx y1 R1 #[.int .i64 0, .int .i64 0] 31 ∧ XL w0 y1 p ao cap bs q la lc gl 3 (otV l)) := hide (by
        obtain ⟨k0, k1, k2⟩ := unhide HY0
        exact ⟨k0.trans hF (fun _ _ t => t), k1.keep hF, k2.keep (by omega) hF⟩)
      clear hF HY0 RE
      go_wp2_with fail
      refine (ended_any (unhide HY1).2.2.r okb).mono ?_
      rw [unhide Hz]
      generalize hE : endF z okb = E
      have HE : Hid (E = if z.c = 0 ∧ okb = false then (80, -1) else (z.c, z.f)) := hide (by rw [← hE]; rfl)
      obtain ⟨Ec, Ef⟩ := E
      simp only
      clear hE
      rintro e y2 ⟨rfl, hF⟩
      have HY2 : Hid (Fr (fun _ => False) w (y2.alloc (.cells #[.int .i64 Ec, .int .i64 Ef] 31)) ∧ Bx (y2.alloc (.cells #[.int .i64 Ec, .int .i64 Ef] 31)) R1 #[.int .i64 0, .int .i64 0] 31 ∧ Bx (y2.alloc (.cells #[.int .i64 Ec, .int .i64 Ef] 31)) y2.heap.size #[.int .i64 Ec, .int .i64 Ef] 31) := hide (by
        obtain ⟨k0, k1, k2⟩ := unhide HY1
        obtain ⟨d1, d2, d3⟩ := unhide HD
        exact ⟨(k0.trans hF (fun _ hi t => by omega)).alloc _, (k1.frame hF (fun t => by omega)).alloc _, Bx.new _ _ _⟩)
      have HKz : Hid (KL w0 (y2.alloc (.cells #[.int .i64 Ec, .int .i64 Ef] 31)) la lc gl 3 (otV l)) := hide (((unhide HY1).2.2.l.go (by omega) hF (fun q hq => by have := unhide HD; omega)).go (by omega) ((Fr.refl (fun _ => False) _).alloc _) (fun _ hq => hq.elim))
      have HFB : Hid (R1 < y2.heap.size) := hide (((unhide HY1).2.1.frame hF (fun t => by have := unhide HD; omega)).lt)
      clear hF HY1
      have y0 : (y2.alloc (.cells #[.int .i64 Ec, .int .i64 Ef] 31)).cell? ⟨y2.heap.size, 0, none⟩ = some (.int .i64 Ec) := (unhide HY2).2.2.cell 0
      have hcase : (Ec ≠ 0 ∧ R = ([], Ec, Ef)) ∨ (Ec = 0 ∧ R = (l, Ec, Ef)) := by
        have h1 := unhide HE
        have h2 := unhide HR
        have h3 := unhide HCL
        by_cases hc : z.c = 0
        · cases okb
          · rw [if_pos ⟨hc, rfl⟩] at h1
            rw [if_neg (fun h => h hc)] at h2
            injection h1 with h4 h5
            subst h4 h5
            exact Or.inl ⟨by decide, h2⟩
          · rw [if_neg (by simp)] at h1
            rw [if_neg (fun h => h hc)] at h2
            injection h1 with h4 h5
            subst h4 h5
            rw [h3 hc, hc]
            exact Or.inr ⟨rfl, h2⟩
        · rw [if_neg (fun h => hc h.1)] at h1
          rw [if_pos hc] at h2
          injection h1 with h4 h5
          subst h4 h5
          exact Or.inl ⟨hc, h2⟩
      clear HE HR HCL
      rcases hcase with ⟨hc, hR⟩ | ⟨hc, hR⟩
      · have hcb : (Ec != 0) = true := by simp [hc]
        have HRE := hide hR
        clear hc hR
        go_wp2_with fail
        generalize y2.alloc (.cells #[.int .i64 Ec, .int .i64 Ef] 31) = w5 at *
        generalize y2.heap.size = Fb at *
        have y0 : w5.cell? ⟨Fb, 0, none⟩ = some (.int .i64 Ec) := (unhide HY2).2.2.cell 0
        have y1 : w5.cell? ⟨Fb, 1, none⟩ = some (.int .i64 Ef) := (unhide HY2).2.2.cell 1
        have u0_ : w5.cell? ⟨R1, 0, none⟩ = some (.int .i64 0) := (unhide HY2).2.1.cell 0
        have u1_ : w5.cell? ⟨R1, 1, none⟩ = some (.int .i64 0) := (unhide HY2).2.1.cell 1
        have v0_ : w5.frozen? ⟨R1, 0, none⟩ = false := (unhide HY2).2.1.frozen 0
        have v1_ : w5.frozen? ⟨R1, 1, none⟩ = false := (unhide HY2).2.1.frozen 1
        have hRF : R1 ≠ Fb := by have := unhide HFB; omega
        have hFR : Fb ≠ R1 := hRF.symm
        have HBL : Hid (¬ R1 < w.heap.size) := hide (by have := unhide HD; omega)
        go_region_held3 (fun w' => w'.cell? ⟨Fb, 0, none⟩ = some (.int .i64 Ec) ∧ w'.cell? ⟨Fb, 1, none⟩ = some (.int .i64 Ef)) (go_keep) (fail)
        go_wp2
        obtain ⟨k0, k1, k2⟩ := unhide HY2
        have e2 := ((k1.setCell 0 (.int .i64 Ec)).setCell 1 (.int .i64 Ef)).drew
        have e3 := ((k0.setCell (p := ⟨R1, 0, none⟩) (fun h => absurd h (unhide HBL)) (.int .i64 Ec)).setCell (p := ⟨R1, 1, none⟩) (fun h => absurd h (unhide HBL)) (.int .i64 Ef)).drew
        exact bodyPost_ret (v := .tuple #[.slice none 0 0, .agg #[.int .i64 Ec, .int .i64 Ef]]) (results_tb rfl _ rfl rfl e2 Try.underlying31 rfl (fault_size _ _)) rfl ⟨none, 0, 0, by first | rfl | (rw [unhide HRE]; done) | (rw [unhide HRE]; rfl), (by rw [unhide HRE]; exact KL.none _ _ _ _), e3⟩
      · have hcb : (Ec != 0) = false := by simp [hc]
        have HRE := hide hR
        clear hc hR
        go_wp2_with fail
        generalize y2.alloc (.cells #[.int .i64 Ec, .int .i64 Ef] 31) = w5 at *
        generalize y2.heap.size = Fb at *
        have y0 : w5.cell? ⟨Fb, 0, none⟩ = some (.int .i64 Ec) := (unhide HY2).2.2.cell 0
        have y1 : w5.cell? ⟨Fb, 1, none⟩ = some (.int .i64 Ef) := (unhide HY2).2.2.cell 1
        have u0_ : w5.cell? ⟨R1, 0, none⟩ = some (.int .i64 0) := (unhide HY2).2.1.cell 0
        have u1_ : w5.cell? ⟨R1, 1, none⟩ = some (.int .i64 0) := (unhide HY2).2.1.cell 1
        have v0_ : w5.frozen? ⟨R1, 0, none⟩ = false := (unhide HY2).2.1.frozen 0
        have v1_ : w5.frozen? ⟨R1, 1, none⟩ = false := (unhide HY2).2.1.frozen 1
        have hRF : R1 ≠ Fb := by have := unhide HFB; omega
        have hFR : Fb ≠ R1 := hRF.symm
        have HBL : Hid (¬ R1 < w.heap.size) := hide (by have := unhide HD; omega)
        go_region_held3 (fun w' => w'.cell? ⟨Fb, 0, none⟩ = some (.int .i64 Ec) ∧ w'.cell? ⟨Fb, 1, none⟩ = some (.int .i64 Ef)) (go_keep) (fail)
        go_wp2
        obtain ⟨k0, k1, k2⟩ := unhide HY2
        have e2 := ((k1.setCell 0 (.int .i64 Ec)).setCell 1 (.int .i64 Ef)).drew
        have e3 := ((k0.setCell (p := ⟨R1, 0, none⟩) (fun h => absurd h (unhide HBL)) (.int .i64 Ec)).setCell (p := ⟨R1, 1, none⟩) (fun h => absurd h (unhide HBL)) (.int .i64 Ef)).drew
        have e4 : Fr (fun q => q = R1) w5 _ := (((Fr.refl (fun q => q = R1) w5).setCell (p := ⟨R1, 0, none⟩) (fun _ => rfl) (.int .i64 Ec)).setCell (p := ⟨R1, 1, none⟩) (fun _ => rfl) (.int .i64 Ef)).drew
        exact bodyPost_ret (v := .tuple #[.slice la l.length lc, .agg #[.int .i64 Ec, .int .i64 Ef]]) (results_tb rfl _ rfl rfl e2 Try.underlying31 rfl (fault_size _ _)) rfl ⟨la, lc, gl, by first | rfl | (rw [unhide HRE]; done) | (rw [unhide HRE]; rfl), (by rw [unhide HRE]; exact ((unhide HKz).go (by omega) e4 (fun q hq => by have := unhide HD; omega)).later (by have := unhide HD; omega)), e3⟩

end Go.Proofs.Ytkjoojamkbpfcaa

