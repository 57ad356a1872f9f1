import Derived.Test.YtabhfeocelljdaaGreatDoorZXM
/- The document's sender: Tick, its contract. -/
namespace Go.Proofs.YtabhfeocelljdaaGreatDoor
open Go.RowKit Go.Maps

/-- What a sender must be for its ticks. -/
structure SOk (s : Snd) : Prop where
  win : 1 ≤ s.win ∧ s.win ≤ 64
  bat : 1 ≤ s.bat ∧ s.bat ≤ 8
  evy : 1 ≤ s.evy ∧ s.evy ≤ 1000
  clk : 0 ≤ s.clk ∧ s.clk < 1152921504606846976
  tks : ∀ e ∈ s.sent, 0 ≤ e.2 ∧ e.2 ≤ s.clk
  few : (s.sent.length + 100) * 16 ≤ 140737488355328

/-- What the loop's numbers are. -/
structure SB (s : Snd) (first : Int) (i : Nat) (sd : Snd × List Fm × Int) : Prop where
  win : sd.1.win = s.win
  bat : sd.1.bat = s.bat
  evy : sd.1.evy = s.evy
  clk : sd.1.clk = s.clk
  tks : ∀ e ∈ sd.1.sent, 0 ≤ e.2 ∧ e.2 ≤ s.clk
  few : sd.1.sent.length ≤ s.sent.length + i
  ok : FOk first s.bat i sd.2.1
  sq : ∀ f ∈ sd.2.1, 1 ≤ f.seq ∧ f.seq ≤ 4294967295
  ls : LastD s.bat sd.2.1 sd.2.2
  lr : 0 ≤ sd.2.2 ∧ sd.2.2 ≤ 4294967295
theorem SB.skip {s : Snd} {first : Int} {i : Nat} {sd : Snd × List Fm × Int} (h : SB s first i sd) : SB s first (i + 1) sd :=
  ⟨h.win, h.bat, h.evy, h.clk, h.tks, by have := h.few; omega, h.ok.mono (by omega), h.sq, h.ls, h.lr⟩
theorem SB.send {s : Snd} {first : Int} {i : Nat} {sd : Snd × List Fm × Int} (h : SB s first i sd) (hb : 1 ≤ s.bat) (hc : 0 ≤ s.clk) (q : Int) (b : List UInt8) (hq : 1 ≤ q ∧ q ≤ 4294967295) (hl : b.length ≤ 256) : SB s first (i + 1) (markD sd.1 q first, addF b (openD sd.1.bat first q sd.2), q) ∧ openD sd.1.bat first q sd.2 = openF s.bat first q sd.2.1 := by
  have ho : openD sd.1.bat first q sd.2 = openF s.bat first q sd.2.1 := by
    have hp : sd.2 = (sd.2.1, sd.2.2) := rfl
    rw [hp, h.bat, openD_eq h.ls]
  refine ⟨⟨h.win, h.bat, h.evy, h.clk, fun e he => ?_, ?_, ?_, ?_, ?_, by show 0 ≤ q ∧ q ≤ 4294967295; omega⟩, ho⟩
  · have he : e ∈ sd.1.sent.filter (fun e => decide (e.1 ≠ q ∧ first ≤ e.1)) ++ [(q, sd.1.clk)] := he
    rcases List.mem_append.1 he with he | he
    · exact h.tks e (List.mem_filter.1 he).1
    · rw [List.mem_singleton] at he
      subst he
      show 0 ≤ sd.1.clk ∧ sd.1.clk ≤ s.clk
      rw [h.clk]
      omega
  · show (sd.1.sent.filter (fun e => decide (e.1 ≠ q ∧ first ≤ e.1)) ++ [(q, sd.1.clk)]).length ≤ s.sent.length + (i + 1)
    have h1 := List.length_filter_le (fun e : Int × Int => decide (e.1 ≠ q ∧ first ≤ e.1)) sd.1.sent
    have h2 := h.few
    rw [List.length_append, List.length_singleton]
    omega
  · show FOk first s.bat (i + 1) (addF b (openD sd.1.bat first q sd.2))
    rw [ho]
    exact h.ok.put hb q b hl
  · show ∀ f ∈ addF b (openD sd.1.bat first q sd.2), 1 ≤ f.seq ∧ f.seq ≤ 4294967295
    rw [ho]
    exact openF_sq b h.sq hq
  · show LastD s.bat (addF b (openD sd.1.bat first q sd.2)) q
    rw [ho]
    exact h.ls.next hb b

theorem isQ_up2 {its : List Itm} (h : isQ its = true) : ∀ x ∈ its, baseOf its ≤ x.seq := by
  cases its with
  | nil => intro x hx; cases hx
  | cons y r => exact isQ_up h

theorem filter_takeF (P : Int × Int → Bool) (l : List (Int × Int)) (i : Nat) (hi : i < l.length) : (l.take (i + 1)).filter P = (l.take i).filter P ++ (if P l[i] then [l[i]] else []) := filter_takeX P l i hi

/-- What was sent lies in new memory, or where it lay. -/
def NewOr (n sc' sb' sc sb : Nat) : Prop := 0 < sc' → n ≤ sb' ∨ (sc' = sc ∧ sb' = sb)
theorem NewOr.same (n sc sb : Nat) : NewOr n sc sb sc sb := fun _ => .inr ⟨rfl, rfl⟩
theorem NewOr.none (n sb' sc sb : Nat) : NewOr n 0 sb' sc sb := fun h => absurd h (by omega)

set_option maxHeartbeats 8000000 in
set_option maxRecDepth 20000 in
theorem dtick_any {w : World} {p : Nat} {s : Snd} {so : Option Addr} {SC SB0 : Nat} (h : DS w p s so SC SB0) (io : Option Addr) (ic : Nat) (its : List Itm) (hI : ∀ u, Fr (fun k => k = p) w u → ItsAt u io its) (hip : ∀ b o, io = some ⟨b, o, none⟩ → 0 < its.length → b ≠ p ∧ b < w.heap.size) (hs : SOk s) :
    Calls Tryz.prog 18 #[.pointer (some ⟨p, 0, none⟩), .slice io its.length ic] w fun e w' => ∃ fo fc, e = .returned (.slice fo (tickD s its).2.length fc) ∧ Hid (∃ so' sc' sb' fb xs, DS w' p (tickD s its).1 so' sc' sb' ∧ NewOr w.heap.size sc' sb' SC SB0 ∧ FL w.heap.size w' fo fc fb xs ∧ xs.map FrM.f = (tickD s its).2 ∧ Fr (fun k => k = p) w w') := by
  have c3 : w.cell? ⟨p, 3, none⟩ = some (.int .i64 s.clk) := h.bx.cell 3
  have f3 : w.frozen? ⟨p, 3, none⟩ = false := h.bx.frozen 3
  have hplt := h.bx.lt
  have HI := hide hI
  have HBI0 := hide hip
  have hk0 := hs.clk.1
  have hk1 := hs.clk.2
  have HSO := hide hs
  have HF1 : Hid (Fr (fun k => k = p) w (w.setCell ⟨p, 3, none⟩ (.int .i64 (s.clk + 1)))) := hide (Fr.setCell (S := fun k => k = p) (Fr.refl _ _) (p := ⟨p, 3, none⟩) (fun _ => rfl) _)
  have HD1 : Hid (DS (w.setCell ⟨p, 3, none⟩ (.int .i64 (s.clk + 1))) p { s with clk := s.clk + 1 } so SC SB0) := by
    have hb := h.bx.setCell 3 (.int .i64 (s.clk + 1))
    exact hide ⟨hb, h.row.stay (fun hc => (unhide HF1).block SB0 (h.row.lt (by omega) hc) (fun t => h.ne hc t.symm)), h.ne⟩
  have HZ1 : Hid ((w.setCell ⟨p, 3, none⟩ (.int .i64 (s.clk + 1))).heap.size = w.heap.size) := hide (by simp)
  obtain ⟨TT, hTT⟩ : ∃ TT, tickD s its = TT := ⟨_, rfl⟩
  rw [hTT]
  have HTT := hide hTT
  have hlI : (its.length : Int) ≤ 140737488355328 := by have := (hI w (Fr.refl _ _)).small; omega
  clear h hI hip hs hTT
  go_enter Tryz.func18, Tryz.ntmps18
  go_wp2_with fail
  generalize w.setCell ⟨p, 3, none⟩ (.int .i64 (s.clk + 1)) = w1 at *
  refine (drow_any w1 its io ic (unhide HI w1 (unhide HF1))).mono ?_
  clear c3 f3
  cases hq : isQ its with
  | false =>
    have HE : Hid (TT = ({ s with clk := s.clk + 1 }, [])) := hide (by rw [← unhide HTT]; unfold tickD; rw [hq]; rfl)
    clear hq
    rintro e w2 ⟨rfl, rfl⟩
    go_wp2
    go_ret
    rw [unhide HE]
    exact ⟨none, 0, rfl, hide ⟨so, SC, SB0, 0, [], unhide HD1, NewOr.same _ _ _, FL.nil _ _ _, rfl, unhide HF1⟩⟩
  | true =>
    rintro e w2 ⟨rfl, rfl⟩
    cases its with
    | nil =>
      have HE : Hid (TT = ({ s with clk := s.clk + 1, sent := [] }, [])) := hide (by rw [← unhide HTT]; rfl)
      have c4 : w2.cell? ⟨p, 4, none⟩ = some (.slice so s.sent.length SC) := (unhide HD1).bx.cell 4
      have f4 : w2.frozen? ⟨p, 4, none⟩ = false := (unhide HD1).bx.frozen 4
      have HD2 : Hid (DS (w2.setCell ⟨p, 4, none⟩ (.slice none 0 0)) p { s with clk := s.clk + 1, sent := [] } none 0 0 ∧ Fr (fun k => k = p) w (w2.setCell ⟨p, 4, none⟩ (.slice none 0 0))) := hide ⟨⟨(unhide HD1).bx.setCell 4 (.slice none 0 0), KRow.nil _ _ _, fun h => absurd h (by omega)⟩, Fr.setCell (S := fun k => k = p) (unhide HF1) (p := ⟨p, 4, none⟩) (fun _ => rfl) _⟩
      clear HD1 hq
      go_wp2
      go_ret
      rw [unhide HE]
      exact ⟨none, 0, rfl, hide ⟨none, 0, 0, 0, [], (unhide HD2).1, NewOr.none _ _ _ _, FL.nil _ _ _, rfl, (unhide HD2).2⟩⟩
    | cons y r =>
      have HE0 : Hid (TT = ((((y :: r).take s.win.toNat).foldl (stepD y.seq) ({ s with clk := s.clk + 1, sent := s.sent.filter (fun e => decide (y.seq ≤ e.1)) }, [], 0)).1, (((y :: r).take s.win.toNat).foldl (stepD y.seq) ({ s with clk := s.clk + 1, sent := s.sent.filter (fun e => decide (y.seq ≤ e.1)) }, [], 0)).2.1)) := hide (by rw [← unhide HTT]; unfold tickD; rw [hq]; rfl)
      have HQ := hide hq
      have HY0 : Hid ((y :: r)[0]? = some y) := hide rfl
      have hnz : 0 < (y :: r).length := by simp
      clear hq HTT
      generalize y :: r = its at *
      clear r
      have hlz : ((its.length : Int) == 0) = false := by rw [beq_eq_false_iff_ne]; omega
      have hlz2 : (its.length == 0) = false := by rw [beq_eq_false_iff_ne]; omega
      have hl0 : (0 : Int) < (its.length : Int) := by omega
      have hi1 := unhide HI w2 (unhide HF1)
      obtain ⟨bi, off, e, hc⟩ := hi1.cells hnz
      subst e
      have hy0 : its[0] = y := by have := unhide HY0; rw [List.getElem?_eq_getElem hnz] at this; injection this
      have d0 : w2.cell? ⟨bi, off, none⟩ = some (.int .i64 y.seq) := by have := (hc 0 hnz).1; rw [hy0] at this; simpa using this
      have HBIP : Hid (bi ≠ p) := by
        have hb := unhide HBI0
        exact hide (hb bi off rfl hnz).1
      have HBIW : Hid (bi < w.heap.size) := hide ((unhide HBI0) bi off rfl hnz).2
      clear hc hi1 hy0
      generalize hFst : y.seq = first at *
      clear hFst HY0 y
      obtain ⟨s1, hs1⟩ : ∃ s1 : Snd, { s with clk := s.clk + 1 } = s1 := ⟨_, rfl⟩
      have HS1 : Hid (s1.win = s.win ∧ s1.bat = s.bat ∧ s1.evy = s.evy ∧ s1.clk = s.clk + 1 ∧ s1.sent = s.sent) := by subst hs1; exact hide ⟨rfl, rfl, rfl, rfl, rfl⟩
      have HE : Hid (TT = (((its.take s1.win.toNat).foldl (stepD first) ({ s1 with sent := s1.sent.filter (fun e => decide (first ≤ e.1)) }, [], 0)).1, ((its.take s1.win.toNat).foldl (stepD first) ({ s1 with sent := s1.sent.filter (fun e => decide (first ≤ e.1)) }, [], 0)).2.1)) := by subst hs1; exact HE0
      rw [hs1] at HD1
      have hln : s.sent.length = s1.sent.length := by rw [(unhide HS1).2.2.2.2]
      have hlsI : (s1.sent.length : Int) ≤ 140737488355328 := by have := (unhide HSO).few; omega
      clear HE0 hs1
      obtain ⟨info, hinf, hzz⟩ := Option.map_eq_some_iff.1 infoS
      simp only [Prod.mk.injEq] at hzz
      have HINF := hide (And.intro hinf hzz)
      have HFW : Hid ((s1.sent.length + 100) * 16 ≤ 140737488355328) := hide (by have := (unhide HSO).few; omega)
      have HLO : Hid (p < w2.heap.size ∧ (0 < SC → SB0 < w2.heap.size)) := hide ⟨(unhide HD1).bx.lt, fun hc => (unhide HD1).row.lt (by omega) hc⟩
      clear hinf hzz hln
      go_wp2
      go_loopw [9, 10] (fun ov iv wr => ∃ (i : Nat) (oo : Option Addr) (oc ob : Nat), i ≤ s1.sent.length ∧ ov = .slice oo ((s1.sent.take i).filter (fun e => decide (first ≤ e.1))).length oc ∧ iv = .int .i64 i ∧ Hid (MK w2 p s1 so SC SB0 ((s1.sent.take i).filter (fun e => decide (first ≤ e.1))) oo oc ob wr)) (fun _ iv _ => s1.sent.length - (intOf iv).toNat)
      case atStart => exact ⟨0, none, 0, 0, Nat.zero_le _, rfl, rfl, hide ⟨Fr.refl _ _, unhide HD1, KRow.nil _ _ _, fun h => absurd h (by omega)⟩⟩
      case round =>
        obtain ⟨i, oo, oc, ob, hi, rfl, rfl, HK⟩ := hrel
        have c4 : wr.cell? ⟨p, 4, none⟩ = some (.slice so s1.sent.length SC) := (unhide HK).ds.bx.cell 4
        by_cases hil : i < s1.sent.length
        · have hiI : (i : Int) < (s1.sent.length : Int) := by omega
          obtain ⟨e, a0, a1⟩ := (unhide HK).ds.at_ i hil
          have HT := hide (filter_takeX (fun e => decide (first ≤ e.1)) s1.sent i hil)
          have HAL : Hid (((s1.sent.take i).filter (fun e => decide (first ≤ e.1))).length ≤ i) := hide (by have := List.length_filter_le (fun e : Int × Int => decide (first ≤ e.1)) (s1.sent.take i); rw [List.length_take] at this; omega)
          generalize (s1.sent.take i).filter (fun e => decide (first ≤ e.1)) = acc at *
          generalize s1.sent[i] = ent at *
          obtain ⟨q, t⟩ := ent
          simp only at a0 a1
          subst e
          by_cases h2 : first ≤ q
          · have y2 : decide (q ≥ first) = true := decide_eq_true h2
            have y3 : decide (first ≤ q) = true := y2
            have HTT : Hid ((s1.sent.take (i + 1)).filter (fun e => decide (first ≤ e.1)) = acc ++ [(q, t)]) := hide (by rw [unhide HT]; simp [h2])
            have HKA := hide ((unhide HK).keep ((Fr.refl (fun _ => False) wr).alloc (.cells #[.int .i64 q, .int .i64 t] 83)))
            have HSR := hide (src_one (P := Tryz.prog) wr [.int .i64 q, .int .i64 t] 74 83 2 Tryz.underlying74 rfl (fun u hu => by simp only [List.mem_cons, List.not_mem_nil, or_false] at hu; rcases hu with rfl | rfl <;> rfl) (W := wr.alloc (.cells #[.int .i64 q, .int .i64 t] 83)) (fun j => by rw [World.cell?_alloc_new]; simp))
            clear h2 HT
            go_wp2_with (at_builtin; refine wpList_append_krow _ rfl (.tmp 55) (.tmp 63) 74 74 rfl 83 info _ 2 (by omega) Tryz.underlying74 (unhide HINF).1 (unhide HINF).2.1 rfl (unhide HINF).2.2.1 rfl (unhide HKA).row (wasC_length acc) _ _ 1 rfl (unhide HSR) (by rw [(unhide HINF).2.2.2]; have := unhide HAL; have := unhide HFW; omega) (by have := unhide HAL; have := unhide HFW; omega) ?_)
            intro oo9 oc9 w9 ob9 hkr hgr
            have HK9 := hide ((unhide HKA).next (unhide HLO) (q, t) hkr hgr)
            clear hkr hgr HSR HKA
            go_wp2
            exact ⟨⟨i + 1, oo9, oc9, ob9, by omega, by rw [unhide HTT, List.length_append]; rfl, by go_num, hide (by rw [unhide HTT]; exact unhide HK9)⟩, by simp [intOf]; omega⟩
          · have y2 : decide (q ≥ first) = false := decide_eq_false h2
            have y3 : decide (first ≤ q) = false := y2
            have HTT : Hid ((s1.sent.take (i + 1)).filter (fun e => decide (first ≤ e.1)) = acc) := hide (by rw [unhide HT]; simp [h2])
            clear h2 HT
            go_wp2
            exact ⟨⟨i + 1, oo, oc, ob, by omega, by rw [unhide HTT], by go_num, hide (by rw [unhide HTT]; exact unhide HK)⟩, by simp [intOf]; omega⟩
        · obtain rfl : i = s1.sent.length := by omega
          have hK := unhide HK
          rw [List.take_length] at hK
          rw [List.take_length]
          have f4 : wr.frozen? ⟨p, 4, none⟩ = false := hK.ds.bx.frozen 4
          obtain ⟨acc, hacc⟩ : ∃ acc, s1.sent.filter (fun e => decide (first ≤ e.1)) = acc := ⟨_, rfl⟩
          rw [hacc] at hK HE ⊢
          have HAL : Hid (acc.length ≤ s1.sent.length ∧ ∀ e ∈ acc, e ∈ s1.sent) := hide ⟨by rw [← hacc]; exact List.length_filter_le _ _, fun e he => by rw [← hacc] at he; exact (List.mem_filter.1 he).1⟩
          have HTD : Hid (TD w p ({ s1 with sent := acc }, [], 0) oo oc ob none 0 0 [] (wr.setCell ⟨p, 4, none⟩ (.slice oo acc.length oc))) := by
            have hset : Fr (· = p) wr (wr.setCell ⟨p, 4, none⟩ (.slice oo acc.length oc)) := Fr.setCell (S := fun k => k = p) (Fr.refl _ _) (p := ⟨p, 4, none⟩) (fun _ => rfl) _
            have hz := unhide HZ1
            refine hide ⟨((unhide HF1).trans hK.fr (fun _ _ t => t.elim)).trans hset (fun _ _ t => t), ⟨hK.ds.bx.setCell 4 (.slice oo acc.length oc), hK.row.stay (fun hc => hset.block ob (hK.row.lt (by omega) hc) (fun t => by have t : ob = p := t; have := hK.nw hc; omega)), fun hc => by have := hK.nw hc; omega⟩, FL.nil _ _ _, rfl, hplt, fun hc => by have := hK.nw hc; omega, fun hc => ⟨fun h => absurd h (by omega), fun x hx => by simp at hx⟩⟩
          clear hK HK hacc HD1
          go_wp2
          clear c4 f4 d0
          generalize wr.setCell ⟨p, 4, none⟩ (.slice oo acc.length oc) = w5 at *
          obtain ⟨K, hK⟩ : ∃ K : Nat, K = min s1.win.toNat its.length := ⟨_, rfl⟩
          have HB1 : Hid ((1 ≤ s1.win ∧ s1.win ≤ 64) ∧ (1 ≤ s1.bat ∧ s1.bat ≤ 8) ∧ (1 ≤ s1.evy ∧ s1.evy ≤ 1000) ∧ 0 ≤ s1.clk ∧ s1.clk ≤ 1152921504606846976) := by
            obtain ⟨e1, e2, e3, e4, e5⟩ := unhide HS1
            have h := unhide HSO
            have h1 := h.win
            have h2 := h.bat
            have h3 := h.evy
            exact hide (by omega)
          have HKK := hide hK
          have hK64 : K ≤ 64 := by have := (unhide HB1).1; omega
          have HTK : Hid (its.take s1.win.toNat = its.take K) := hide (by
            rw [hK]
            rcases Nat.le_total s1.win.toNat its.length with t | t
            · rw [Nat.min_eq_left t]
            · rw [Nat.min_eq_right t, List.take_length, List.take_of_length_le t])
          rw [unhide HTK] at HE
          obtain ⟨st0, hst0⟩ : ∃ st0, (({ s1 with sent := acc }, [], 0) : Snd × List Fm × Int) = st0 := ⟨_, rfl⟩
          have HSB : Hid (SB s1 first 0 st0) := by
            rw [← hst0]
            refine hide ⟨rfl, rfl, rfl, rfl, fun e he => ?_, by have := (unhide HAL).1; show acc.length ≤ _; omega, FOk.nil _ _, fun f hf => by (cases hf), ⟨fun f hf => by simp at hf⟩, by show (0 : Int) ≤ 0 ∧ (0 : Int) ≤ 4294967295; omega⟩
            have := (unhide HAL).2 e he
            rw [(unhide HS1).2.2.2.2] at this
            have h2 := (unhide HSO).tks e this
            rw [(unhide HS1).2.2.2.1]
            omega
          rw [hst0] at HE HTD
          have HL0 : Hid (st0.2.2 = 0) := hide (by rw [← hst0])
          have HUP := hide (fun x hx => isQ_up2 (unhide HQ) x hx)
          have HLN : Hid (s1.sent.length = s.sent.length) := hide (by rw [(unhide HS1).2.2.2.2])
          clear hst0 hK HAL HS1 HFW HLO HINF HTK
          go_loopw [6, 7, 11] (fun v6 v7 v11 wr => ∃ (i : Nat) (so : Option Addr) (sc sb : Nat) (fo : Option Addr) (fc fb : Nat) (xs : List FrM), i ≤ K ∧ v6 = .slice fo xs.length fc ∧ v7 = .int .i64 (((its.take K).take i).foldl (stepD first) st0).2.2 ∧ v11 = .int .i64 i ∧ Hid (TD w p (((its.take K).take i).foldl (stepD first) st0) so sc sb fo fc fb xs wr ∧ SB s1 first i (((its.take K).take i).foldl (stepD first) st0))) (fun _ _ v11 _ => K - (intOf v11).toNat)
          case atStart => exact ⟨0, oo, oc, ob, none, 0, 0, [], Nat.zero_le _, rfl, by show Value.int .i64 0 = Value.int .i64 st0.2.2; rw [unhide HL0], rfl, hide ⟨unhide HTD, unhide HSB⟩⟩
          case round =>
            obtain ⟨i, so, sc, sb, fo, fc, fb, xs, hiK, rfl, rfl, rfl, HK⟩ := hrel
            clear HTD HSB
            by_cases hil : i < K
            · have hlen : i < its.length := by have := unhide HKK; omega
              have hiI : (i : Int) < (its.length : Int) := by omega
              have hiw : (i : Int) < s1.win := by have := unhide HKK; have := (unhide HB1).1; omega
              have y1 : decide ((i : Int) < (its.length : Int)) = true := decide_eq_true hiI
              have y2 : decide ((i : Int) < s1.win) = true := decide_eq_true hiw
              have HST : Hid (((its.take K).take (i + 1)).foldl (stepD first) st0 = stepD first (((its.take K).take i).foldl (stepD first) st0) its[i]) := hide (by
                have := foldl_take_succ (stepD first) (its.take K) st0 i (by rw [List.length_take]; omega)
                rw [this, List.getElem_take])
              have HAR := unhide HI wr (unhide HK).1.fr
              obtain ⟨bi2, off2, e, hc⟩ := HAR.cells (by omega)
              injection e with e
              injection e with e1 e2
              subst e1 e2
              obtain ⟨k1, ao, cap, k2, k3⟩ := hc i hlen
              have HBT : Hid (∀ u, Fr (fun k => k = p) w u → u.cell? ⟨bi, off + i * 2 + 1, none⟩ = some (.slice ao its[i].bytes.length cap) → BAt u ao cap its[i].bytes) := hide (fun u hu hcl => by
                obtain ⟨b3, o3, e3, hc3⟩ := (unhide HI u hu).cells (by omega)
                injection e3 with e3
                injection e3 with e4 e5
                subst e4 e5
                obtain ⟨_, ao3, cap3, m2, m3⟩ := hc3 i hlen
                rw [hcl] at m2
                injection m2 with m2
                injection m2 with a1 a2 a3
                subst a1 a3
                exact m3)
              have hxi := okI_iff (isQgo_all its none (unhide HQ) its[i] (List.getElem_mem hlen))
              have HFX := hide (unhide HUP its[i] (List.getElem_mem hlen))
              clear hc HAR
              generalize its[i] = x at *
              obtain ⟨q, bs⟩ := x
              simp only at k1 k2 k3 hxi HFX HBT
              generalize ((its.take K).take i).foldl (stepD first) st0 = sd at *
              obtain ⟨s2, fs, last⟩ := sd
              have c0 : wr.cell? ⟨p, 0, none⟩ = some (.int .i64 s1.win) := by have := (unhide HK).1.ds.bx.cell 0; rw [(unhide HK).2.win] at this; exact this
              have HDU := hide (ddue_any (unhide HK).1.ds q (by rw [(unhide HK).2.evy]; exact (unhide HB1).2.2.1) (by rw [(unhide HK).2.clk]; exact (unhide HB1).2.2.2.2) (fun e he => by have := (unhide HK).2.tks e he; rw [(unhide HK).2.clk]; exact this) (by have := (unhide HK).2.few; have := (unhide HSO).few; have := unhide HLN; simp only at *; omega))
              simp only at HDU
              go_wp2_with fail
              refine (unhide HDU).mono ?_
              clear HDU
              cases hdue : dueD s2 q with
              | false =>
                have HSK : Hid (((its.take K).take (i + 1)).foldl (stepD first) st0 = (s2, fs, last)) := hide (by rw [unhide HST]; unfold stepD; simp only; rw [hdue]; rfl)
                clear hdue HST
                rintro e w6 ⟨rfl, h6⟩
                go_wp2
                exact ⟨⟨i + 1, so, sc, sb, fo, fc, fb, xs, by omega, rfl, by rw [unhide HSK], by go_num, hide (by rw [unhide HSK]; exact ⟨(unhide HK).1.keep (unhide h6), (unhide HK).2.skip⟩)⟩, by simp [intOf]; omega⟩
              | true =>
                obtain ⟨hsend, hopen⟩ := (unhide HK).2.send (unhide HB1).2.1.1 (unhide HB1).2.2.2.1 q bs hxi.1 hxi.2
                have HSK : Hid (((its.take K).take (i + 1)).foldl (stepD first) st0 = (markD s2 q first, addF bs (openF s1.bat first q fs), q)) := hide (by rw [unhide HST]; unfold stepD; simp only; rw [hdue, if_pos rfl]; simp only at hopen; rw [hopen])
                have HSN : Hid (SB s1 first (i + 1) (markD s2 q first, addF bs (openF s1.bat first q fs), q)) := hide (by simp only at hsend hopen; rw [hopen] at hsend; exact hsend)
                clear hdue HST hsend hopen
                rintro e w6 ⟨rfl, h6⟩
                have HT6 := hide ((unhide HK).1.keep (unhide h6))
                have HF6 := hide (unhide h6)
                clear h6 c0 k1
                have HMA := hide (dmark_any (unhide HT6).ds q first (by have := (unhide HK).2.few; have := (unhide HSO).few; have := unhide HLN; simp only at *; omega))
                go_wp2_with fail
                refine (unhide HMA).mono ?_
                clear HMA
                rintro e w7 ⟨rfl, so7, sc7, sb7, H7⟩
                have HT7 := hide ((unhide HT6).mark (unhide H7).1 (unhide H7).2.1 (unhide H7).2.2)
                simp only at HT7
                have k27 : w7.cell? ⟨bi, off + i * 2 + 1, none⟩ = some (.slice ao bs.length cap) := by
                  have h1 := ((unhide HF6).cell (World.block_lt_of_cell? _ _ k2) (fun t => t)).trans k2
                  obtain ⟨bb, oo2, e, hc⟩ := (unhide HI w7 (unhide HT7).fr).cells (by omega)
                  refine ((unhide H7).2.1.cell (World.block_lt_of_cell? _ _ h1) (fun t => ?_)).trans h1
                  have t : bi = p := t
                  have hb := unhide HBIP
                  omega
                clear H7 HT6 HF6 k2
                go_upto_region 25 with (fail)
                obtain ⟨nb, hnb⟩ : ∃ nb, (!joinsF s1.bat fs q) = nb := ⟨_, rfl⟩
                have HNB := hide hnb
                clear hnb
                have hq1 : 1 ≤ q := hxi.1.1
                have hq2 : q ≤ 4294967295 := hxi.1.2
                have hx63 : xs.length ≤ 63 := by
                  have h1 := (unhide HK).2.ok.few
                  have h2 := congrArg List.length (unhide HK).1.fs
                  simp only [List.length_map] at h1 h2
                  omega
                have HW7 : Hid (∀ n, TD w p (markD s2 q first, fs, last) so7 sc7 sb7 fo fc fb xs (w7.drewN n) ∧ (w7.drewN n).cell? ⟨bi, off + i * 2 + 1, none⟩ = some (.slice ao bs.length cap)) := hide (fun n => ⟨(unhide HT7).keep ((Fr.refl _ _).drewN n), k27⟩)
                go_cut [6, 120] from 97 to 120 (fun v6 v120 wc => v6 = .slice fo xs.length fc ∧ v120 = .bool nb ∧ Hid (∃ n, wc = w7.drewN n))
                case first =>
                  have c1 : w7.cell? ⟨p, 1, none⟩ = some (.int .i64 s1.bat) := by have := (unhide HT7).ds.bx.cell 1; rw [show (markD s2 q first).bat = s1.bat from (unhide HK).2.bat] at this; exact this
                  have HLS := hide (unhide HK).2.ls
                  have hlr : 0 ≤ last ∧ last ≤ 4294967295 := (unhide HK).2.lr
                  have hfs : xs.map FrM.f = fs := (unhide HK).1.fs
                  have hwq : IntKind.i64.wrap (q - 1) = q - 1 := by rw [IntKind.wrap_i64]; omega
                  rcases List.eq_nil_or_concat xs with hxs | ⟨pre, x, hxs⟩
                  · subst hxs
                    have HNT : Hid (nb = true) := hide (by rw [← unhide HNB, ← hfs]; rfl)
                    clear hfs hlr HLS
                    go_quiet (fail)
                    go_wp2
                    go_meet
                    exact ⟨rfl, by rw [unhide HNT], hide ⟨_, rfl⟩⟩
                  · rw [List.concat_eq_append] at hxs
                    subst hxs
                    have hgl : fs.getLast? = some x.f := by rw [← hfs, List.map_append, List.map_singleton, List.getLast?_concat]
                    obtain ⟨l1a, l2a⟩ := (unhide HLS).lst x.f hgl
                    have l1 : last = x.f.seq + (x.f.items.length : Int) - 1 := l1a
                    have l2 : (x.f.items.length : Int) ≤ s1.bat := l2a
                    clear l1a l2a
                    have HJ : Hid (nb = !decide ((x.f.items.length : Int) < s1.bat ∧ x.f.seq + (x.f.items.length : Int) = q)) := hide (by rw [← unhide HNB]; unfold joinsF; rw [hgl])
                    obtain ⟨hfo, hlc⟩ := (unhide HT7).fl.lastc
                    have d3 : w7.cell? ⟨fb, pre.length * 5 + 3, none⟩ = some (.slice x.io x.f.items.length x.ic) := hlc 3 (by omega)
                    obtain ⟨S, hS⟩ : ∃ S : Nat, (pre ++ [x]).length = S := ⟨_, rfl⟩
                    have hS1 : S = pre.length + 1 := by rw [← hS]; simp
                    have HSL : Hid ((pre ++ [x]).length = S) := hide hS
                    rw [hS] at hx63 ⊢
                    have hp0 : (0 : Int) ≤ (pre.length : Int) := by omega
                    have hp1 : (pre.length : Int) < (S : Int) := by omega
                    have hp2 : decide ((pre.length : Int) < (S : Int)) = true := decide_eq_true hp1
                    have hp3 : decide (pre.length < S) = true := decide_eq_true (by omega)
                    have y3 : ((S : Int) == 0) = false := by rw [beq_eq_false_iff_ne]; omega
                    have y4 : (S == 0) = false := by rw [beq_eq_false_iff_ne]; omega
                    have hwp : IntKind.i64.wrap ((S : Int) - 1) = (pre.length : Int) := by rw [IntKind.wrap_i64]; omega
                    subst hfo
                    obtain ⟨L, hL⟩ : ∃ L, x.f.items.length = L := ⟨_, rfl⟩
                    rw [hL] at d3 l1 l2 HJ
                    clear hlc hgl hfs HLS hS hS1 hx63
                    by_cases a1 : last = q - 1
                    · have y5 : (last != q - 1) = false := by rw [bne_eq_false_iff_eq]; exact a1
                      by_cases a2 : (L : Int) = s1.bat
                      · have y6 : ((L : Int) == s1.bat) = true := by rw [beq_iff_eq]; exact a2
                        have HNT : Hid (nb = true) := hide (by rw [unhide HJ, decide_eq_false (by omega)]; rfl)
                        clear a1 a2 l1 l2 hL
                        go_quiet (fail)
                        go_wp2
                        go_meet
                        exact ⟨by (show Value.slice _ _ _ = Value.slice _ (pre ++ [x]).length _); rw [unhide HSL], by rw [unhide HNT], hide ⟨_, rfl⟩⟩
                      · have y6 : ((L : Int) == s1.bat) = false := by rw [beq_eq_false_iff_ne]; exact a2
                        have HNT : Hid (nb = false) := hide (by rw [unhide HJ, decide_eq_true (by omega)]; rfl)
                        clear a1 a2 l1 l2 hL
                        go_quiet (fail)
                        go_wp2
                        go_meet
                        exact ⟨by (show Value.slice _ _ _ = Value.slice _ (pre ++ [x]).length _); rw [unhide HSL], by rw [unhide HNT], hide ⟨_, rfl⟩⟩
                    · have y5 : (last != q - 1) = true := by rw [bne_iff_ne]; exact a1
                      have HNT : Hid (nb = true) := hide (by rw [unhide HJ, decide_eq_false (by omega)]; rfl)
                      clear a1 l1 l2 hL
                      go_quiet (fail)
                      go_wp2
                      go_meet
                      exact ⟨by (show Value.slice _ _ _ = Value.slice _ (pre ++ [x]).length _); rw [unhide HSL], by rw [unhide HNT], hide ⟨_, rfl⟩⟩
                case rest =>
                  obtain ⟨rfl, rfl, HC⟩ := hcut
                  obtain ⟨nn, rfl⟩ := unhide HC
                  obtain ⟨hT8, k28⟩ := unhide HW7 nn
                  have HT8 := hide hT8
                  clear hT8 HW7 HC HT7 k27
                  generalize w7.drewN nn = w8 at *
                  go_upto_if 120 with (fail)
                  obtain ⟨infoF, hif, hzf⟩ := Option.map_eq_some_iff.1 infoFm
                  simp only [Prod.mk.injEq] at hzf
                  have HIF := hide (And.intro hif hzf)
                  clear hif hzf
                  go_cut [6] from 121 to 126 (fun v6 wc => ∃ (fo9 : Option Addr) (fc9 fb9 : Nat) (pre : List FrM) (x : FrM) (S : Nat), v6 = .slice fo9 S fc9 ∧ Hid (S = pre.length + 1) ∧ Hid (TD w p (markD s2 q first, openF s1.bat first q fs, last) so7 sc7 sb7 fo9 fc9 fb9 (pre ++ [x]) wc ∧ wc.cell? ⟨bi, off + i * 2 + 1, none⟩ = some (.slice ao bs.length cap) ∧ x.f.items.length ≤ 8 ∧ pre.length ≤ 63))
                  case first =>
                    cases nb with
                    | true =>
                      have hop : openF s1.bat first q fs = fs ++ [⟨1, first, q, [], []⟩] := by unfold openF; rw [if_neg (by have := unhide HNB; simpa using this)]
                      have HTE := hide ((unhide HT8).keep ((Fr.refl (fun _ => False) w8).alloc (.cells #[.int .i64 1, .int .i64 first, .int .i64 q, .slice none 0 0, .slice none 0 0] 25)))
                      have HSR := hide (src_one (P := Tryz.prog) w8 [.int .i64 1, .int .i64 first, .int .i64 q, .slice none 0 0, .slice none 0 0] 48 25 5 Tryz.underlying48 rfl (fun u hu => by simp only [List.mem_cons, List.not_mem_nil, or_false] at hu; rcases hu with rfl | rfl | rfl | rfl | rfl <;> rfl) (W := w8.alloc (.cells #[.int .i64 1, .int .i64 first, .int .i64 q, .slice none 0 0, .slice none 0 0] 25)) (fun j => by rw [World.cell?_alloc_new]; simp))
                      have HOP := hide hop
                      have HKB := hide k28
                      clear hop k28
                      go_wp2_with (at_builtin; refine wpList_append_krow _ rfl (.tmp 121) (.tmp 125) 48 48 rfl 25 infoF _ 5 (by omega) Tryz.underlying48 (unhide HIF).1 (unhide HIF).2.1 rfl (unhide HIF).2.2.1 rfl (unhide HTE).fl.row (flat5 xs) _ _ 1 rfl (unhide HSR) (by rw [(unhide HIF).2.2.2]; omega) (by omega) ?_)
                      intro fo9 fc9 w9 fb9 hkr hgr
                      have HT9 : Hid (TD w p (markD s2 q first, openF s1.bat first q fs, last) so7 sc7 sb7 fo9 fc9 fb9 (xs ++ [⟨⟨1, first, q, [], []⟩, none, 0, 0, [], w9.heap.size, w9.heap.size⟩]) w9 ∧ w9.cell? ⟨bi, off + i * 2 + 1, none⟩ = some (.slice ao bs.length cap)) := by
                        have h9 := (unhide HTE).opens first q hkr hgr
                        rw [unhide HOP]
                        refine hide ⟨h9, ?_⟩
                        have hk := unhide HKB
                        have hlt := World.block_lt_of_cell? _ _ hk
                        have h1 : (w8.alloc (.cells #[.int .i64 1, .int .i64 first, .int .i64 q, .slice none 0 0, .slice none 0 0] 25)).cell? ⟨bi, off + i * 2 + 1, none⟩ = some (.slice ao bs.length cap) := (World.cell?_alloc_lt _ _ _ hlt).trans hk
                        refine (hgr.frZ.cell (World.block_lt_of_cell? _ _ h1) (fun t => ?_)).trans h1
                        have t1 : bi = fb := t.1
                        have := ((unhide HTE).fl.bk t.2).1
                        have := unhide HBIW
                        omega
                      clear hkr hgr HSR HTE HKB
                      go_wp2
                      go_meet
                      exact ⟨fo9, fc9, fb9, xs, ⟨⟨1, first, q, [], []⟩, none, 0, 0, [], w9.heap.size, w9.heap.size⟩, _, rfl, hide rfl, hide ⟨(unhide HT9).1, (unhide HT9).2, by simp, hx63⟩⟩
                    | false =>
                      have hj : joinsF s1.bat fs q = true := by have := unhide HNB; simpa using this
                      have hop : openF s1.bat first q fs = fs := by unfold openF; rw [if_pos hj]
                      have hfs : xs.map FrM.f = fs := (unhide HK).1.fs
                      rcases List.eq_nil_or_concat xs with hxs | ⟨pre, x, hxs⟩
                      · exfalso
                        rw [← hfs, hxs] at hj
                        simp [joinsF] at hj
                      · rw [List.concat_eq_append] at hxs
                        subst hxs
                        have HT9 : Hid (TD w p (markD s2 q first, openF s1.bat first q fs, last) so7 sc7 sb7 fo fc fb (pre ++ [x]) w8 ∧ w8.cell? ⟨bi, off + i * 2 + 1, none⟩ = some (.slice ao bs.length cap) ∧ x.f.items.length ≤ 8 ∧ pre.length ≤ 63) := by
                          rw [hop]
                          have hm : x.f ∈ fs := by rw [← hfs]; simp
                          have h1 := ((unhide HK).2.ok.each x.f hm).2.2.2.1
                          have h2 := (unhide HB1).2.1.2
                          refine hide ⟨unhide HT8, k28, by omega, by simp at hx63; omega⟩
                        have HSL : Hid ((pre ++ [x]).length = pre.length + 1) := hide (by simp)
                        clear hj hop hfs hx63 k28
                        go_wp2
                        go_meet
                        exact ⟨fo, fc, fb, pre, x, _, rfl, HSL, HT9⟩
                  case rest =>
                    obtain ⟨fo9, fc9, fb9, pre, x, S, rfl, HSL, HC⟩ := hcut
                    have hS1 := unhide HSL
                    have hp0 : (0 : Int) ≤ (pre.length : Int) := by omega
                    have hp1 : (pre.length : Int) < (S : Int) := by omega
                    have hp2 : decide ((pre.length : Int) < (S : Int)) = true := decide_eq_true hp1
                    have hp3 : decide (pre.length < S) = true := decide_eq_true (by omega)
                    obtain ⟨hT9, k29, hi8, hp63⟩ := unhide HC
                    have HT9 := hide hT9
                    clear HC HT8 hT9
                    obtain ⟨infoB, hib, hzb⟩ := Option.map_eq_some_iff.1 infoB
                    simp only [Prod.mk.injEq] at hzb
                    have HIB := hide (And.intro hib hzb)
                    obtain ⟨i0, hi0, hz0, hz1, hz2⟩ := info_parts Tryz.info5
                    have HI0 := hide (And.intro hi0 (And.intro hz0 (And.intro hz1 hz2)))
                    clear hib hzb hi0 hz0 hz1 hz2
                    obtain ⟨hfo, hlc⟩ := (unhide HT9).fl.lastc
                    have d3 : wc.cell? ⟨fb9, pre.length * 5 + 3, none⟩ = some (.slice x.io x.f.items.length x.ic) := hlc 3 (by omega)
                    have f3 : wc.frozen? ⟨fb9, pre.length * 5 + 3, none⟩ = false := ((unhide HT9).fl.row.room (pre.length * 5 + 3) (by have := (unhide HT9).fl.row.le; rw [flat5, List.length_append, List.length_singleton] at this; omega)).2
                    subst hfo
                    have hpI : (pre.length : Int) ≤ 63 := by omega
                    have hwp : IntKind.i64.wrap ((S : Int) - 1) = (pre.length : Int) := by rw [IntKind.wrap_i64]; omega
                    clear hS1
                    have HOK := hide ((unhide HT9).fl.ok x (by simp))
                    have HNL : Hid (x.ds.length = x.f.items.length) := hide (unhide HOK).il.n1
                    obtain ⟨L, hL⟩ : ∃ L, x.f.items.length = L := ⟨_, rfl⟩
                    rw [hL] at d3 HNL hi8
                    have HLE := hide hL
                    clear hlc hL
                    have hflt : fb9 < wc.heap.size := World.block_lt_of_cell? _ _ d3
                    have hblt : bi < wc.heap.size := World.block_lt_of_cell? _ _ k29
                    have z3 : (wc.drew.alloc (.cells #[] 5)).cell? ⟨fb9, pre.length * 5 + 3, none⟩ = some (.slice x.io L x.ic) := (World.cell?_alloc_lt _ _ _ hflt).trans d3
                    have zb : (wc.drew.alloc (.cells #[] 5)).cell? ⟨bi, off + i * 2 + 1, none⟩ = some (.slice ao bs.length cap) := (World.cell?_alloc_lt _ _ _ hblt).trans k29
                    have HBZ : Hid (∀ u, Fr (fun _ => False) wc u → BAt u ao cap bs) := hide (fun u hu => unhide HBT u ((unhide HT9).fr.trans hu (fun _ _ t => t.elim)) ((hu.cell hblt (fun t => t)).trans k29))
                    go_upto_region 28 with (fail)
                    go_region_law (first | (refine step_copy rfl (.tmp 137) (.tmp 142) 23 23 rfl 5 i0 Tryz.underlying23 Tryz.underlying23 (unhide HI0).1 (unhide HI0).2.1 (unhide HI0).2.2.1 (unhide HI0).2.2.2 rfl ao cap bs rfl (unhide HBZ _ (((Fr.refl _ _).drew).alloc _)) ?_; intro xo8 xc8 w9 g8 r1 r2 r3; have HF9 := hide (((((Fr.refl (fun _ => False) wc).drew).alloc (.cells #[] 5)).trans r2 (fun _ _ t => t))); have HR9 := hide (And.intro r1 r3); have d9 : w9.cell? ⟨fb9, pre.length * 5 + 3, none⟩ = some (.slice x.io L x.ic) := ((unhide HF9).cell (a := ⟨fb9, pre.length * 5 + 3, none⟩) hflt (fun t => t)).trans d3; have HFA := hide ((unhide HF9).alloc (.cells #[.slice xo8 bs.length xc8] 23)); have dA : (w9.alloc (.cells #[.slice xo8 bs.length xc8] 23)).cell? ⟨fb9, pre.length * 5 + 3, none⟩ = some (.slice x.io L x.ic) := ((unhide HFA).cell (a := ⟨fb9, pre.length * 5 + 3, none⟩) hflt (fun t => t)).trans d3; have HSR := hide (src_one (P := Tryz.prog) w9 [.slice xo8 bs.length xc8] 22 23 1 Tryz.underlying22 rfl (fun u hu => by simp only [List.mem_cons, List.not_mem_nil, or_false] at hu; subst hu; rfl) (W := w9.alloc (.cells #[.slice xo8 bs.length xc8] 23)) (fun j => by rw [World.cell?_alloc_new]; simp)); clear r1 r2 r3) | (refine step_append_krow rfl (.tmp 136) (.tmp 144) 22 22 rfl 23 infoB _ 1 (by omega) Tryz.underlying22 (unhide HIB).1 (unhide HIB).2.1 rfl (unhide HIB).2.2.1 (ao := x.io) (cap := x.ic) (g := x.ib) (n := L) (vs := x.ds.map RD.val) rfl ((unhide HOK).il.frame (unhide HFA) (fun _ t => t) (fun _ _ _ t => t)).row (by rw [List.length_map, unhide HNL]; omega) _ [.slice xo8 bs.length xc8] 1 rfl (unhide HSR) (by rw [(unhide HIB).2.2.2]; omega) (by omega) ?_; intro io9 ic9 wB ib9 hkr hgr; have hne9 : ¬ (fb9 = x.ib ∧ 0 < x.ic) := (fun t => by have h1 := (unhide HOK).il.ib t.2; have h2 := (unhide HT9).fl.last (by have := (unhide HT9).fl.row.le; rw [flat5, List.length_append, List.length_singleton] at this; omega) x (by rw [List.getLast?_concat]); omega); have dB : wB.cell? ⟨fb9, pre.length * 5 + 3, none⟩ = some (.slice x.io L x.ic) := (hgr.frZ.cell (a := ⟨fb9, pre.length * 5 + 3, none⟩) (World.block_lt_of_cell? _ _ dA) hne9).trans dA; have fB : wB.frozen? ⟨fb9, pre.length * 5 + 3, none⟩ = false := (hgr.frZ.frozen (a := ⟨fb9, pre.length * 5 + 3, none⟩) (World.block_lt_of_cell? _ _ dA) hne9).trans (((unhide HFA).frozen (a := ⟨fb9, pre.length * 5 + 3, none⟩) hflt (fun t => t)).trans f3); have HG9 := hide (And.intro hkr hgr); clear hkr hgr))
                    all_goals
                      have HNX : Hid (TD w p (((its.take K).take (i + 1)).foldl (stepD first) st0) so7 sc7 sb7 (some ⟨fb9, 0, none⟩) fc9 fb9 (pre ++ [⟨{ x.f with items := x.f.items ++ [bs] }, io9, ic9, ib9, x.ds ++ [⟨xo8, bs.length, xc8, g8⟩], x.lo, wB.heap.size⟩]) (wB.setCell ⟨fb9, pre.length * 5 + 3, none⟩ (.slice io9 (L + 1) ic9)) ∧ SB s1 first (i + 1) (((its.take K).take (i + 1)).foldl (stepD first) st0)) := by
                        have hadd := (unhide HT9).adds (unhide HFA) (d := ⟨xo8, bs.length, xc8, g8⟩) (b := bs) (by have := hxi.2; omega) ((unhide HR9).1.frame ((Fr.refl (fun _ => False) _).alloc _) (fun t => t)) rfl (fun _ => by have h := (unhide HR9).2; have e1 : (wc.drew.alloc (.cells #[] 5)).heap.size = wc.heap.size + 1 := heap_alloc wc.drew _; have e2 : (wc.alloc (.cells #[] 5)).drew.heap.size = wc.heap.size + 1 := heap_alloc wc _; show wc.heap.size ≤ g8; omega) (unhide HG9).1 (unhide HG9).2 q
                        rw [unhide HLE] at hadd
                        rw [unhide HSK]
                        exact hide ⟨hadd, unhide HSN⟩
                      have HQS : Hid ((((its.take K).take (i + 1)).foldl (stepD first) st0).2.2 = q) := hide (by rw [unhide HSK])
                      clear HG9 HSR HFA HF9 HR9 d9 dA dB fB z3 zb HBZ d3 f3 k29 HOK HT9
                      go_wp2
                      exact ⟨⟨i + 1, so7, sc7, sb7, some ⟨fb9, 0, none⟩, fc9, fb9, _, by omega, by rw [unhide HSL, List.length_append, List.length_singleton], by rw [unhide HQS], by go_num, HNX⟩, by simp [intOf]; omega⟩
            · obtain rfl : i = K := by omega
              have HEND : Hid (¬ i < its.length ∨ (i < its.length ∧ ¬ (i : Int) < s1.win)) := by
                have := unhide HKK
                have := (unhide HB1).1
                by_cases t : i < its.length
                · exact hide (.inr ⟨t, by omega⟩)
                · exact hide (.inl t)
              have hrr : (its.take i).take i = its.take i := by rw [List.take_take, Nat.min_self]
              rw [hrr] at HK
              rw [hrr]
              generalize (its.take i).foldl (stepD first) st0 = sd at *
              obtain ⟨s2, fs, last⟩ := sd
              have c0 : wr.cell? ⟨p, 0, none⟩ = some (.int .i64 s1.win) := by have := (unhide HK).1.ds.bx.cell 0; rw [(unhide HK).2.win] at this; exact this
              have HFIN : Hid (xs.length = TT.2.length) := hide (by rw [unhide HE]; have := congrArg List.length (unhide HK).1.fs; simpa using this)
              have HRES : Hid (∃ so' sc' sb' fb xs, DS wr p TT.1 so' sc' sb' ∧ NewOr w.heap.size sc' sb' SC SB0 ∧ FL w.heap.size wr fo fc fb xs ∧ xs.map FrM.f = TT.2 ∧ Fr (fun k => k = p) w wr) := hide (by rw [unhide HE]; exact ⟨so, sc, sb, fb, xs, (unhide HK).1.ds, fun hc => .inl ((unhide HK).1.nw hc), (unhide HK).1.fl, (unhide HK).1.fs, (unhide HK).1.fr⟩)
              rcases unhide HEND with y1 | ⟨y1, y2⟩
              · clear HE HK HEND hrr hil
                have y3 : ¬ (i : Int) < (its.length : Int) := by omega
                have y4 : decide (i < its.length) = false := decide_eq_false y1
                have y5 : decide ((i : Int) < (its.length : Int)) = false := decide_eq_false y3
                go_wp2
                go_ret
                exact ⟨fo, fc, by rw [← unhide HFIN]; rfl, hide (by obtain ⟨a1, a2, a3, a4, a5, a6, b6, a7, a8, a9⟩ := unhide HRES; first | exact ⟨⟨a1, a2, a3, a6, b6⟩, a4, a5, a7, a8, a9⟩ | exact ⟨a1, a2, a3, a6, b6, a4, a5, a7, a8, a9⟩ | exact ⟨a1, a2, a3, a4, a5, a6, b6, a7, a8, a9⟩)⟩
              · clear HE HK HEND hrr hil
                have y3 : (i : Int) < (its.length : Int) := by omega
                have y4 : decide (i < its.length) = true := decide_eq_true y1
                have y5 : decide ((i : Int) < (its.length : Int)) = true := decide_eq_true y3
                have y6 : decide ((i : Int) < s1.win) = false := decide_eq_false y2
                go_wp2
                go_ret
                exact ⟨fo, fc, by rw [← unhide HFIN]; rfl, hide (by obtain ⟨a1, a2, a3, a4, a5, a6, b6, a7, a8, a9⟩ := unhide HRES; first | exact ⟨⟨a1, a2, a3, a6, b6⟩, a4, a5, a7, a8, a9⟩ | exact ⟨a1, a2, a3, a6, b6, a4, a5, a7, a8, a9⟩ | exact ⟨a1, a2, a3, a4, a5, a6, b6, a7, a8, a9⟩)⟩

end Go.Proofs.YtabhfeocelljdaaGreatDoor

