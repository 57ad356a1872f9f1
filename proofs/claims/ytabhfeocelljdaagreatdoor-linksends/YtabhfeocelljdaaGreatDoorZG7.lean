import Derived.Test.YtabhfeocelljdaaGreatDoorZG6
/- Contract: Tick. -/
namespace Go.Proofs.YtabhfeocelljdaaGreatDoor
open Go.RowKit Go.Maps

theorem infoFm : (Tryz.prog.info? 25).map (fun i => (i.zero, i.size, i.bytes)) = some (some (.agg #[.int .i64 0, .int .i64 0, .int .i64 0, .slice none 0 0, .slice none 0 0]), 5, 72) := by kernel_rfl

/-- What the loop of Tick holds. -/
structure TK (w : World) (p b : Nat) (s1 : Snd) (base : Int) (i : Nat) (st : List (Int × Int) × List Fm) (fo : Option Addr) (fc fb : Nat) (xs : List FrM) (wr : World) : Prop where
  tl : TL w p b s1 st.1 fo fc fb xs wr
  fs : xs.map FrM.f = st.2
  ok : FOk base s1.bat i st.2
  len : st.1.length ≤ 1099511627776 + i
  sq : ∀ f ∈ st.2, 1 ≤ f.seq ∧ f.seq ≤ 4294967295

theorem openF_sq {bat base q : Int} {fs : List Fm} (b : List UInt8) (h : ∀ f ∈ fs, 1 ≤ f.seq ∧ f.seq ≤ 4294967295) (hq : 1 ≤ q ∧ q ≤ 4294967295) : ∀ f ∈ addF b (openF bat base q fs), 1 ≤ f.seq ∧ f.seq ≤ 4294967295 := by
  have ho : ∀ f ∈ openF bat base q fs, 1 ≤ f.seq ∧ f.seq ≤ 4294967295 := by
    unfold openF
    split
    · exact h
    · intro f hf
      rw [List.mem_append, List.mem_singleton] at hf
      rcases hf with hf | rfl
      · exact h f hf
      · exact hq
  generalize openF bat base q fs = l at *
  rcases List.eq_nil_or_concat l with rfl | ⟨pre, x, rfl⟩
  · intro f hf; simp [addF] at hf
  · rw [List.concat_eq_append] at *
    rw [addF_snoc]
    intro f hf
    rw [List.mem_append, List.mem_singleton] at hf
    rcases hf with hf | rfl
    · exact ho f (List.mem_append_left _ hf)
    · exact ho x (by simp)
theorem openF_len {bat base q : Int} {fs : List Fm} : 0 < (openF bat base q fs).length := by
  unfold openF
  split
  · rename_i h
    cases fs with
    | nil => simp [joinsF] at h
    | cons a r => simp
  · simp

theorem foldl_take_succ {α β : Type} (f : β → α → β) (l : List α) (a : β) (i : Nat) (h : i < l.length) : (l.take (i + 1)).foldl f a = f ((l.take i).foldl f a) l[i] := by
  rw [List.take_succ_eq_append_getElem h, List.foldl_append]; rfl

theorem isQgo_all (l : List Itm) : ∀ (p : Option Int), isQgo p l = true → ∀ x ∈ l, okI x = true := by
  induction l with
  | nil => intro p _ x hx; cases hx
  | cons y r ih =>
    intro p h x hx
    simp only [isQgo, Bool.and_eq_true] at h
    rw [List.mem_cons] at hx
    rcases hx with rfl | hx
    · exact h.1.1
    · exact ih _ h.2 x hx
theorem okI_iff {x : Itm} (h : okI x = true) : (1 ≤ x.seq ∧ x.seq ≤ 4294967295) ∧ x.bytes.length ≤ 256 := by
  simp only [okI, Bool.and_eq_true, decide_eq_true_eq, Bool.not_eq_true', longB, decide_eq_false_iff_not] at h
  exact ⟨h.1, by omega⟩
theorem wf_i64 {x : Int} (h1 : -9223372036854775808 ≤ x) (h2 : x ≤ 9223372036854775807) : (Lit.int .i64 x).wf = true := by
  simp only [Lit.wf, Bool.and_eq_true, decide_eq_true_eq]
  exact ⟨h1, h2⟩
theorem TK.skip {w : World} {p b : Nat} {s1 : Snd} {base : Int} {i : Nat} {st : List (Int × Int) × List Fm} {fo : Option Addr} {fc fb : Nat} {xs : List FrM} {wr w' : World} (h : TK w p b s1 base i st fo fc fb xs wr) (k : Fr (fun _ => False) wr w') : TK w p b s1 base (i + 1) st fo fc fb xs w' :=
  ⟨h.tl.keep k, h.fs, h.ok.mono (by omega), by have := h.len; omega, h.sq⟩

set_option maxHeartbeats 4000000 in
set_option maxRecDepth 20000 in
theorem tick_any {w : World} {p b : Nat} {s : Snd} (h : SN w p b s) (io : Option Addr) (ic : Nat) (its : List Itm) (hI : ∀ u, Fr (fun k => k = p ∨ k = b) w u → ItsAt u io its) (hic : its.length ≤ ic) (hclk : s.clk < 1152921504606846976) (hsent : s.sent.length ≤ 1099511627776) :
    Calls Tryz.prog 17 #[.pointer (some ⟨p, 0, none⟩), .slice io its.length ic] w fun e w' => ∃ fo fc, e = .returned (.slice fo (tickF s its).2.length fc) ∧ Hid (SN w' p b (tickF s its).1 ∧ (∃ fb xs, FL w.heap.size w' fo fc fb xs ∧ xs.map FrM.f = (tickF s its).2) ∧ Fr (fun k => k = p ∨ k = b) w w' ∧ FOk (baseOf its) s.bat 64 (tickF s its).2) := by
  have c3 : w.cell? ⟨p, 3, none⟩ = some (.int .i64 s.clk) := h.bx.cell 3
  have f3 : w.frozen? ⟨p, 3, none⟩ = false := h.bx.frozen 3
  have hk0 := h.clk.1
  have hne := h.ne
  have F1 : Fr (fun k => k = p ∨ k = b) w (w.setCell ⟨p, 3, none⟩ (.int .i64 (s.clk + 1))) := Fr.setCell (S := fun k => k = p ∨ k = b) (Fr.refl _ _) (p := ⟨p, 3, none⟩) (fun _ => .inl rfl) _
  have S1 : SN (w.setCell ⟨p, 3, none⟩ (.int .i64 (s.clk + 1))) p b { s with clk := s.clk + 1 } := ⟨by have := h.bx.setCell 3 (.int .i64 (s.clk + 1)); exact this, h.mp.frame (Fr.setCell (S := fun k => k = p) (Fr.refl _ _) (p := ⟨p, 3, none⟩) (fun _ => rfl) _) (fun t => h.ne t.symm), h.ne, h.win, h.bat, h.evy, ⟨by show 0 ≤ s.clk + 1; omega, by show s.clk + 1 ≤ _; omega⟩, fun x hx => by have := h.tks x hx; show 0 ≤ x.2 ∧ x.2 ≤ s.clk + 1; omega⟩
  have HPB : Hid (p < w.heap.size ∧ b < w.heap.size) := hide ⟨h.bx.lt, h.mp.lt⟩
  have HI := hide hI
  have HC := hide (And.intro hic (And.intro hclk hsent))
  have HWIN := hide h.win
  clear h hI hic hsent hne
  go_enter Tryz.func17, Tryz.ntmps17
  go_wp2_with fail
  generalize w.setCell ⟨p, 3, none⟩ (.int .i64 (s.clk + 1)) = w1 at *
  have HF1 := hide F1
  have HS1 := hide S1
  clear F1 S1 c3 f3
  refine (isqueue_any w1 io ic its (unhide HI w1 (unhide HF1))).mono ?_
  cases hq : isQ its with
  | false =>
    have HT : Hid (tickF s its = ({ s with clk := s.clk + 1 }, [])) := hide (by unfold tickF; rw [hq]; rfl)
    rintro e w2 ⟨rfl, h2⟩
    clear hq
    go_wp2
    go_ret
    rw [unhide HT]
    exact ⟨none, 0, rfl, hide ⟨(unhide HS1).frame (unhide h2) (fun t => t) (fun t => t), ⟨0, [], FL.nil _ _ _, rfl⟩, (unhide HF1).trans (unhide h2) (fun _ _ t => t.elim), (FOk.nil _ _).mono (by omega)⟩⟩
  | true =>
    have HT : Hid (tickF s its = ({ s with clk := s.clk + 1, sent := ((its.take s.win.toNat).foldl (stepT { s with clk := s.clk + 1 } (baseOf its)) (s.sent.filter (keepS its (s.clk + 1) s.evy), [])).1 }, ((its.take s.win.toNat).foldl (stepT { s with clk := s.clk + 1 } (baseOf its)) (s.sent.filter (keepS its (s.clk + 1) s.evy), [])).2)) := hide (by unfold tickF; rw [hq]; rfl)
    have HQ := hide hq
    rintro e w2 ⟨rfl, h2⟩
    have HF2 := hide ((unhide HF1).trans (unhide h2) (fun _ _ t => t.elim))
    have HS2 := hide ((unhide HS1).frame (unhide h2) (fun t => t) (fun t => t))
    clear hq h2 HF1 HS1
    go_wp2_with fail
    refine (forget_any (unhide HS2) io ic its (fun u hu => unhide HI u ((unhide HF2).trans hu (fun _ _ t => .inr t)))).mono ?_
    rintro e w3 ⟨rfl, hS3, hF3⟩
    have HF3 := hide ((unhide HF2).trans hF3 (fun _ _ t => .inr t))
    obtain ⟨s1, hs1⟩ : ∃ s1 : Snd, ({ s with clk := s.clk + 1 } : Snd) = s1 := ⟨_, rfl⟩
    have HS3 : Hid (TL w p b s1 (s.sent.filter (keepS its (s.clk + 1) s.evy)) none 0 0 [] w3) := hide (by rw [← hs1]; exact ⟨hS3, FL.nil _ _ _, unhide HF3, unhide HPB⟩)
    have c0 : w3.cell? ⟨p, 0, none⟩ = some (.int .i64 s.win) := hS3.bx.cell 0
    have HSL : Hid ((s.sent.filter (keepS its (s.clk + 1) s.evy)).length ≤ 1099511627776) := hide (Nat.le_trans (List.length_filter_le _ _) (unhide HC).2.2)
    clear hS3 hF3 HS2 HF2
    obtain ⟨W, hW⟩ : ∃ W : Nat, s.win = (W : Int) := ⟨s.win.toNat, (Int.toNat_of_nonneg (by have := (unhide HWIN).1; omega)).symm⟩
    have hW64 : W ≤ 64 := by have := (unhide HWIN).2; omega
    have HT2 : Hid (tickF s its = ({ s1 with sent := ((its.take W).foldl (stepT s1 (baseOf its)) (s.sent.filter (keepS its (s.clk + 1) s.evy), [])).1 }, ((its.take W).foldl (stepT s1 (baseOf its)) (s.sent.filter (keepS its (s.clk + 1) s.evy), [])).2)) := hide (by rw [unhide HT, ← hs1, hW, Int.toNat_natCast])
    obtain ⟨K, hK⟩ : ∃ K, (its.take W).length = K := ⟨_, rfl⟩
    have hKl : K = min W its.length := by rw [← hK, List.length_take]
    have hmin : min (its.length : Int) (W : Int) = (K : Int) := by omega
    have hKc : K ≤ ic := by have := (unhide HC).1; omega
    have hK64 : K ≤ 64 := by omega
    have hKi : K ≤ its.length := by omega
    have HB1 : Hid (s1.bat = s.bat ∧ s1.clk = s.clk + 1 ∧ (1 ≤ s1.bat ∧ s1.bat ≤ 8) ∧ 0 ≤ s1.clk ∧ s1.clk ≤ 1152921504606846976) := hide (by rw [← hs1]; exact ⟨rfl, rfl, (unhide HS3).sn.bat |> fun t => by rw [← hs1] at t; exact t, by show 0 ≤ s.clk + 1; omega, by show s.clk + 1 ≤ _; omega⟩)
    rw [hW] at c0
    have HG : Hid (∀ i (hi : i < K), (its.take W)[i]? = its[i]?) := hide (fun i hi => by rw [List.getElem?_take]; rw [if_pos (by omega)])
    generalize s.sent.filter (keepS its (s.clk + 1) s.evy) = l0 at *
    have HKE := hide (And.intro hK hKl)
    clear hK hKl hs1 hW HT hclk hk0 HWIN
    have hcase : (W < its.length ∧ K = W) ∨ (its.length ≤ W ∧ its.length = K) := by omega
    clear hmin
    rcases hcase with ⟨hwl, eK⟩ | ⟨hwl, eK⟩
    obtain rfl := eK
    go_wp2
    rotate_left
    have HEK := hide eK
    clear eK
    go_wp2
    try rw [unhide HEK]
    clear HEK
    all_goals
      clear hW64 hwl
      go_loopw [5, 34] (fun fv iv wr => ∃ (i : Nat) (fo : Option Addr) (fc fb : Nat) (xs : List FrM), i ≤ K ∧ fv = .slice fo xs.length fc ∧ iv = .int .i64 i ∧ Hid (TK w p b s1 (baseOf its) i (((its.take K).take i).foldl (stepT s1 (baseOf its)) (l0, [])) fo fc fb xs wr)) (fun _ iv _ => K - (intOf iv).toNat)
      case atStart => exact ⟨0, none, 0, 0, [], Nat.zero_le _, rfl, rfl, hide ⟨unhide HS3, rfl, FOk.nil _ _, by have := unhide HSL; show l0.length ≤ _; omega, fun f hf => by (cases hf)⟩⟩
      case round =>
        obtain ⟨i, fo, fc, fb, xs, hi, rfl, rfl, HK⟩ := hrel
        by_cases hil : i < K
        · have hiI : (i : Int) < (K : Int) := by omega
          have hKi2 := hKi
          have hil2 : i < its.length := by omega
          obtain ⟨bi, off, e, hc⟩ := (unhide HI wr (unhide HK).tl.fr).cells (by omega)
          obtain ⟨k1, ao, cap, k2, k3⟩ := hc i hil2
          have k0 := (hc 0 (by omega)).1
          have HBI : Hid (bi < w.heap.size) := by
            obtain ⟨b2, o2, e2, hc2⟩ := (unhide HI w (Fr.refl _ _)).cells (by omega)
            rw [e] at e2
            injection e2 with e2
            injection e2 with e3 e4
            have := World.block_lt_of_cell? _ _ (hc2 0 (by omega)).1
            exact hide (by rw [e3]; exact this)
          have HBT : Hid (∀ u, Fr (fun k => k = p ∨ k = b) w u → u.cell? ⟨bi, off + i * 2 + 1, none⟩ = some (.slice ao its[i].bytes.length cap) → BAt u ao cap its[i].bytes) := hide (fun u hu hcu => by
            obtain ⟨b2, o2, e2, hc2⟩ := (unhide HI u hu).cells (by omega)
            rw [e] at e2
            injection e2 with e2
            injection e2 with e3 e4
            subst e3 e4
            obtain ⟨_, ao2, cap2, h2, h3⟩ := hc2 i hil2
            rw [hcu] at h2
            injection h2 with h2
            injection h2 with h4 _ h5
            rw [h4, h5]
            exact h3)
          subst e
          clear hc
          have hxi := okI_iff (isQgo_all its none (unhide HQ) its[i] (List.getElem_mem hil2))
          have HST : Hid (((its.take K).take (i + 1)).foldl (stepT s1 (baseOf its)) (l0, []) = stepT s1 (baseOf its) (((its.take K).take i).foldl (stepT s1 (baseOf its)) (l0, [])) its[i]) := hide (by rw [foldl_take_succ _ _ _ _ (by rw [List.length_take]; omega), List.getElem_take])
          have hbs : baseOf its = (its[0]'(by omega)).seq := by
            cases its with
            | nil => simp at hil2
            | cons y r => rfl
          rw [Nat.zero_mul, Nat.add_zero, ← hbs] at k0
          clear hbs
          generalize its[i] = x at *
          obtain ⟨q, bs⟩ := x
          simp only at k1 k2 k3 hxi HBT
          generalize ((its.take K).take i).foldl (stepT s1 (baseOf its)) (l0, []) = st at *
          generalize baseOf its = base at *
          obtain ⟨sent, fs⟩ := st
          obtain ⟨⟨hq1, hq2⟩, hl256⟩ := hxi
          have hlt1 := World.block_lt_of_cell? _ _ k1
          have HWA := hide ((unhide HK).tl.keep ((Fr.refl (fun _ => False) wr).alloc (.cells #[.int .i64 q, .slice ao bs.length cap] 47)))
          have c4 : (wr.alloc (.cells #[.int .i64 q, .slice ao bs.length cap] 47)).cell? ⟨p, 4, none⟩ = some (.map (some b)) := (unhide HWA).sn.bx.cell 4
          obtain ⟨B, hB⟩ : ∃ B, wr.heap.size = B := ⟨_, rfl⟩
          have HBX := hide (Bx.new wr #[.int .i64 q, .slice ao bs.length cap] 47)
          have hwq : (Lit.int .i64 q).wf = true := wf_i64 (by omega) (by omega)
          have HS9 : Hid (∀ u, Fr (fun _ => False) (wr.alloc (.cells #[.int .i64 q, .slice ao bs.length cap] 47)) u → u.cell? ⟨p, 4, none⟩ = some (.map (some b)) ∧ u.cell? ⟨wr.heap.size, 0, none⟩ = some (.int .i64 q) ∧ (Instr.lookup 71 (.map (some b)) (.int .i64 q) true).run Tryz.prog u = .ok (.tuple #[.int .i64 ((sAt sent q).getD 0), .bool (sAt sent q).isSome]) u) := hide (fun u hu => ⟨((unhide HWA).keep hu).sn.bx.cell 4, ((unhide HBX).keep hu).cell 0, ((unhide HWA).keep hu).sn.mp.look hwq⟩)
          generalize (sAt sent q).getD 0 = cv at *
          have HFA : Hid (Fr (fun _ => False) wr (wr.alloc (.cells #[.int .i64 q, .slice ao bs.length cap] 47))) := hide ((Fr.refl _ _).alloc _)
          cases hsm : (sAt sent q).isSome with
          | true =>
            rw [hsm] at HS9
            have HSK : Hid (((its.take K).take (i + 1)).foldl (stepT s1 base) (l0, []) = (sent, fs)) := hide (by rw [unhide HST]; unfold stepT; rw [if_pos hsm])
            clear hsm HST k0
            clear hB
            go_wp2_with fail
            go_region_held3 (fun u => u.cell? ⟨p, 4, none⟩ = some (.map (some b)) ∧ u.cell? ⟨wr.heap.size, 0, none⟩ = some (.int .i64 q) ∧ (Instr.lookup 71 (.map (some b)) (.int .i64 q) true).run Tryz.prog u = .ok (.tuple #[.int .i64 cv, .bool true]) u) (first | exact unhide HS9 _ ((Fr.refl _ _).drew)) (fail)
            go_wp2
            exact ⟨⟨i + 1, fo, fc, fb, xs, by omega, rfl, by go_num, hide (by rw [unhide HSK]; exact (unhide HK).skip (((Fr.refl _ _).alloc _).drew))⟩, by simp [intOf]; omega⟩
          | false =>
            rw [hsm] at HS9
            have hno : sAt sent q = none := by
              cases hh : sAt sent q with
              | none => rfl
              | some v => rw [hh] at hsm; cases hsm
            have HSK : Hid (((its.take K).take (i + 1)).foldl (stepT s1 base) (l0, []) = (sent ++ [(q, s1.clk)], addF bs (openF s1.bat base q fs))) := hide (by rw [unhide HST]; unfold stepT; rw [if_neg (by simp [hsm])])
            have HNO := hide hno
            clear hsm HST hno
            clear hB
            go_wp2_with fail
            go_region_held3 (fun u => u.cell? ⟨p, 4, none⟩ = some (.map (some b)) ∧ u.cell? ⟨wr.heap.size, 0, none⟩ = some (.int .i64 q) ∧ (Instr.lookup 71 (.map (some b)) (.int .i64 q) true).run Tryz.prog u = .ok (.tuple #[.int .i64 cv, .bool false]) u) (first | exact unhide HS9 _ ((Fr.refl _ _).drew)) (fail)
            go_wp2_with fail
            have HTA := hide ((unhide HWA).keep ((Fr.refl (fun _ => False) _).drew))
            have HBA : Hid (Bx (wr.alloc (.cells #[.int .i64 q, .slice ao bs.length cap] 47)).drew wr.heap.size #[.int .i64 q, .slice ao bs.length cap] 47) := HBX
            have HFW : Hid (Fr (fun _ => False) wr (wr.alloc (.cells #[.int .i64 q, .slice ao bs.length cap] 47)).drew) := hide (((Fr.refl _ _).alloc _).drew)
            have HBW : Hid (w.heap.size ≤ wr.heap.size) := hide (unhide HK).tl.fr.size
            have HFB : Hid (0 < fc → fb < wr.heap.size ∧ w.heap.size ≤ fb) := hide (fun hc => ⟨(unhide HK).tl.fl.row.lt (by omega) hc, ((unhide HK).tl.fl.bk hc).1⟩)
            generalize (wr.alloc (.cells #[.int .i64 q, .slice ao bs.length cap] 47)).drew = Wa at *
            have HIA : Hid (Wa.cell? ⟨bi, off, none⟩ = some (.int .i64 base) ∧ Wa.cell? ⟨bi, off + i * 2 + 1, none⟩ = some (.slice ao bs.length cap)) := hide ⟨((unhide HFW).cell (World.block_lt_of_cell? _ _ k0) (fun t => t)).trans k0, ((unhide HFW).cell (World.block_lt_of_cell? _ _ k2) (fun t => t)).trans k2⟩
            clear HS9 HWA HBX HFA c4 k0 k1 k2 k3 hlt1
            generalize wr.heap.size = B at *
            obtain ⟨hb1, hb2⟩ := (unhide HPB)
            have HTD := hide ((unhide HTA).keep ((Fr.refl (fun _ => False) _).drew))
            obtain ⟨w4, hup, hm4, hf4, hz4⟩ := (unhide HTD).sn.mp.put (q := q) (t := s1.clk) (unhide HNO) hwq (wf_i64 (by have := (unhide HB1).2.2.2.1; omega) (by have := (unhide HB1).2.2.2.2; omega)) (by have := (unhide HK).len; show sent.length < _; simp only at this; omega)
            have HF4 : Hid (Fr (fun k => k = b) Wa w4) := hide (((Fr.refl (fun k => k = b) Wa).drew).trans hf4 (fun _ _ t => t))
            have HT4 := hide ((unhide HTD).note hf4 hm4)
            have HBB : Hid (B ≠ b ∧ B ≠ p) := hide (by have := unhide HBW; omega)
            have HS11 : Hid (∀ u, Fr (fun k => k = b) Wa u → u.cell? ⟨p, 4, none⟩ = some (.map (some b)) ∧ u.cell? ⟨p, 3, none⟩ = some (.int .i64 s1.clk) ∧ u.cell? ⟨B, 0, none⟩ = some (.int .i64 q)) := hide (fun u hu => ⟨((unhide HTA).sn.bx.frame hu (unhide HTA).sn.ne).cell 4, ((unhide HTA).sn.bx.frame hu (unhide HTA).sn.ne).cell 3, ((unhide HBA).frame hu (unhide HBB).1).cell 0⟩)
            have HB4 := hide ((unhide HBA).frame (unhide HF4) (unhide HBB).1)
            have HI4 : Hid (w4.cell? ⟨bi, off, none⟩ = some (.int .i64 base) ∧ w4.cell? ⟨bi, off + i * 2 + 1, none⟩ = some (.slice ao bs.length cap)) := by
              have hne : bi ≠ b := by
                intro t
                subst t
                have h1 := (unhide HIA).1
                obtain ⟨D, ⟨es, clock, hbk, _⟩, _⟩ := (unhide HTA).sn.mp
                simp [World.cell?, hbk] at h1
              exact hide ⟨((unhide HF4).cell (World.block_lt_of_cell? _ _ (unhide HIA).1) hne).trans (unhide HIA).1, ((unhide HF4).cell (World.block_lt_of_cell? _ _ (unhide HIA).2) hne).trans (unhide HIA).2⟩
            clear hm4 hf4 hz4 HIA
            go_region_held3 (fun u => u.cell? ⟨p, 4, none⟩ = some (.map (some b)) ∧ u.cell? ⟨p, 3, none⟩ = some (.int .i64 s1.clk) ∧ u.cell? ⟨B, 0, none⟩ = some (.int .i64 q)) (first | exact unhide HS11 _ ((Fr.refl _ _).drew) | exact unhide HS11 _ (unhide HF4)) (fail)
            have b0 : w4.cell? ⟨B, 0, none⟩ = some (.int .i64 q) := (unhide HB4).cell 0
            have hxl : xs.length = fs.length := by have := congrArg List.length (unhide HK).fs; simpa using this
            have hx64 : xs.length ≤ 63 := by have := (unhide HK).ok.few; simp only at this; omega
            have HX8 : Hid (∀ x ∈ xs, x.f.items.length ≤ 8 ∧ 1 ≤ x.f.seq ∧ x.f.seq ≤ 4294967295) := hide (fun x hx => by
              have hm : x.f ∈ fs := by have := (unhide HK).fs; simp only at this; rw [← this]; exact List.mem_map.2 ⟨x, hx, rfl⟩
              have h1 := ((unhide HK).ok.each x.f hm).2.2.2.1
              have h2 := (unhide HB1).2.2.1.2
              exact ⟨by omega, (unhide HK).sq x.f hm⟩)
            clear hup HTA HTD HS11 HF4 HBA hxl
            go_wp2_with fail
            refine (joins_any (unhide HT4) (by omega) (unhide HX8) q).mono ?_
            have hfs : xs.map FrM.f = fs := (unhide HK).fs
            rw [hfs]
            rintro e w5 ⟨rfl, h5⟩
            have HT5 := hide ((unhide HT4).keep (unhide h5))
            have HB5 := hide ((unhide HB4).keep (unhide h5))
            have HI5 : Hid (w5.cell? ⟨bi, off, none⟩ = some (.int .i64 base) ∧ w5.cell? ⟨bi, off + i * 2 + 1, none⟩ = some (.slice ao bs.length cap)) := hide ⟨((unhide h5).cell (World.block_lt_of_cell? _ _ (unhide HI4).1) (fun t => t)).trans (unhide HI4).1, ((unhide h5).cell (World.block_lt_of_cell? _ _ (unhide HI4).2) (fun t => t)).trans (unhide HI4).2⟩
            clear h5 HT4 HB4 HI4 b0
            obtain ⟨infoF, hif, hzf⟩ := Option.map_eq_some_iff.1 infoFm
            simp only [Prod.mk.injEq] at hzf
            have HIF := hide (And.intro hif hzf)
            clear hif hzf
            cases hj : joinsF s1.bat fs q with
            | true =>
              have hop : openF s1.bat base q fs = fs := by unfold openF; rw [if_pos hj]
              rcases List.eq_nil_or_concat xs with hxs | ⟨pre, x, hxs⟩
              · exfalso
                rw [← hfs, hxs] at hj
                simp [joinsF] at hj
              rw [List.concat_eq_append] at hxs
              subst hxs
              have HMP : Hid ((pre ++ [x]).map FrM.f = openF s1.bat base q fs) := hide (by rw [hop]; exact hfs)
              have hlen : (pre ++ [x]).length = pre.length + 1 := by simp
              rw [hlen] at hx64 ⊢
              obtain ⟨rfl, hlc⟩ := (unhide HT5).fl.lastc
              have HX8' := unhide HX8
              clear hj hop hfs hlen HX8 HIF
              have HP := hide hlc
              have HX6 : Hid (Hid (x.f.items.length ≤ 8)) := hide (hide (HX8' x (by simp)).1)
              have HT6 := HT5
              have HB6 := HB5
              have HA6 := hide (unhide HBT w5 (unhide HT5).fr (unhide HI5).2)
              clear hlc HT5 HB5 HI5
              obtain ⟨w6, hw6⟩ : ∃ w6, w5 = w6 := ⟨_, rfl⟩
              rw [hw6] at HT6 HB6 HA6 HP
              rw [hw6]
              clear hw6
              obtain ⟨fb6, hfb6⟩ : ∃ fb6, fb = fb6 := ⟨_, rfl⟩
              rw [hfb6] at HT6 HP
              rw [hfb6]
              obtain ⟨fc6, hfc6⟩ : ∃ fc6, fc = fc6 := ⟨_, rfl⟩
              rw [hfc6] at HT6
              rw [hfc6]
              clear hfb6 hfc6
              go_wp2_with fail
              obtain ⟨infoB, hib, hzb⟩ := Option.map_eq_some_iff.1 infoB
              simp only [Prod.mk.injEq] at hzb
              have HIB := hide (And.intro hib hzb)
              clear hib hzb
              have d3 : w6.cell? ⟨fb6, pre.length * 5 + 3, none⟩ = some (.slice x.io x.f.items.length x.ic) := unhide HP 3 (by omega)
              have e1 : w6.cell? ⟨B, 1, none⟩ = some (.slice ao bs.length cap) := (unhide HB6).cell 1
              have HOK := hide ((unhide HT6).fl.ok x (by simp))
              have HLO : Hid (fb6 < x.lo) := hide ((unhide HT6).fl.last (by have := (unhide HT6).fl.row.le; rw [flat5, List.length_append, List.length_singleton] at this; omega) x (by rw [List.getLast?_concat]))
              have HNL : Hid (x.ds.length = x.f.items.length) := hide (unhide HOK).il.n1
              have HI8 : Hid (x.f.items.length ≤ 8) := unhide HX6
              have HCL := hide (clone_any w6.drew ao cap bs ((unhide HA6).later ((Fr.refl _ _).drew)).1 ((unhide HA6).later ((Fr.refl _ _).drew)).2.1 ((unhide HA6).later ((Fr.refl _ _).drew)).2.2)
              have hi8 : x.f.items.length ≤ 8 := unhide HX6
              have f9 : w6.frozen? ⟨fb6, pre.length * 5 + 3, none⟩ = false := ((unhide HT6).fl.row.room (pre.length * 5 + 3) (by have := (unhide HT6).fl.row.le; rw [flat5, List.length_append, List.length_singleton] at this; omega)).2
              have hflt : fb6 < w6.heap.size := World.block_lt_of_cell? _ _ d3
              obtain ⟨L, hL⟩ : ∃ L, x.f.items.length = L := ⟨_, rfl⟩
              rw [hL] at d3 HNL hi8
              have HLE := hide hL
              go_region_law (first | (refine step_call rfl 41 #[.slice ao bs.length cap] (by kernel_rfl) (unhide HCL) ?_; rintro e w8 ⟨v8, g8, rfl, r1, r2, r3⟩; refine ⟨_, rfl, ?_⟩; obtain ⟨ao8, cap8, rfl, hle8, hmx8, had8, hrm8⟩ := r1.shape; have HR8 := hide (And.intro r1 (And.intro r2 r3)); clear r1 r2 r3 had8 hrm8; have d8 : w8.cell? ⟨fb6, pre.length * 5 + 3, none⟩ = some (.slice x.io L x.ic) := ((unhide HR8).2.1.cell (a := ⟨fb6, pre.length * 5 + 3, none⟩) hflt (fun t => t)).trans d3; have HF8 := hide ((((Fr.refl (fun _ => False) w6).drew).trans (unhide HR8).2.1 (fun _ _ t => t)).alloc (.cells #[.slice ao8 bs.length cap8] 23)); have d9 : (w8.alloc (.cells #[.slice ao8 bs.length cap8] 23)).cell? ⟨fb6, pre.length * 5 + 3, none⟩ = some (.slice x.io L x.ic) := ((unhide HF8).cell (a := ⟨fb6, pre.length * 5 + 3, none⟩) hflt (fun t => t)).trans d3; have HSR := hide (src_one (P := Tryz.prog) w8 [.slice ao8 bs.length cap8] 22 23 1 Tryz.underlying22 rfl (fun u hu => by simp only [List.mem_cons, List.not_mem_nil, or_false] at hu; subst hu; rfl) (W := w8.alloc (.cells #[.slice ao8 bs.length cap8] 23)) (fun j => by rw [World.cell?_alloc_new]; simp))) | (refine step_append_krow rfl (.tmp 84) (.tmp 88) 22 22 rfl 23 infoB _ 1 (by omega) Tryz.underlying22 (unhide HIB).1 (unhide HIB).2.1 rfl (unhide HIB).2.2.1 (ao := x.io) (cap := x.ic) (g := x.ib) (n := L) (vs := x.ds.map RD.val) rfl ((unhide HOK).il.frame (unhide HF8) (fun _ t => t) (fun _ _ _ t => t)).row (by rw [List.length_map, unhide HNL]; omega) _ [.slice ao8 bs.length cap8] 1 rfl (unhide HSR) (by rw [(unhide HIB).2.2.2]; omega) (by omega) ?_; intro io9 ic9 w9 ib9 hkr9 hgr9; have hne9 : ¬ (fb6 = x.ib ∧ 0 < x.ic) := (fun t => by have := (unhide HOK).il.ib t.2; have := unhide HLO; omega); have cA : w9.cell? ⟨fb6, pre.length * 5 + 3, none⟩ = some (.slice x.io L x.ic) := (hgr9.frZ.cell (a := ⟨fb6, pre.length * 5 + 3, none⟩) (World.block_lt_of_cell? _ _ d9) hne9).trans d9; have fA : w9.frozen? ⟨fb6, pre.length * 5 + 3, none⟩ = false := (hgr9.frZ.frozen (a := ⟨fb6, pre.length * 5 + 3, none⟩) (World.block_lt_of_cell? _ _ d9) hne9).trans (((unhide HF8).frozen (a := ⟨fb6, pre.length * 5 + 3, none⟩) hflt (fun t => t)).trans f9); have HG9 := hide (And.intro hkr9 hgr9); clear hkr9 hgr9))
              all_goals
                have HTF := hide ((unhide HT6).add (unhide HF8) (d := ⟨ao8, bs.length, cap8, g8⟩) (bs := bs) (by omega) ((unhide HR8).1.frame ((Fr.refl (fun _ => False) _).alloc _) (fun t => t)) rfl (fun _ => (unhide HR8).2.2) (unhide HG9).1 (unhide HG9).2)
                rw [unhide HLE] at HTF
                have HKF : Hid (TK w p b s1 base (i + 1) (((its.take K).take (i + 1)).foldl (stepT s1 base) (l0, [])) (some ⟨fb6, 0, none⟩) fc6 fb6 (pre ++ [⟨{ x.f with items := x.f.items ++ [bs] }, io9, ic9, ib9, x.ds ++ [⟨ao8, bs.length, cap8, g8⟩], x.lo, w9.heap.size⟩]) (w9.setCell ⟨fb6, pre.length * 5 + 3, none⟩ (.slice io9 (L + 1) ic9))) := by
                  rw [unhide HSK]
                  refine hide ⟨unhide HTF, ?_, (unhide HK).ok.put (unhide HB1).2.2.1.1 q bs hl256, by have := (unhide HK).len; simp only [List.length_append, List.length_singleton] at this ⊢; omega, openF_sq bs (unhide HK).sq ⟨hq1, hq2⟩⟩
                  have := unhide HMP
                  rw [List.map_append, List.map_singleton] at this ⊢
                  rw [← this, addF_snoc]
                clear HTF cA fA d8 d9 d3 e1 f9 HG9 HSR HR8 HF8 HCL HIB HOK HT6 HB6 HA6
                go_wp2
                exact ⟨⟨i + 1, _, _, _, _, by omega, by rw [List.length_append, List.length_singleton], by go_num, HKF⟩, by simp [intOf]; omega⟩
            | false =>
              have hop : openF s1.bat base q fs = fs ++ [⟨1, base, q, [], []⟩] := by unfold openF; rw [if_neg (by simp [hj])]
              have HTE := hide ((unhide HT5).keep (((Fr.refl (fun _ => False) w5).drew).alloc (.cells #[.int .i64 1, .int .i64 base, .int .i64 q, .slice none 0 0, .slice none 0 0] 25)))
              have HBE := hide ((unhide HB5).keep (((Fr.refl (fun _ => False) w5).drew).alloc (.cells #[.int .i64 1, .int .i64 base, .int .i64 q, .slice none 0 0, .slice none 0 0] 25)))
              have HSR := hide (src_one (P := Tryz.prog) w5.drew [.int .i64 1, .int .i64 base, .int .i64 q, .slice none 0 0, .slice none 0 0] 48 25 5 Tryz.underlying48 rfl (fun u hu => by simp only [List.mem_cons, List.not_mem_nil, or_false] at hu; rcases hu with rfl | rfl | rfl | rfl | rfl <;> rfl) (W := w5.drew.alloc (.cells #[.int .i64 1, .int .i64 base, .int .i64 q, .slice none 0 0, .slice none 0 0] 25)) (fun j => by rw [World.cell?_alloc_new]; simp))
              have hzK : (0 : Int) < (K : Int) := by omega
              have hzN : 0 < K := by omega
              have hzL : (0 : Int) < (its.length : Int) := by omega
              have hzM : 0 < its.length := by omega
              have HS13 : Hid (∀ u, Fr (fun k => k = fb ∧ 0 < fc) w5 u → u.cell? ⟨bi, off, none⟩ = some (.int .i64 base) ∧ u.cell? ⟨B, 0, none⟩ = some (.int .i64 q)) := hide (fun u hu => ⟨(hu.cell (World.block_lt_of_cell? _ _ (unhide HI5).1) (fun t => by have t1 : bi = fb := t.1; have := (unhide HFB t.2).2; have := unhide HBI; omega)).trans (unhide HI5).1, ((unhide HB5).frame hu (fun t => by have t1 : B = fb := t.1; have := (unhide HFB t.2).1; omega)).cell 0⟩)
              clear hj hfs HX8
              go_wp2_with fail
              go_region_held3 (fun u => u.cell? ⟨bi, off, none⟩ = some (.int .i64 base) ∧ u.cell? ⟨B, 0, none⟩ = some (.int .i64 q)) (first | exact unhide HS13 _ ((Fr.refl _ _).drew) | exact unhide HS13 _ (((Fr.refl _ _).drew).alloc _) | exact unhide HS13 _ ((((Fr.refl _ _).drew).alloc _).trans hgr.frZ (fun _ _ t => t))) ((refine step_append_krow (by rfl) (.tmp 65) (.tmp 73) 48 48 (by rfl) 25 infoF _ 5 (by omega) Tryz.underlying48 (unhide HIF).1 (unhide HIF).2.1 rfl (unhide HIF).2.2.1 (ao := fo) (cap := fc) (g := fb) (n := xs.length) (vs := xs.flatMap FrM.cells) (by rfl) (unhide HTE).fl.row (flat5 xs) _ [.int .i64 1, .int .i64 base, .int .i64 q, .slice none 0 0, .slice none 0 0] 1 (by rfl) (unhide HSR) (by rw [(unhide HIF).2.2.2]; omega) (by omega) ?_; intro fo6 fc6 w6 fb6 hkr hgr))
              have HT6' := hide ((unhide HTE).openw 1 base q hkr hgr)
              have HB6 := hide ((unhide HBE).frame hgr.frZ (fun t => by have t1 : B = fb := t.1; have := (unhide HFB t.2).1; omega))
              have HFG : Hid (Fr (fun k => k = fb ∧ 0 < fc) w5 w6) := hide (((((Fr.refl (fun _ => False) w5).drew).alloc (.cells #[.int .i64 1, .int .i64 base, .int .i64 q, .slice none 0 0, .slice none 0 0] 25)).mono (T := fun k => k = fb ∧ 0 < fc) (fun _ _ t => t.elim)).trans hgr.frZ (fun _ _ t => t))
              have hc6 : w6.cell? ⟨bi, off + i * 2 + 1, none⟩ = some (.slice ao bs.length cap) := ((unhide HFG).cell (World.block_lt_of_cell? _ _ (unhide HI5).2) (fun t => by have t1 : bi = fb := t.1; have := (unhide HFB t.2).2; have := unhide HBI; omega)).trans (unhide HI5).2
              have HA6 : Hid (BAt w6 ao cap bs) := hide (unhide HBT w6 (unhide HT6').fr hc6)
              clear hc6 HFG
              obtain ⟨pre, x, hpx⟩ : ∃ pre x, xs ++ [(⟨⟨1, base, q, [], []⟩, none, 0, 0, [], w6.heap.size, w6.heap.size⟩ : FrM)] = pre ++ [x] := ⟨_, _, rfl⟩
              have hpl : xs.length = pre.length := by have := congrArg List.length hpx; simpa using this
              have HX6 : Hid (Hid (x.f.items.length ≤ 8)) := hide (hide (by
                have := congrArg List.getLast? hpx
                rw [List.getLast?_concat, List.getLast?_concat] at this
                injection this with this
                rw [← this]; simp))
              have HMP : Hid ((pre ++ [x]).map FrM.f = openF s1.bat base q fs) := hide (by rw [← hpx, hop, List.map_append]; have := (unhide HK).fs; simp only at this; rw [this]; rfl)
              rw [hpx] at HT6'
              have HT6 := HT6'
              obtain ⟨rfl, hlc⟩ := (unhide HT6).fl.lastc
              have HP := hide hlc
              rw [hpl] at hx64 ⊢
              clear HT6' hlc hpx hop hpl HTE HBE HSR HS13 HIF HI5 HB5 HT5 hkr hgr HFB
              go_wp2_with fail
              obtain ⟨infoB, hib, hzb⟩ := Option.map_eq_some_iff.1 infoB
              simp only [Prod.mk.injEq] at hzb
              have HIB := hide (And.intro hib hzb)
              clear hib hzb
              have d3 : w6.cell? ⟨fb6, pre.length * 5 + 3, none⟩ = some (.slice x.io x.f.items.length x.ic) := unhide HP 3 (by omega)
              have e1 : w6.cell? ⟨B, 1, none⟩ = some (.slice ao bs.length cap) := (unhide HB6).cell 1
              have HOK := hide ((unhide HT6).fl.ok x (by simp))
              have HLO : Hid (fb6 < x.lo) := hide ((unhide HT6).fl.last (by have := (unhide HT6).fl.row.le; rw [flat5, List.length_append, List.length_singleton] at this; omega) x (by rw [List.getLast?_concat]))
              have HNL : Hid (x.ds.length = x.f.items.length) := hide (unhide HOK).il.n1
              have HI8 : Hid (x.f.items.length ≤ 8) := unhide HX6
              have HCL := hide (clone_any w6.drew ao cap bs ((unhide HA6).later ((Fr.refl _ _).drew)).1 ((unhide HA6).later ((Fr.refl _ _).drew)).2.1 ((unhide HA6).later ((Fr.refl _ _).drew)).2.2)
              have hi8 : x.f.items.length ≤ 8 := unhide HX6
              have f9 : w6.frozen? ⟨fb6, pre.length * 5 + 3, none⟩ = false := ((unhide HT6).fl.row.room (pre.length * 5 + 3) (by have := (unhide HT6).fl.row.le; rw [flat5, List.length_append, List.length_singleton] at this; omega)).2
              have hflt : fb6 < w6.heap.size := World.block_lt_of_cell? _ _ d3
              obtain ⟨L, hL⟩ : ∃ L, x.f.items.length = L := ⟨_, rfl⟩
              rw [hL] at d3 HNL hi8
              have HLE := hide hL
              go_region_law (first | (refine step_call rfl 41 #[.slice ao bs.length cap] (by kernel_rfl) (unhide HCL) ?_; rintro e w8 ⟨v8, g8, rfl, r1, r2, r3⟩; refine ⟨_, rfl, ?_⟩; obtain ⟨ao8, cap8, rfl, hle8, hmx8, had8, hrm8⟩ := r1.shape; have HR8 := hide (And.intro r1 (And.intro r2 r3)); clear r1 r2 r3 had8 hrm8; have d8 : w8.cell? ⟨fb6, pre.length * 5 + 3, none⟩ = some (.slice x.io L x.ic) := ((unhide HR8).2.1.cell (a := ⟨fb6, pre.length * 5 + 3, none⟩) hflt (fun t => t)).trans d3; have HF8 := hide ((((Fr.refl (fun _ => False) w6).drew).trans (unhide HR8).2.1 (fun _ _ t => t)).alloc (.cells #[.slice ao8 bs.length cap8] 23)); have d9 : (w8.alloc (.cells #[.slice ao8 bs.length cap8] 23)).cell? ⟨fb6, pre.length * 5 + 3, none⟩ = some (.slice x.io L x.ic) := ((unhide HF8).cell (a := ⟨fb6, pre.length * 5 + 3, none⟩) hflt (fun t => t)).trans d3; have HSR := hide (src_one (P := Tryz.prog) w8 [.slice ao8 bs.length cap8] 22 23 1 Tryz.underlying22 rfl (fun u hu => by simp only [List.mem_cons, List.not_mem_nil, or_false] at hu; subst hu; rfl) (W := w8.alloc (.cells #[.slice ao8 bs.length cap8] 23)) (fun j => by rw [World.cell?_alloc_new]; simp))) | (refine step_append_krow rfl (.tmp 84) (.tmp 88) 22 22 rfl 23 infoB _ 1 (by omega) Tryz.underlying22 (unhide HIB).1 (unhide HIB).2.1 rfl (unhide HIB).2.2.1 (ao := x.io) (cap := x.ic) (g := x.ib) (n := L) (vs := x.ds.map RD.val) rfl ((unhide HOK).il.frame (unhide HF8) (fun _ t => t) (fun _ _ _ t => t)).row (by rw [List.length_map, unhide HNL]; omega) _ [.slice ao8 bs.length cap8] 1 rfl (unhide HSR) (by rw [(unhide HIB).2.2.2]; omega) (by omega) ?_; intro io9 ic9 w9 ib9 hkr9 hgr9; have hne9 : ¬ (fb6 = x.ib ∧ 0 < x.ic) := (fun t => by have := (unhide HOK).il.ib t.2; have := unhide HLO; omega); have cA : w9.cell? ⟨fb6, pre.length * 5 + 3, none⟩ = some (.slice x.io L x.ic) := (hgr9.frZ.cell (a := ⟨fb6, pre.length * 5 + 3, none⟩) (World.block_lt_of_cell? _ _ d9) hne9).trans d9; have fA : w9.frozen? ⟨fb6, pre.length * 5 + 3, none⟩ = false := (hgr9.frZ.frozen (a := ⟨fb6, pre.length * 5 + 3, none⟩) (World.block_lt_of_cell? _ _ d9) hne9).trans (((unhide HF8).frozen (a := ⟨fb6, pre.length * 5 + 3, none⟩) hflt (fun t => t)).trans f9); have HG9 := hide (And.intro hkr9 hgr9); clear hkr9 hgr9))
              all_goals
                have HTF := hide ((unhide HT6).add (unhide HF8) (d := ⟨ao8, bs.length, cap8, g8⟩) (bs := bs) (by omega) ((unhide HR8).1.frame ((Fr.refl (fun _ => False) _).alloc _) (fun t => t)) rfl (fun _ => (unhide HR8).2.2) (unhide HG9).1 (unhide HG9).2)
                rw [unhide HLE] at HTF
                have HKF : Hid (TK w p b s1 base (i + 1) (((its.take K).take (i + 1)).foldl (stepT s1 base) (l0, [])) (some ⟨fb6, 0, none⟩) fc6 fb6 (pre ++ [⟨{ x.f with items := x.f.items ++ [bs] }, io9, ic9, ib9, x.ds ++ [⟨ao8, bs.length, cap8, g8⟩], x.lo, w9.heap.size⟩]) (w9.setCell ⟨fb6, pre.length * 5 + 3, none⟩ (.slice io9 (L + 1) ic9))) := by
                  rw [unhide HSK]
                  refine hide ⟨unhide HTF, ?_, (unhide HK).ok.put (unhide HB1).2.2.1.1 q bs hl256, by have := (unhide HK).len; simp only [List.length_append, List.length_singleton] at this ⊢; omega, openF_sq bs (unhide HK).sq ⟨hq1, hq2⟩⟩
                  have := unhide HMP
                  rw [List.map_append, List.map_singleton] at this ⊢
                  rw [← this, addF_snoc]
                clear HTF cA fA d8 d9 d3 e1 f9 HG9 HSR HR8 HF8 HCL HIB HOK HT6 HB6 HA6
                go_wp2
                exact ⟨⟨i + 1, _, _, _, _, by omega, by rw [List.length_append, List.length_singleton], by go_num, HKF⟩, by simp [intOf]; omega⟩
        · obtain rfl : i = K := by omega
          have hr : (its.take i).take i = its.take i := by rw [List.take_take, Nat.min_self]
          have HE : Hid (tickF s its = ({ s1 with sent := ((its.take i).foldl (stepT s1 (baseOf its)) (l0, [])).1 }, ((its.take i).foldl (stepT s1 (baseOf its)) (l0, [])).2)) := by
            have h1 := (unhide HKE).2
            have h2 : ∀ V : Nat, i = min V its.length → its.take V = its.take i := fun V hV => by
              rw [hV]
              rcases Nat.le_total V its.length with h | h
              · rw [Nat.min_eq_left h]
              · rw [Nat.min_eq_right h, List.take_length, List.take_of_length_le h]
            have h3 := unhide HT2
            rw [h2 _ h1] at h3
            exact hide h3
          rw [hr] at HK
          clear HT2 HKE hr
          generalize (its.take i).foldl (stepT s1 (baseOf its)) (l0, []) = st at *
          obtain ⟨sent, fs⟩ := st
          have hfl : xs.length = fs.length := by have := congrArg List.length (unhide HK).fs; simpa using this
          have HFL := hide hfl
          clear hfl
          go_wp2
          go_ret
          rw [unhide HE]
          have hk := unhide HK
          exact ⟨fo, fc, by rw [← unhide HFL]; rfl, hide ⟨hk.tl.sn, ⟨fb, xs, hk.tl.fl, hk.fs⟩, hk.tl.fr, by have h := hk.ok.mono (m := 64) (by omega); rw [(unhide HB1).1] at h; exact h⟩⟩

end Go.Proofs.YtabhfeocelljdaaGreatDoor

