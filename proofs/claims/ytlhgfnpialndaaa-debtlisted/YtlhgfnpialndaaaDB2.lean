import Derived.Test.YtlhgfnpialndaaaDB1
import Derived.Deep.RegionHeld3
import Derived.Deep.Cut
/- Contracts: Account, Debt, Set, Pay. -/
namespace Go.Proofs.Ytlhgfnpialndaaa
open Go.RowKit Go.Maps

theorem account_sizeK (a b c : Value) : (Try.prog.info? 26).map (·.size) = some (#[a, b, c] : Array Value).size := by kernel_rfl
theorem results_bt {P : Program} {w : World} {fn : Func} {p q : Tmp} {U : TypeId} {g' : Nat} {cs' : Array Value} {v : Value} (h : fn.results = #[.cell q U, .tmp p]) (tmps : Array Value) (hp : tmps.getD p undef = v) (hq : tmps.getD q undef = .pointer (some ⟨g', 0, none⟩)) (hg' : Bx w g' cs' U)
    {d' : TypeDesc} (hu' : P.underlying U = some d') (hd' : (match d' with | .struct _ | .array _ _ => true | _ => false) = true) (hi' : (P.info? U).map (·.size) = some cs'.size) :
    (results fn tmps).run P w = .ok (.tuple #[.agg cs', v]) w := by
  have hp' : tmps[p]?.getD undef = v := by simpa using hp
  have hq' : tmps[q]?.getD undef = .pointer (some ⟨g', 0, none⟩) := by simpa using hq
  simp [results, h, hp', hq', asAddr, run_loadVar_row w g' U U cs' (0, 0) d' hg' hu' hd' hi']

theorem run_minB (ts : Array TypeId) (t : TypeId) (x y : Int) (w : World) : (Builtin.min_ ts t #[.int .i64 x, .int .i64 y]).run Try.prog w = .ok (.int .i64 (min x y)) w := by
  rw [run_min_int2 w ts t .i64 .i64 x y]
  congr 2
  split <;> omega

section
variable {w : World} {p b : Nat} {l : List Ac}

theorem BM.cell (h : BM w p b l) : w.cell? ⟨p, 0, none⟩ = some (.map (some b)) := h.bx.cellAt rfl

set_option maxRecDepth 20000 in
theorem bdebt_any (h : BM w p b l) {t : ByteArray} (ht : t.size ≤ maxLen) : Calls Try.prog 15 #[.pointer (some ⟨p, 0, none⟩), .string t] w fun e w' => e = .returned (.int .i64 (debtK l t)) ∧ Fr (fun _ => False) w w' := by
  have hL := h.mp.look1 ht
  have hc := h.cell
  have HO := hide (owed_any (getK l t) (h.bk.get t) w)
  unfold debtK
  generalize getK l t = a at *
  clear h ht
  go_enter Try.func15, Try.ntmps15
  go_wp2_with fail
  refine (unhide HO).mono ?_
  rintro e w1 ⟨rfl, hf⟩
  have HF := hide hf
  clear hf HO
  go_wp2
  go_ret
  exact ⟨rfl, unhide HF⟩

set_option maxRecDepth 20000 in
theorem baccount_any (h : BM w p b l) {t : ByteArray} (ht : t.size ≤ maxLen) : Calls Try.prog 14 #[.pointer (some ⟨p, 0, none⟩), .string t] w fun e w' => e = .returned (.tuple #[.agg (acC (getK l t)), .bool (atK l t).isSome]) ∧ Fr (fun _ => False) w w' := by
  have hL := (h.keep ((Fr.refl (fun _ => False) w).alloc (.cells #[.string ⟨#[]⟩, .int .i64 0, .int .i64 0] 26))).mp.look ht
  have hc := h.cell
  have hlt := h.plt
  generalize (atK l t).isSome = is at *
  generalize getK l t = a at *
  obtain ⟨tok, c, pd⟩ := a
  unfold acC at *
  simp only at *
  clear h ht
  go_enter Try.func14, Try.ntmps14
  go_wp2
  have e1 := (Bx.new w #[.string tok, .int .i64 c, .int .i64 pd] 26).alloc (.cells #[.string tok, .int .i64 c, .int .i64 pd] 26)
  exact bodyPost_ret (v := .tuple #[.agg #[.string tok, .int .i64 c, .int .i64 pd], .bool is]) (results_bt rfl _ rfl rfl e1 Try.underlying26 rfl (account_sizeK _ _ _)) rfl ⟨rfl, ((Fr.refl (fun _ => False) w).alloc _).alloc _⟩

set_option maxRecDepth 20000 in
theorem bset_any (h : BM w p b l) {t : ByteArray} (ht : t.size ≤ maxLen) (n : Int) : Calls Try.prog 12 #[.pointer (some ⟨p, 0, none⟩), .string t, .int .i64 n] w fun e w' =>
    e = .returned (.tuple #[.int .i64 (setK l t n).2.1, .int .i64 (setK l t n).2.2.1, .int .i64 (setK l t n).2.2.2]) ∧ BM w' p b (setK l t n).1 ∧ Fr (fun k => k = b) w w' := by
  have HM : Hid (∀ u, Calls Try.prog 20 #[.agg #[.string t, .int .i64 n, .int .i64 0]] u fun e w' => e = .returned (.bool (accountOk ⟨t, n, 0⟩)) ∧ Fr (fun _ => False) u w') := hide (fun u => mayb_any ⟨t, n, 0⟩ u)
  have H := hide h
  have HT := hide ht
  clear h ht
  cases hok : accountOk ⟨t, n, 0⟩ with
  | false =>
    rw [hok] at HM
    have HS : Hid (setK l t n = (l, 0, 0, 220)) := hide (by unfold setK; rw [if_pos hok])
    clear hok
    generalize setK l t n = r at *
    obtain rfl := unhide HS
    go_enter Try.func12, Try.ntmps12
    go_wp2_with fail
    refine (unhide HM _).mono ?_
    rintro e w1 ⟨rfl, hf⟩
    have HF := hide hf
    clear hf
    go_wp2
    refine bodyPost_ret (results_tmp3 rfl _ _ _) rfl ?_
    exact ⟨rfl, (unhide H).keep (unhide HF), (unhide HF).mono (fun _ _ t => t.elim)⟩
  | true =>
    rw [hok] at HM
    have HA := hide (acc_in hok)
    go_enter Try.func12, Try.ntmps12
    go_wp2_with fail
    refine (unhide HM _).mono ?_
    rintro e w1 ⟨rfl, hf⟩
    have HF := hide hf
    have H1 := hide ((unhide H).keep hf)
    clear hf HM
    have hc : w1.cell? ⟨p, 0, none⟩ = some (.map (some b)) := (unhide H1).cell
    have hlt : p < w1.heap.size := (unhide H1).plt
    have hL := (unhide H1).mp.look (unhide HT)
    have HG := hide ((unhide H1).bk.get t)
    have HFEW := hide (unhide H1).bk.few
    obtain ⟨gt, gc, gp⟩ : ∃ gt gc gp, True := ⟨t, n, n, trivial⟩
    clear gt gc gp
    have hag : getK l t = ⟨(getK l t).tok, (getK l t).charged, (getK l t).paid⟩ := rfl
    have hacC : acC (getK l t) = #[.string (getK l t).tok, .int .i64 (getK l t).charged, .int .i64 (getK l t).paid] := rfl
    rw [hacC] at hL
    have HSK : Hid (setK l t n = if (atK l t).isNone && decide (1000 ≤ l.length) then (l, 0, 0, 2) else (putK l ⟨t, n, min (getK l t).paid n⟩, n - (getK l t).charged, (getK l t).paid - min (getK l t).paid n, 0)) := hide (by unfold setK; rw [if_neg (by rw [hok]; simp)])
    have HBK := hide (setK_bk (unhide H1).bk t n)
    clear hag hacC hok
    generalize (getK l t).tok = gt at *
    generalize (getK l t).charged = gc at *
    generalize (getK l t).paid = gp at *
    cases his : atK l t with
    | some a0 =>
      rw [his] at hL
      have HS : Hid (setK l t n = (putK l ⟨t, n, min gp n⟩, n - gc, gp - min gp n, 0)) := hide (by rw [unhide HSK, his]; rfl)
      clear HSK his
      simp only [Option.isSome_some] at hL
      have HBO : Hid (0 ≤ gc ∧ gc ≤ 9007199254740992 ∧ 0 ≤ gp ∧ gp ≤ gc) := HG
      have HNN : Hid (0 ≤ n ∧ n ≤ 9007199254740992) := hide ⟨(unhide HA).2.1, (unhide HA).2.2.1⟩
      have HMM : Hid (min gp n ≤ gp ∧ 0 ≤ min gp n) := hide ⟨Int.min_le_left _ _, by have := unhide HBO; have := unhide HNN; omega⟩
      have hsub1 : IntKind.i64.wrap (n - gc) = n - gc := by have := unhide HBO; have := unhide HNN; rw [IntKind.wrap_i64]; omega
      have hsub2 : IntKind.i64.wrap (gp - min gp n) = gp - min gp n := by have := unhide HBO; have := unhide HMM; rw [IntKind.wrap_i64]; omega
      have km : ∀ ts ty u, (Builtin.min_ ts ty #[.int .i64 gp, .int .i64 n]).run Try.prog u = .ok (.int .i64 (min gp n)) u := fun ts ty u => run_minB ts ty gp n u
      clear HG
      have HR : Hid (n - gc = n - gc ∧ True) := hide ⟨rfl, trivial⟩
      clear HR
      generalize min gp n = m at *
      go_wp2_with fail
      obtain ⟨B, hB⟩ : ∃ B, w1.heap.size = B := ⟨_, rfl⟩
      have HB1 := hide ((Bx.new w1 #[.string gt, .int .i64 gc, .int .i64 gp] 26).alloc (.cells #[.string t, .int .i64 n, .int .i64 m] 26))
      have HB2 := hide (Bx.new (w1.alloc (.cells #[.string gt, .int .i64 gc, .int .i64 gp] 26)) #[.string t, .int .i64 n, .int .i64 m] 26)
      rw [heap_alloc] at HB2
      have HH := hide ((unhide H1).keep (((Fr.refl (fun _ => False) w1).alloc (.cells #[.string gt, .int .i64 gc, .int .i64 gp] 26)).alloc (.cells #[.string t, .int .i64 n, .int .i64 m] 26)))
      have HFW : Hid (Fr (fun _ => False) w1 ((w1.alloc (.cells #[.string gt, .int .i64 gc, .int .i64 gp] 26)).alloc (.cells #[.string t, .int .i64 n, .int .i64 m] 26))) := hide (((Fr.refl (fun _ => False) w1).alloc _).alloc _)
      have HPB : Hid (p < w1.heap.size ∧ b < w1.heap.size) := hide ⟨(unhide H1).plt, (unhide H1).mlt⟩
      clear hc hlt hL H1
      rw [hB] at HB1 HB2 HPB
      generalize (w1.alloc (.cells #[.string gt, .int .i64 gc, .int .i64 gp] 26)).alloc (.cells #[.string t, .int .i64 n, .int .i64 m] 26) = W2 at *
      rw [hB]
      clear hB
      obtain ⟨w4, hup, hm4, hf4, hz4⟩ := ((unhide HH).keep ((Fr.refl (fun _ => False) W2).drew)).mp.put (x := ⟨t, n, m⟩) (unhide HT) (by have := (unhide HFEW); omega)
      unfold acC at hup
      simp only at hup
      have HS7 : Hid (∀ u, Fr (fun k => k = b) W2 u → u.cell? ⟨p, 0, none⟩ = some (.map (some b)) ∧ u.cell? ⟨B, 1, none⟩ = some (.int .i64 gc) ∧ u.cell? ⟨B, 2, none⟩ = some (.int .i64 gp) ∧ u.cell? ⟨B + 1, 0, none⟩ = some (.string t) ∧ u.cell? ⟨B + 1, 1, none⟩ = some (.int .i64 n) ∧ u.cell? ⟨B + 1, 2, none⟩ = some (.int .i64 m)) := hide (fun u hu =>
        have b1 := (unhide HB1).frame hu (by have := unhide HPB; omega)
        have b2 := (unhide HB2).frame hu (by have := unhide HPB; omega)
        ⟨((unhide HH).bx.frame hu (unhide HH).ne).cell 0, b1.cell 1, b1.cell 2, b2.cell 0, b2.cell 1, b2.cell 2⟩)
      have HF4 : Hid (Fr (fun k => k = b) W2 w4) := hide (((Fr.refl (fun k => k = b) W2).drew).trans hf4 (fun _ _ t => t))
      have HM4 : Hid (BM w4 p b (putK l ⟨t, n, m⟩)) := hide ⟨(unhide HH).bx.frame (unhide HF4) (unhide HH).ne, hm4, (unhide HH).ne, by have h9 := unhide HBK; rw [unhide HS] at h9; exact h9⟩
      clear hm4 hf4 hz4 HB1 HB2 HH
      go_region_held3 (fun u => u.cell? ⟨p, 0, none⟩ = some (.map (some b)) ∧ u.cell? ⟨B, 1, none⟩ = some (.int .i64 gc) ∧ u.cell? ⟨B, 2, none⟩ = some (.int .i64 gp) ∧ u.cell? ⟨B + 1, 0, none⟩ = some (.string t) ∧ u.cell? ⟨B + 1, 1, none⟩ = some (.int .i64 n) ∧ u.cell? ⟨B + 1, 2, none⟩ = some (.int .i64 m)) (first | exact unhide HS7 _ ((Fr.refl _ _).drew) | exact unhide HS7 _ (unhide HF4)) (fail)
      clear hup
      go_wp2_with fail
      go_region_held3 (fun u => u.cell? ⟨B, 1, none⟩ = some (.int .i64 gc) ∧ u.cell? ⟨B, 2, none⟩ = some (.int .i64 gp) ∧ u.cell? ⟨B + 1, 1, none⟩ = some (.int .i64 n) ∧ u.cell? ⟨B + 1, 2, none⟩ = some (.int .i64 m)) (first | exact ⟨(unhide HS7 _ ((unhide HF4).drew)).2.1, (unhide HS7 _ ((unhide HF4).drew)).2.2.1, (unhide HS7 _ ((unhide HF4).drew)).2.2.2.2.1, (unhide HS7 _ ((unhide HF4).drew)).2.2.2.2.2⟩) (fail)
      go_wp2
      refine bodyPost_ret (results_tmp3 rfl _ _ _) rfl ?_
      rw [unhide HS]
      refine ⟨rfl, (unhide HM4).keep ((Fr.refl _ _).drew), ?_⟩
      exact (((unhide HF).mono (fun _ _ t => t.elim)).trans (unhide HFW) (fun _ _ t => t.elim)).trans ((unhide HF4).drew) (fun _ _ t => t)
    | none =>
      rw [his] at hL
      by_cases hfull : 1000 ≤ l.length
      · have HS : Hid (setK l t n = (l, 0, 0, 2)) := hide (by rw [unhide HSK, his, decide_eq_true hfull]; rfl)
        clear HSK his
        simp only [Option.isSome_none] at hL
        have HLEN := (((unhide H1).keep ((Fr.refl (fun _ => False) w1).alloc (.cells #[.string gt, .int .i64 gc, .int .i64 gp] 26))).mp.len)
        have hge : decide ((1000 : Int) ≤ (l.length : Int)) = true := decide_eq_true (by omega)
        clear hfull
        generalize l.length = ln at *
        go_wp2
        refine bodyPost_ret (results_tmp3 rfl _ _ _) rfl ?_
        rw [unhide HS]
        exact ⟨rfl, (unhide H1).keep ((Fr.refl (fun _ => False) w1).alloc _), ((unhide HF).mono (fun _ _ t => t.elim)).alloc _⟩
      · have HS : Hid (setK l t n = (putK l ⟨t, n, min gp n⟩, n - gc, gp - min gp n, 0)) := hide (by rw [unhide HSK, his, decide_eq_false hfull]; rfl)
        clear HSK his
        simp only [Option.isSome_none] at hL
        have HBO : Hid (0 ≤ gc ∧ gc ≤ 9007199254740992 ∧ 0 ≤ gp ∧ gp ≤ gc) := HG
        have HNN : Hid (0 ≤ n ∧ n ≤ 9007199254740992) := hide ⟨(unhide HA).2.1, (unhide HA).2.2.1⟩
        have HMM : Hid (min gp n ≤ gp ∧ 0 ≤ min gp n) := hide ⟨Int.min_le_left _ _, by have := unhide HBO; have := unhide HNN; omega⟩
        have hsub1 : IntKind.i64.wrap (n - gc) = n - gc := by have := unhide HBO; have := unhide HNN; rw [IntKind.wrap_i64]; omega
        have hsub2 : IntKind.i64.wrap (gp - min gp n) = gp - min gp n := by have := unhide HBO; have := unhide HMM; rw [IntKind.wrap_i64]; omega
        have km : ∀ ts ty u, (Builtin.min_ ts ty #[.int .i64 gp, .int .i64 n]).run Try.prog u = .ok (.int .i64 (min gp n)) u := fun ts ty u => run_minB ts ty gp n u
        clear HG
        have HR : Hid (n - gc = n - gc ∧ True) := hide ⟨rfl, trivial⟩
        clear HR
        generalize min gp n = m at *
        have HLEN := (((unhide H1).keep ((Fr.refl (fun _ => False) w1).alloc (.cells #[.string gt, .int .i64 gc, .int .i64 gp] 26))).mp.len)
        have hge : decide ((1000 : Int) ≤ (l.length : Int)) = false := decide_eq_false (by omega)
        have HLL : Hid (l.length < 1000) := hide (by omega)
        clear hfull
        obtain ⟨ln, hln⟩ : ∃ ln, l.length = ln := ⟨_, rfl⟩
        have HLN := hide hln
        rw [hln] at HLEN hge
        clear hln
        go_wp2_with fail
        obtain ⟨B, hB⟩ : ∃ B, w1.heap.size = B := ⟨_, rfl⟩
        have HB1 := hide ((Bx.new w1 #[.string gt, .int .i64 gc, .int .i64 gp] 26).alloc (.cells #[.string t, .int .i64 n, .int .i64 m] 26))
        have HB2 := hide (Bx.new (w1.alloc (.cells #[.string gt, .int .i64 gc, .int .i64 gp] 26)) #[.string t, .int .i64 n, .int .i64 m] 26)
        rw [heap_alloc] at HB2
        have HH := hide ((unhide H1).keep (((Fr.refl (fun _ => False) w1).alloc (.cells #[.string gt, .int .i64 gc, .int .i64 gp] 26)).alloc (.cells #[.string t, .int .i64 n, .int .i64 m] 26)))
        have HFW : Hid (Fr (fun _ => False) w1 ((w1.alloc (.cells #[.string gt, .int .i64 gc, .int .i64 gp] 26)).alloc (.cells #[.string t, .int .i64 n, .int .i64 m] 26))) := hide (((Fr.refl (fun _ => False) w1).alloc _).alloc _)
        have HPB : Hid (p < w1.heap.size ∧ b < w1.heap.size) := hide ⟨(unhide H1).plt, (unhide H1).mlt⟩
        clear hc hlt hL H1 HLEN
        rw [hB] at HB1 HB2 HPB
        generalize (w1.alloc (.cells #[.string gt, .int .i64 gc, .int .i64 gp] 26)).alloc (.cells #[.string t, .int .i64 n, .int .i64 m] 26) = W2 at *
        rw [hB]
        clear hB
        obtain ⟨w4, hup, hm4, hf4, hz4⟩ := ((unhide HH).keep ((Fr.refl (fun _ => False) W2).drew)).mp.put (x := ⟨t, n, m⟩) (unhide HT) (by have := (unhide HFEW); omega)
        unfold acC at hup
        simp only at hup
        have HS7 : Hid (∀ u, Fr (fun k => k = b) W2 u → u.cell? ⟨p, 0, none⟩ = some (.map (some b)) ∧ u.cell? ⟨B, 1, none⟩ = some (.int .i64 gc) ∧ u.cell? ⟨B, 2, none⟩ = some (.int .i64 gp) ∧ u.cell? ⟨B + 1, 0, none⟩ = some (.string t) ∧ u.cell? ⟨B + 1, 1, none⟩ = some (.int .i64 n) ∧ u.cell? ⟨B + 1, 2, none⟩ = some (.int .i64 m)) := hide (fun u hu =>
          have b1 := (unhide HB1).frame hu (by have := unhide HPB; omega)
          have b2 := (unhide HB2).frame hu (by have := unhide HPB; omega)
          ⟨((unhide HH).bx.frame hu (unhide HH).ne).cell 0, b1.cell 1, b1.cell 2, b2.cell 0, b2.cell 1, b2.cell 2⟩)
        have HF4 : Hid (Fr (fun k => k = b) W2 w4) := hide (((Fr.refl (fun k => k = b) W2).drew).trans hf4 (fun _ _ t => t))
        have HM4 : Hid (BM w4 p b (putK l ⟨t, n, m⟩)) := hide ⟨(unhide HH).bx.frame (unhide HF4) (unhide HH).ne, hm4, (unhide HH).ne, by have h9 := unhide HBK; rw [unhide HS] at h9; exact h9⟩
        clear hm4 hf4 hz4 HB1 HB2 HH
        go_region_held3 (fun u => u.cell? ⟨p, 0, none⟩ = some (.map (some b)) ∧ u.cell? ⟨B, 1, none⟩ = some (.int .i64 gc) ∧ u.cell? ⟨B, 2, none⟩ = some (.int .i64 gp) ∧ u.cell? ⟨B + 1, 0, none⟩ = some (.string t) ∧ u.cell? ⟨B + 1, 1, none⟩ = some (.int .i64 n) ∧ u.cell? ⟨B + 1, 2, none⟩ = some (.int .i64 m)) (first | exact unhide HS7 _ ((Fr.refl _ _).drew) | exact unhide HS7 _ (unhide HF4)) (fail)
        clear hup
        go_wp2_with fail
        go_region_held3 (fun u => u.cell? ⟨B, 1, none⟩ = some (.int .i64 gc) ∧ u.cell? ⟨B, 2, none⟩ = some (.int .i64 gp) ∧ u.cell? ⟨B + 1, 1, none⟩ = some (.int .i64 n) ∧ u.cell? ⟨B + 1, 2, none⟩ = some (.int .i64 m)) (first | exact ⟨(unhide HS7 _ ((unhide HF4).drew)).2.1, (unhide HS7 _ ((unhide HF4).drew)).2.2.1, (unhide HS7 _ ((unhide HF4).drew)).2.2.2.2.1, (unhide HS7 _ ((unhide HF4).drew)).2.2.2.2.2⟩) (fail)
        go_wp2
        refine bodyPost_ret (results_tmp3 rfl _ _ _) rfl ?_
        rw [unhide HS]
        refine ⟨rfl, (unhide HM4).keep ((Fr.refl _ _).drew), ?_⟩
        exact (((unhide HF).mono (fun _ _ t => t.elim)).trans (unhide HFW) (fun _ _ t => t.elim)).trans ((unhide HF4).drew) (fun _ _ t => t)
set_option maxRecDepth 20000 in
theorem bpay_any (h : BM w p b l) {t : ByteArray} (ht : t.size ≤ maxLen) (n : Int) : Calls Try.prog 13 #[.pointer (some ⟨p, 0, none⟩), .string t, .int .i64 n] w fun e w' =>
    e = .returned (.int .i64 (payK l t n).2) ∧ BM w' p b (payK l t n).1 ∧ Fr (fun k => k = b) w w' := by
  have hc : w.cell? ⟨p, 0, none⟩ = some (.map (some b)) := h.cell
  have hlt : p < w.heap.size := h.plt
  have hL := h.mp.look1 ht
  have HO : Hid (∀ u, Calls Try.prog 28 #[.agg (acC (getK l t))] u fun e w' => e = .returned (.int .i64 (owedA (getK l t))) ∧ Fr (fun _ => False) u w') := hide (fun u => owed_any (getK l t) (h.bk.get t) u)
  have HG := hide (h.bk.get t)
  have HBK := hide (payK_bk h.bk t n)
  have HFEW := hide h.bk.few
  have HIN : Hid (¬ (n < 1 ∨ owedA (getK l t) < n) → (getK l t).tok = t ∧ (atK l t).isSome = true) := hide (fun q => by
    obtain ⟨a, h1, h2, h3, h4⟩ := pay_in h.bk q
    rw [h4, h1]
    exact ⟨h2, rfl⟩)
  have HSK : Hid (payK l t n = if n < 1 ∨ owedA (getK l t) < n then (l, 220) else (putK l ⟨t, (getK l t).charged, (getK l t).paid + n⟩, 0)) := hide rfl
  have HOW : Hid (owedA (getK l t) = (getK l t).charged - (getK l t).paid) := hide rfl
  have H := hide h
  have HT := hide ht
  clear h ht
  have hacC : acC (getK l t) = #[.string (getK l t).tok, .int .i64 (getK l t).charged, .int .i64 (getK l t).paid] := rfl
  rw [hacC] at hL HO
  clear hacC
  generalize owedA (getK l t) = ow at *
  generalize (getK l t).tok = gt at *
  generalize (getK l t).charged = gc at *
  generalize (getK l t).paid = gp at *
  go_enter Try.func13, Try.ntmps13
  by_cases h1 : n < 1
  · have HS : Hid (payK l t n = (l, 220)) := hide (by rw [unhide HSK, if_pos (Or.inl h1)])
    have hd : decide (n < 1) = true := decide_eq_true h1
    clear h1
    go_wp2
    go_ret
    rw [unhide HS]
    exact ⟨rfl, (unhide H).keep ((Fr.refl (fun _ => False) w).alloc _), ((Fr.refl _ w).alloc _)⟩
  · have hd : decide (n < 1) = false := decide_eq_false h1
    go_wp2_with fail
    refine (unhide HO _).mono ?_
    rintro e w2 ⟨rfl, hf⟩
    obtain ⟨B, hB⟩ : ∃ B, w.heap.size = B := ⟨_, rfl⟩
    have HB1 := hide ((Bx.new w #[.string gt, .int .i64 gc, .int .i64 gp] 26).keep hf)
    have HF2 : Hid (Fr (fun _ => False) w w2) := hide (((Fr.refl (fun _ => False) w).alloc _).trans hf (fun _ _ t => t))
    have H2 := hide ((unhide H).keep (unhide HF2))
    have HPB : Hid (p < B ∧ b < B ∧ B < w2.heap.size) := hide (by
      have a1 := (unhide H).plt
      have a2 := (unhide H).mlt
      have a3 := hf.size
      rw [heap_alloc] at a3
      omega)
    have HSZ : Hid (w.heap.size = B) := hide hB
    rw [hB] at HB1
    try rw [hB]
    clear hc hlt hL hf HO hB
    by_cases h2 : ow < n
    · have HS : Hid (payK l t n = (l, 220)) := hide (by rw [unhide HSK, if_pos (Or.inr h2)])
      have hd2 : decide (ow < n) = true := decide_eq_true h2
      clear h1 h2
      go_wp2
      go_ret
      rw [unhide HS]
      exact ⟨rfl, unhide H2, (unhide HF2).mono (fun _ _ t => t.elim)⟩
    · have HS : Hid (payK l t n = (putK l ⟨t, gc, gp + n⟩, 0)) := hide (by rw [unhide HSK, if_neg (fun t => by omega)])
      obtain ⟨i1, i2⟩ := unhide HIN (fun t => by omega)
      obtain rfl := i1.symm
      have hd2 : decide (ow < n) = false := decide_eq_false h2
      have hw : wrap64 (gp + n) = gp + n := by
        have a1 := unhide HG
        have a2 := unhide HOW
        unfold wrap64
        omega
      clear h1 h2 HSK HIN i2
      have b1 : w2.cell? ⟨B, 0, none⟩ = some (.string t) := (unhide HB1).cell 0
      have b2 : w2.cell? ⟨B, 1, none⟩ = some (.int .i64 gc) := (unhide HB1).cell 1
      have b3 : w2.cell? ⟨B, 2, none⟩ = some (.int .i64 gp) := (unhide HB1).cell 2
      have b4 : w2.frozen? ⟨B, 2, none⟩ = false := (unhide HB1).frozen 2
      go_wp2_with fail
      have HB3 := hide (((unhide HB1).setCell 2 (.int .i64 (gp + n))))
      have HF3 : Hid (Fr (fun _ => False) w (w2.setCell ⟨B, 2, none⟩ (.int .i64 (gp + n)))) := hide ((unhide HF2).setCell (p := ⟨B, 2, none⟩) (fun q => absurd q (by have := unhide HSZ; show ¬ B < _; omega)) _)
      have HH := hide ((unhide H).keep (unhide HF3))
      clear b1 b2 b3 b4 HB1 H2 HF2
      generalize w2.setCell ⟨B, 2, none⟩ (.int .i64 (gp + n)) = W2 at *
      obtain ⟨w4, hup, hm4, hf4, hz4⟩ := ((unhide HH).keep ((Fr.refl (fun _ => False) W2).drew)).mp.put (x := ⟨t, gc, gp + n⟩) (unhide HT) (by have := (unhide HFEW); omega)
      unfold acC at hup
      simp only at hup
      have HS7 : Hid (∀ u, Fr (fun k => k = b) W2 u → u.cell? ⟨p, 0, none⟩ = some (.map (some b)) ∧ u.cell? ⟨B, 0, none⟩ = some (.string t) ∧ u.cell? ⟨B, 1, none⟩ = some (.int .i64 gc) ∧ u.cell? ⟨B, 2, none⟩ = some (.int .i64 (gp + n))) := hide (fun u hu =>
        have b1 := (unhide HB3).frame hu (by have := unhide HPB; omega)
        ⟨((unhide HH).bx.frame hu (unhide HH).ne).cell 0, b1.cell 0, b1.cell 1, b1.cell 2⟩)
      have HF4 : Hid (Fr (fun k => k = b) W2 w4) := hide (((Fr.refl (fun k => k = b) W2).drew).trans hf4 (fun _ _ t => t))
      have HM4 : Hid (BM w4 p b (putK l ⟨t, gc, gp + n⟩)) := hide ⟨(unhide HH).bx.frame (unhide HF4) (unhide HH).ne, hm4, (unhide HH).ne, by have h9 := unhide HBK; rw [unhide HS] at h9; exact h9⟩
      clear hm4 hf4 hz4 HB3 HH
      go_region_held3 (fun u => u.cell? ⟨p, 0, none⟩ = some (.map (some b)) ∧ u.cell? ⟨B, 0, none⟩ = some (.string t) ∧ u.cell? ⟨B, 1, none⟩ = some (.int .i64 gc) ∧ u.cell? ⟨B, 2, none⟩ = some (.int .i64 (gp + n))) (first | exact unhide HS7 _ ((Fr.refl _ _).drew) | exact unhide HS7 _ (unhide HF4)) (fail)
      clear hup
      go_wp2
      go_ret
      rw [unhide HS]
      exact ⟨rfl, unhide HM4, ((unhide HF3).mono (fun _ _ t => t.elim)).trans (unhide HF4) (fun _ _ t => t)⟩
end
end Go.Proofs.Ytlhgfnpialndaaa

