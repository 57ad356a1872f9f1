import Derived.Test.YtlhgfnpialndaaaDB7
/- Open of a book. -/
namespace Go.Proofs.Ytlhgfnpialndaaa
open Go.RowKit Go.Maps

theorem putK_last {l : List Ac} {x : Ac} (h : ∀ y ∈ l, ltS y.tok x.tok = true) : putK l x = l ++ [x] := by
  induction l with
  | nil => rfl
  | cons a r ih =>
    show (if ltS a.tok x.tok then a :: putK r x else _) = _
    rw [if_pos (h a (by simp)), ih (fun y hy => h y (List.mem_cons_of_mem _ hy))]
    rfl

/-- Is an account's token behind the one ahead, if there is one? -/
def notBehind : Option ByteArray → ByteArray → Bool
  | none, _ => false
  | some t, s => !ltS t s
def opE : Option ByteArray → List Ac → Int
  | _, [] => 0
  | o, a :: r => if accountOk a = false then 80 else if notBehind o a.tok = true then 220 else opE (some a.tok) r
/-- What Open answers of accounts. -/
def opA (l : List Ac) : Int := if 1000 < l.length then 2 else opE none l

def prevK (l : List Ac) : Nat → Option ByteArray
  | 0 => none
  | i + 1 => (l[i]?).map (·.tok)
theorem leq_lt (a b : ByteArray) : (ltS a b || eqS a b) = !ltS b a := by
  rcases lt_tot a b with h | h | h
  · rw [h, lt_asym h]; rfl
  · subst h; rw [lt_irr, eqS_self]; rfl
  · rw [h, lt_asym h, eqS_not (fun e => lt_ne h e.symm)]; rfl
theorem leq_run (x y : ByteArray) (t : TypeId) : binOp .leq t (.string x) (.string y) = pure (.bool (ltS x y || eqS x y)) := by
  simp [binOp, Op.stringOp, ltS, eqS]

/-- One more account that may stand behind these. -/
theorem Bk.more {l : List Ac} {i : Nat} (hi : i < l.length) (h : Bk (l.take i)) (hl : l.length ≤ 1000) (ok : accountOk l[i] = true) (hn : notBehind (prevK l i) l[i].tok = false) : putK (l.take i) l[i] = l.take (i + 1) ∧ Bk (l.take (i + 1)) := by
  have hall : ∀ y ∈ l.take i, ltS y.tok l[i].tok = true := by
    cases i with
    | zero => intro y hy; simp at hy
    | succ k =>
      have hk : k < l.length := by omega
      have e : prevK l (k + 1) = some l[k].tok := by
        show (l[k]?).map (·.tok) = _
        rw [List.getElem?_eq_getElem hk]
        rfl
      rw [e] at hn
      have hlt : ltS l[k].tok l[k + 1].tok = true := by simpa [notBehind] using hn
      intro y hy
      rw [List.take_succ_eq_append_getElem hk, List.mem_append, List.mem_singleton] at hy
      rcases hy with hy | rfl
      · have hr := h.rk
        rw [List.take_succ_eq_append_getElem hk] at hr
        have := (List.pairwise_append.1 hr).2.2 y hy l[k] (by simp)
        exact lt_tr this hlt
      · exact hlt
  have e := putK_last hall
  rw [← List.take_succ_eq_append_getElem hi] at e
  refine ⟨e, ?_⟩
  rw [← e]
  refine h.put ok (Or.inr ?_)
  rw [List.length_take]
  omega
theorem opE_step {l : List Ac} {i : Nat} (hi : i < l.length) : opE (prevK l i) (l.drop i) = if accountOk l[i] = false then 80 else if notBehind (prevK l i) l[i].tok = true then 220 else opE (prevK l (i + 1)) (l.drop (i + 1)) := by
  have e : prevK l (i + 1) = some l[i].tok := by
    show (l[i]?).map (·.tok) = _
    rw [List.getElem?_eq_getElem hi]
    rfl
  rw [List.drop_eq_getElem_cons hi, e]
  rfl

def OpenK (w : World) (l : List Ac) (e : Ending) (w' : World) : Prop :=
  Fr (fun _ => False) w w' ∧ ((opA l = 0 ∧ ∃ p b, e = .returned (.tuple #[.pointer (some ⟨p, 0, none⟩), .int .i64 0]) ∧ BM w' p b l ∧ w.heap.size ≤ p ∧ w.heap.size ≤ b) ∨ (opA l ≠ 0 ∧ e = .returned (.tuple #[.pointer none, .int .i64 (opA l)])))

set_option maxRecDepth 20000 in
theorem bopen_any (w : World) (ao : Option Addr) (cap : Nat) (l : List Ac) (h : CAt w ao (acV l)) (hl : l.length ≤ 140737488355328) : Calls Try.prog 8 #[.slice ao l.length cap] w (OpenK w l) := by
  have H := hide h
  clear h
  by_cases h1 : 1000 < l.length
  · have HO : Hid (opA l = 2) := hide (by unfold opA; rw [if_pos h1])
    have hge : decide ((l.length : Int) > 1000) = true := decide_eq_true (by omega)
    have hge2 : decide ((1000 : Int) < (l.length : Int)) = true := decide_eq_true (by omega)
    clear h1 H
    go_enter Try.func8, Try.ntmps8
    go_wp2
    go_ret2
    exact ⟨Fr.refl _ _, Or.inr ⟨by rw [unhide HO]; decide, by rw [unhide HO]; rfl⟩⟩
  · have HO : Hid (opA l = opE none l) := hide (by unfold opA; rw [if_neg h1])
    have hge : decide ((l.length : Int) > 1000) = false := decide_eq_false (by omega)
    have hge2 : decide ((1000 : Int) < (l.length : Int)) = false := decide_eq_false (by omega)
    have HL : Hid (l.length ≤ 1000) := hide (by omega)
    have hl2 : (l.length : Int) ≤ 1000 := by omega
    clear h1 hl
    have HN := hide (bnew_any w)
    go_enter Try.func8, Try.ntmps8
    go_wp2_with fail
    refine (unhide HN).mono ?_
    rintro e w1 ⟨p, b, rfl, hbm, hf, hp, hb⟩
    have HB0 : Hid (BM w1 p b (l.take 0) ∧ Fr (fun _ => False) w w1) := hide ⟨hbm, hf⟩
    have HPB : Hid (w.heap.size ≤ p ∧ w.heap.size ≤ b) := hide ⟨hp, hb⟩
    clear hbm hf hp hb HN
    go_wp2
    go_loopw [5, 6, 13] (fun _ _ iv wr => ∃ (i : Nat), i ≤ l.length ∧ iv = .int .i64 i ∧ Hid (BM wr p b (l.take i) ∧ Fr (fun _ => False) w wr ∧ opE none l = opE (prevK l i) (l.drop i))) (fun _ _ iv _ => l.length - (intOf iv).toNat)
    case atStart => exact ⟨0, Nat.zero_le _, rfl, (unhide HB0).1, (unhide HB0).2, rfl⟩
    case round =>
      obtain ⟨i, hi, rfl, HI⟩ := hrel
      clear HB0
      by_cases hil : i < l.length
      · obtain ⟨bz, off, rfl, c0, c1, c2⟩ := ((unhide H).keep (unhide HI).2.1).ac hil
        have HS := hide (opE_step hil)
        have HM := hide (fun u => mayb_any l[i] u)
        have HMO : Hid (accountOk l[i] = true → notBehind (prevK l i) l[i].tok = false → putK (l.take i) l[i] = l.take (i + 1) ∧ Bk (l.take (i + 1))) := hide (fun a c => Bk.more hil (unhide HI).1.bk (unhide HL) a c)
        have HPR : Hid (∀ k, i = k + 1 → ∃ y, prevK l i = some y ∧ ∀ u, Fr (fun _ => False) w u → u.cell? ⟨bz, off + k * 3, none⟩ = some (.string y)) := hide (fun k e => by
          subst e
          have hk : k < l.length := by omega
          refine ⟨l[k].tok, by show (l[k]?).map (·.tok) = _; rw [List.getElem?_eq_getElem hk]; rfl, fun u hu => ?_⟩
          obtain ⟨b2, o2, e2, d0, _, _⟩ := ((unhide H).keep hu).ac hk
          injection e2 with e2
          injection e2 with e3 e4
          subst e3 e4
          exact d0)
        have hil2 : (i : Int) < (l.length : Int) := by omega
        have H8 : Hid (accountOk l[i] = true → (l[i].tok).size ≤ maxLen) := hide (fun a => by
          have h8 := (acc_in a).1
          unfold isTok at h8
          rw [beq_iff_eq] at h8
          simp only [maxLen]
          omega)
        have hacC : acC l[i] = #[.string l[i].tok, .int .i64 l[i].charged, .int .i64 l[i].paid] := rfl
        have HAC := hide hacC
        rw [hacC] at HM
        clear hacC
        obtain ⟨x, hx⟩ : ∃ x, x = l[i] := ⟨_, rfl⟩
        rw [← hx] at HS HM HMO H8 HAC c0 c1 c2
        clear hx
        obtain ⟨xt, hxt⟩ : ∃ t, t = x.tok := ⟨_, rfl⟩
        obtain ⟨xc, hxc⟩ : ∃ t, t = x.charged := ⟨_, rfl⟩
        obtain ⟨xp, hxp⟩ : ∃ t, t = x.paid := ⟨_, rfl⟩
        rw [← hxt] at HS HM HMO H8 HAC c0
        rw [← hxc] at HM HAC c1
        rw [← hxp] at HM HAC c2
        clear hxt hxc hxp
        have HTX : Hid (x.tok = xt) := hide (by have := unhide HAC; unfold acC at this; injection this with this; injection this with this; injection this)
        obtain ⟨ok, hok⟩ : ∃ ok, accountOk x = ok := ⟨_, rfl⟩
        rw [hok] at HS HM HMO H8
        clear hok
        have HF0 := hide (unhide HI).2.1
        have HBM := hide (unhide HI).1
        have HOE : Hid (opA l = opE (prevK l i) (l.drop i)) := hide (by rw [unhide HO, ← (unhide HI).2.2])
        have HLT := hide hil
        cases ok with
        | false =>
          have HE : Hid (opA l = 80) := hide (by rw [unhide HOE, unhide HS, if_pos rfl])
          clear HS HMO HPR H8 HBM HOE
          go_wp2_with fail
          refine (unhide HM _).mono ?_
          rintro e w3 ⟨rfl, hF⟩
          have HF3 := hide (((unhide HF0).alloc (.cells #[.string xt, .int .i64 xc, .int .i64 xp] 26)).trans hF (fun _ _ t => t))
          clear hF HM
          go_wp2
          go_ret2
          exact ⟨unhide HF3, Or.inr ⟨by rw [unhide HE]; decide, by rw [unhide HE]; rfl⟩⟩
        | true =>
          go_wp2_with fail
          refine (unhide HM _).mono ?_
          rintro e w3 ⟨rfl, hF⟩
          have HB3 := hide ((Bx.new wr #[.string xt, .int .i64 xc, .int .i64 xp] 26).keep hF)
          have hF4 : Fr (fun _ => False) wr w3 := ((Fr.refl (fun _ => False) wr).alloc (.cells #[.string xt, .int .i64 xc, .int .i64 xp] 26)).trans hF (fun _ _ t => t)
          have HF3 := hide ((unhide HF0).trans hF4 (fun _ _ t => t))
          have HBM3 := hide ((unhide HBM).keep hF4)
          obtain ⟨X, hX⟩ : ∃ X, wr.heap.size = X := ⟨_, rfl⟩
          have HX : Hid (p < X ∧ b < X) := hide (by rw [← hX]; exact ⟨(unhide HBM).plt, (unhide HBM).mlt⟩)
          rw [hX] at HB3
          rw [hX]
          clear hF hF4 HM HBM c0 c1 c2 hX
          have d0 : w3.cell? ⟨X, 0, none⟩ = some (.string xt) := (unhide HB3).cell 0
          have HXX : Hid (x = ⟨xt, xc, xp⟩) := hide (by
            have h9 := unhide HAC
            obtain ⟨a1, a2, a3⟩ := x
            unfold acC at h9
            injection h9 with h9
            injection h9 with h1 h9
            injection h9 with h2 h9
            injection h9 with h3 h9
            injection h1 with h1
            injection h2 with _ h2
            injection h3 with _ h3
            simp only at h1 h2 h3
            rw [h1, h2, h3])
          rw [unhide HXX] at HMO
          clear HAC HTX
          cases i with
          | zero =>
            have HNB : Hid (notBehind (prevK l 0) xt = false) := hide rfl
            have hz : decide ((0 : Int) < 0) = false := by decide
            go_wp2_with fail
            go_quiet (fail)
            have HF9 : Hid (Fr (fun _ => False) w3 (w3.drewN nq)) := hide ((Fr.refl _ w3).drewN nq)
            generalize w3.drewN nq = W9 at *
            obtain ⟨hput, hbk⟩ := unhide HMO (by first | rfl | trivial) (unhide HNB)
            have HPT := hide hput
            have HBK := hide hbk
            have HOE2 : Hid (opE none l = opE (prevK l (0 + 1)) (l.drop (0 + 1))) := hide (by rw [← unhide HO, unhide HOE, unhide HS, if_neg (by simp), if_neg (by rw [unhide HNB]; simp)])
            clear hput hbk HMO HS HOE HNB HPR
            have HB9 := hide ((unhide HB3).keep (unhide HF9))
            have HM9 := hide ((unhide HBM3).keep (unhide HF9))
            obtain ⟨w4, hup, hm4, hf4, hz4⟩ := ((unhide HM9).keep ((Fr.refl (fun _ => False) W9).drew)).mp.put (x := ⟨xt, xc, xp⟩) (unhide H8 (by first | rfl | trivial)) (by have := unhide HL; rw [List.length_take]; omega)
            unfold acC at hup
            simp only at hup
            have HS7 : Hid (∀ u, Fr (fun k => k = b) W9 u → u.cell? ⟨p, 0, none⟩ = some (.map (some b)) ∧ u.cell? ⟨X, 0, none⟩ = some (.string xt) ∧ u.cell? ⟨X, 1, none⟩ = some (.int .i64 xc) ∧ u.cell? ⟨X, 2, none⟩ = some (.int .i64 xp)) := hide (fun u hu =>
              have b1 := (unhide HB9).frame hu (by have := unhide HX; omega)
              ⟨((unhide HM9).bx.frame hu (unhide HM9).ne).cell 0, b1.cell 0, b1.cell 1, b1.cell 2⟩)
            have HF4 : Hid (Fr (fun k => k = b) W9 w4) := hide (((Fr.refl (fun k => k = b) W9).drew).trans hf4 (fun _ _ t => t))
            have HM4 : Hid (BM w4 p b (l.take (0 + 1))) := hide ⟨(unhide HM9).bx.frame (unhide HF4) (unhide HM9).ne, by rw [← unhide HPT]; exact hm4, (unhide HM9).ne, unhide HBK⟩
            have HFE : Hid (Fr (fun _ => False) w w4) := hide (((unhide HF3).trans (unhide HF9) (fun _ _ t => t)).trans (unhide HF4) (fun j hj t => by have := (unhide HPB).2; omega))
            clear hm4 hf4 hz4 HB9 HM9 HB3 HBM3
            go_wp2_with fail
            go_region_held3 (fun u => u.cell? ⟨p, 0, none⟩ = some (.map (some b)) ∧ u.cell? ⟨X, 0, none⟩ = some (.string xt) ∧ u.cell? ⟨X, 1, none⟩ = some (.int .i64 xc) ∧ u.cell? ⟨X, 2, none⟩ = some (.int .i64 xp)) (first | exact unhide HS7 _ ((Fr.refl _ _).drew) | exact unhide HS7 _ (unhide HF4)) (fail)
            clear hup
            go_wp2
            exact ⟨⟨0 + 1, by have := unhide HLT; omega, by go_num, unhide HM4, unhide HFE, unhide HOE2⟩, by have := unhide HLT; simp [intOf]; omega⟩
          | succ k =>
            obtain ⟨y, hy, hyc⟩ := unhide HPR k rfl
            have HY := hide hy
            have c9 := hyc w3 (unhide HF3)
            obtain ⟨B, hB⟩ : ∃ B, (ltS xt y || eqS xt y) = B := ⟨_, rfl⟩
            have hq := leq_run xt y
            rw [hB] at hq
            have HNB : Hid (notBehind (prevK l (k + 1)) xt = B) := hide (by rw [hy, ← hB, leq_lt]; rfl)
            clear hB hy hyc
            cases B with
            | true =>
              go_wp2_with fail
              go_quiet (fail)
              have HF9 : Hid (Fr (fun _ => False) w3 (w3.drewN nq)) := hide ((Fr.refl _ w3).drewN nq)
              generalize w3.drewN nq = W9 at *
              have HE : Hid (opA l = 220) := hide (by rw [unhide HOE, unhide HS, if_neg (by simp), if_pos (unhide HNB)])
              go_wp2
              go_ret2
              exact ⟨(unhide HF3).trans (unhide HF9) (fun _ _ t => t), Or.inr ⟨by rw [unhide HE]; decide, by rw [unhide HE]; rfl⟩⟩
            | false =>
              go_wp2_with fail
              go_quiet (fail)
              have HF9 : Hid (Fr (fun _ => False) w3 (w3.drewN nq)) := hide ((Fr.refl _ w3).drewN nq)
              generalize w3.drewN nq = W9 at *
              obtain ⟨hput, hbk⟩ := unhide HMO (by first | rfl | trivial) (unhide HNB)
              have HPT := hide hput
              have HBK := hide hbk
              have HOE2 : Hid (opE none l = opE (prevK l ((k + 1) + 1)) (l.drop ((k + 1) + 1))) := hide (by rw [← unhide HO, unhide HOE, unhide HS, if_neg (by simp), if_neg (by rw [unhide HNB]; simp)])
              clear hput hbk HMO HS HOE HNB HPR
              have HB9 := hide ((unhide HB3).keep (unhide HF9))
              have HM9 := hide ((unhide HBM3).keep (unhide HF9))
              obtain ⟨w4, hup, hm4, hf4, hz4⟩ := ((unhide HM9).keep ((Fr.refl (fun _ => False) W9).drew)).mp.put (x := ⟨xt, xc, xp⟩) (unhide H8 (by first | rfl | trivial)) (by have := unhide HL; rw [List.length_take]; omega)
              unfold acC at hup
              simp only at hup
              have HS7 : Hid (∀ u, Fr (fun k => k = b) W9 u → u.cell? ⟨p, 0, none⟩ = some (.map (some b)) ∧ u.cell? ⟨X, 0, none⟩ = some (.string xt) ∧ u.cell? ⟨X, 1, none⟩ = some (.int .i64 xc) ∧ u.cell? ⟨X, 2, none⟩ = some (.int .i64 xp)) := hide (fun u hu =>
                have b1 := (unhide HB9).frame hu (by have := unhide HX; omega)
                ⟨((unhide HM9).bx.frame hu (unhide HM9).ne).cell 0, b1.cell 0, b1.cell 1, b1.cell 2⟩)
              have HF4 : Hid (Fr (fun k => k = b) W9 w4) := hide (((Fr.refl (fun k => k = b) W9).drew).trans hf4 (fun _ _ t => t))
              have HM4 : Hid (BM w4 p b (l.take ((k + 1) + 1))) := hide ⟨(unhide HM9).bx.frame (unhide HF4) (unhide HM9).ne, by rw [← unhide HPT]; exact hm4, (unhide HM9).ne, unhide HBK⟩
              have HFE : Hid (Fr (fun _ => False) w w4) := hide (((unhide HF3).trans (unhide HF9) (fun _ _ t => t)).trans (unhide HF4) (fun j hj t => by have := (unhide HPB).2; omega))
              clear hm4 hf4 hz4 HB9 HM9 HB3 HBM3
              go_wp2_with fail
              go_region_held3 (fun u => u.cell? ⟨p, 0, none⟩ = some (.map (some b)) ∧ u.cell? ⟨X, 0, none⟩ = some (.string xt) ∧ u.cell? ⟨X, 1, none⟩ = some (.int .i64 xc) ∧ u.cell? ⟨X, 2, none⟩ = some (.int .i64 xp)) (first | exact unhide HS7 _ ((Fr.refl _ _).drew) | exact unhide HS7 _ (unhide HF4)) (fail)
              clear hup
              go_wp2
              exact ⟨⟨(k + 1) + 1, by have := unhide HLT; omega, by go_num, unhide HM4, unhide HFE, unhide HOE2⟩, by have := unhide HLT; simp [intOf]; omega⟩
      · obtain rfl : i = l.length := by omega
        have HE : Hid (opA l = 0) := hide (by rw [unhide HO, (unhide HI).2.2, List.drop_length]; unfold opE; rfl)
        have HT : Hid (l.take l.length = l) := hide (List.take_length ..)
        go_wp2
        go_ret2
        exact ⟨(unhide HI).2.1, Or.inl ⟨unhide HE, p, b, rfl, by have := (unhide HI).1; rw [unhide HT] at this; exact this, (unhide HPB).1, (unhide HPB).2⟩⟩
end Go.Proofs.Ytlhgfnpialndaaa

