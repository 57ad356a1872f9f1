import Derived.Test.YtjgbllfppomcmaaGreatJNZ
import Derived.Test.YtjgbllfppomcmaaGreatJM1
import Derived.Test.YtjgbllfppomcmaaGreatQUX
import Derived.Test.YtjgbllfppomcmaaGreatQZ1
/- A walk over all taps. -/
namespace Go.Proofs.YtjgbllfppomcmaaGreat
open Go.RowKit

def wkAt (T : Tm) (l : List Tp) (i : Nat) : Wk := (l.take i).foldl (Wk.take T) wk0
theorem wkAt_zero (T : Tm) (l : List Tp) : wkAt T l 0 = wk0 := rfl
theorem wkAt_succ (T : Tm) (l : List Tp) (i : Nat) (h : i < l.length) : wkAt T l (i + 1) = (wkAt T l i).take T l[i] := by
  unfold wkAt
  rw [List.take_succ_eq_append_getElem h, List.foldl_append]
  rfl
theorem wkAt_len (T : Tm) (l : List Tp) (i : Nat) (h : i ≤ l.length) : (wkAt T l i).made.length ≤ 2 * i := by
  induction i with
  | zero => exact Nat.le_refl _
  | succ i ih =>
    rw [wkAt_succ T l i (by omega)]
    have := take_len T (wkAt T l i) (l[i]'(by omega))
    have := ih (by omega)
    omega
theorem wkAt_all (T : Tm) (l : List Tp) : wkAt T l l.length = walkedW T l := by unfold wkAt walkedW; rw [List.take_length]

theorem WOk.at {T : Tm} (hT : 0 ≤ T.lng) {l : List Tp} (h : RgtOk l) (lo : Int) (hlo : ∀ (j : Nat) (hj : j < l.length), lo ≤ l[j].time) (i : Nat) (hi : i ≤ l.length) : ∃ c, WOk T lo c (wkAt T l i) ∧ ∀ (j : Nat) (hj : j < l.length), i ≤ j → c ≤ l[j].time := by
  induction i with
  | zero => exact ⟨lo, WOk.start T lo, fun j hj _ => hlo j hj⟩
  | succ i ih =>
    obtain ⟨c, h1, h2⟩ := ih (by omega)
    refine ⟨(l[i]'(by omega)).time, ?_, fun j hj hij => h.mono i j (by omega) hj⟩
    rw [wkAt_succ T l i (by omega)]
    exact h1.take hT _ (hlo i (by omega)) (h2 i (by omega) (Nat.le_refl _))

theorem first_time {l : List Tp} (h : RgtOk l) : ∃ lo, 0 ≤ lo ∧ (∀ (j : Nat) (hj : j < l.length), lo ≤ l[j].time) ∧ (∀ hl : 0 < l.length, lo = (l[0]'hl).time) := by
  by_cases hl : 0 < l.length
  · exact ⟨(l[0]'hl).time, (h.time 0 hl).1, fun j hj => h.mono 0 j (by omega) hj, fun _ => rfl⟩
  · exact ⟨0, Int.le_refl _, fun j hj => by omega, fun k => absurd k hl⟩

def wkZ : Array Value := #[.slice none 0 0, .slice none 0 0, .slice none 0 0, .float .f64 0, .int .i64 0, .int .i64 0, .int .i64 0, .int .i64 0, .int .i64 0, .int .i64 0, .int .i64 0, .int .i64 0, .int .i64 0, .int .i64 0, .slice none 0 0, .int .i64 0, .int .i64 0, .int .i64 0, .int .i64 0, .int .i64 0, .int .i64 0, .bool false, .int .i64 0, .int .i64 0, .int .i64 0, .int .i64 0, .int .i64 0, .bool false, .bool false]
theorem wk_size (A : Ad) (t : Tf) : (Tryz.prog.info? 176).map (·.size) = some (wkC A t wk0 none 0).size := by
  have h : (Tryz.prog.info? 176).map (·.size) = some 29 := by kernel_rfl
  exact h
theorem wk_one (A : Ad) (t : Tf) : (wkC A t wk0 none 0).all (·.oneCell') = true := by simp [wkC, Value.oneCell']

theorem wpList_store_walk {ops : Array Oper} {rest : List Oper} {o : Oper} {a : Act} {w : World} {Q : Exit → Act → World → Prop} (hgd : o.guard = none) (x y : Operand) (ho : o.op = .store 176 x y)
    {g : Nat} {A : Ad} {t : Tf} (hx : a.eval x = .pointer (some ⟨g, 0, none⟩)) (hy : a.eval y = .agg (wkC A t wk0 none 0)) (old : Array Value) (hg : w.heap[g]? = some (.cells old 176 (0, 0))) (hold : old.size = 29)
    (h : wpList Tryz.prog ops Q rest (a.put o.dst undef) (w.setRow g (wkC A t wk0 none 0))) : wpList Tryz.prog ops Q (o :: rest) a w :=
  wpList_store_row hgd 176 x y ho g (wkC A t wk0 none 0) hx hy 176 old hg (wk_size A t) hold (wk_one A t) h

set_option maxHeartbeats 1000000 in
theorem walked_any (w : World) (A : Ad) (t : Tf) (hT : TAt w A t) (hlg : 0 ≤ t.longest) (ao0 : Option Addr) (cap0 : Nat) (l : List Tp) (h : CAt w ao0 (tpV l)) (hl : l.length ≤ 2000) (hok : RgtOk l) :
    Calls Tryz.prog 109 #[tv A t, .slice ao0 l.length cap0] w fun e w' => ∃ ao' cap' g', e = .returned (.slice ao' (walkedJ (tmOf t) l).length cap') ∧ KRow w' ao' cap' g' 6 (jV (walkedJ (tmOf t) l)) ∧ (0 < cap' → w.heap.size ≤ g') ∧ Fr (fun _ => False) w w' := by
  obtain ⟨lo, hlo0, hlo1, _⟩ := first_time hok
  have HAT := hide (fun i hi => WOk.at (T := tmOf t) hlg hok lo hlo1 i hi)
  have HT := hide hT
  have H := hide h
  have HOK := hide hok
  have HLO := hide (And.intro hlo0 hlo1)
  obtain ⟨u, hu⟩ : ∃ u, u = (w.alloc (.cells (tc A t) 27)).alloc (.cells wkZ 176) := ⟨_, rfl⟩
  obtain ⟨v, hv⟩ : ∃ v, v = u.setRow (w.heap.size + 1) (wkC A t wk0 none 0) := ⟨_, rfl⟩
  have hgu : u.heap[w.heap.size + 1]? = some (.cells wkZ 176 (0, 0)) := by
    rw [hu]
    have := heap_new (w.alloc (.cells (tc A t) 27)) (.cells wkZ 176)
    rw [heap_alloc] at this
    exact this
  have hFv : Fr (fun _ => False) w v := by
    rw [hv, hu]
    exact (((Fr.refl _ w).alloc _).alloc _).setRow (fun h => absurd h (by omega)) _
  have hbx : Bx v (w.heap.size + 1) (wkC A t wk0 none 0) 176 := by
    rw [hv]
    exact setRow_heap _ _ _ _ _ _ hgu
  have HG := hide hgu
  have HU := hide hu
  have HM0 : Hid (WM w v (w.heap.size + 1) A t (wkAt (tmOf t) l 0) none 0 0) := hide ⟨hbx, KRow.nil _ _ _, fun h => absurd h (by omega), by omega, fun h => absurd h (by omega), hFv⟩
  have HV := hide hv
  obtain ⟨p, hp⟩ : ∃ p, w.heap.size + 1 = p := ⟨_, rfl⟩
  have HPP := hide hp
  rw [hp] at HM0
  clear hFv hbx hv hu hgu hlo0 hlo1 hT h hok hlg
  unfold tv tc
  rw [hp] at HV HG
  simp only [tc, wkZ] at HU
  go_enter Tryz.func109, Tryz.ntmps109
  go_upto_region 1 with (fail)
  go_upto_region 2 with (first | (rw [← unhide HU]; refine wpList_store_walk rfl (.tmp 5) (.tmp 9) rfl (g := p) (A := A) (t := t) rfl rfl _ (unhide HG) rfl ?_; rw [← unhide HV]))
  clear HV hp HU HG
  go_wp2_with fail
  go_loopw [12] (fun iv wr => ∃ i : Nat, i ≤ l.length ∧ iv = .int .i64 i ∧ Hid (∃ ao cap g, WM w wr p A t (wkAt (tmOf t) l i) ao cap g)) (fun iv _ => l.length - (intOf iv).toNat)
  case atStart => exact ⟨0, Nat.zero_le _, rfl, hide ⟨_, _, _, unhide HM0⟩⟩
  case round =>
    obtain ⟨i, hi, rfl, HI⟩ := hrel
    obtain ⟨ao, cap, g, hM⟩ := unhide HI
    have hlen := wkAt_len (tmOf t) l i hi
    obtain ⟨c, hW, hc⟩ := unhide HAT i hi
    by_cases hil : i < l.length
    · obtain ⟨b, off, rfl, c0, c1, c2, c3, c4, c5⟩ := ((unhide H).keep hM.fr).tp hil
      have RT := hide (fun (u : World) (hu : Fr (fun _ => False) wr u) => take_any w u p A t (wkAt (tmOf t) l i) ao cap g (hM.keep hu) (unhide HT) (by omega) l[i] lo c hW (unhide HLO).1 ((unhide HLO).2 i hil) (hc i hil (Nat.le_refl _)) ((unhide HOK).time i hil).2)
      have HN : Hid (wkAt (tmOf t) l (i + 1) = (wkAt (tmOf t) l i).take (tmOf t) l[i]) := hide (wkAt_succ _ _ _ hil)
      generalize (wkAt (tmOf t) l i).take (tmOf t) l[i] = s' at *
      generalize l[i] = x at *
      obtain ⟨dev, ctr, tok, kind, place, time⟩ := x
      simp only [tpC] at RT c0 c1 c2 c3 c4 c5
      clear hM HI hlen hW hc
      go_wp2_with fail
      refine (unhide RT _ ((Fr.refl _ _).alloc _)).mono ?_
      rintro e w2 ⟨rfl, ao2, cap2, g2, hM2, _, _⟩
      have HM2 := hide hM2
      clear hM2 RT c0 c1 c2 c3 c4 c5
      go_wp2
      exact ⟨⟨i + 1, by omega, by go_num, hide ⟨_, _, _, by rw [unhide HN]; exact unhide HM2⟩⟩, by simp [intOf]; omega⟩
    · obtain rfl : i = l.length := by omega
      have RC := hide (closeOpen_any w wr p A t (wkAt (tmOf t) l l.length) ao cap g hM (by omega) (fun j hj => by have := (hW.opn j hj).2.1; omega))
      have HE : Hid ((wkAt (tmOf t) l l.length).shut.made = walkedJ (tmOf t) l) := hide (by rw [wkAt_all]; rfl)
      generalize (wkAt (tmOf t) l l.length).shut = s' at *
      clear hM HI hlen hW hc HAT HM0 H HT HOK HLO
      go_wp2_with fail
      refine (unhide RC).mono ?_
      rintro e w2 ⟨rfl, ao2, cap2, g2, hM2, _, _⟩
      have c14 : w2.cell? ⟨p, 14, none⟩ = some (.slice ao2 s'.made.length cap2) := hM2.box.cell 14
      have HM2 := hide hM2
      clear hM2 RC
      go_wp2
      go_ret
      rw [← unhide HE]
      exact ⟨ao2, cap2, g2, rfl, (unhide HM2).row, (unhide HM2).g0, (unhide HM2).fr⟩

end Go.Proofs.YtjgbllfppomcmaaGreat

/- Journeys of a day: Build. -/
namespace Go.Proofs.YtjgbllfppomcmaaGreat
open Go.RowKit

/-- What Build leaves. -/
def Built (t : Tf) (l : List Tp) (w : World) (e : Ending) (w' : World) : Prop :=
  ∃ ao' cap' g', e = .returned (.tuple #[.slice ao' (buildJ (tmOf t) (rightE t) l).length cap', .int .i64 (buildE (rightE t) l)]) ∧ KRow w' ao' cap' g' 6 (jV (buildJ (tmOf t) (rightE t) l)) ∧ (0 < cap' → w.heap.size ≤ g') ∧ Fr (fun _ => False) w w'

theorem Built.fail {t : Tf} {l : List Tp} {w w' : World} {x : Int} (hf : Fr (fun _ => False) w w') (hx : buildE (rightE t) l = x) (h0 : x ≠ 0) : Built t l w (.returned (.tuple #[.slice none 0 0, .int .i64 x])) w' := by
  have e : buildJ (tmOf t) (rightE t) l = [] := by unfold buildJ; rw [if_neg (by rw [hx]; exact h0)]
  exact ⟨none, 0, 0, by rw [e, hx]; rfl, by rw [e]; exact KRow.nil _ _ _, fun h => absurd h (by omega), hf⟩

set_option maxHeartbeats 1000000 in
theorem build_any (w : World) (A : Ad) (t : Tf) (hT : TAt w A t) (ao0 : Option Addr) (cap0 : Nat) (l : List Tp) (h : CAt w ao0 (tpV l)) (hl : l.length ≤ 4398046511104) :
    Calls Tryz.prog 62 #[tv A t, .slice ao0 l.length cap0] w fun e w' => Built t l w e w' := by
  have RT := hide (fun (u : World) (hu : Fr (fun _ => False) w u) => right_walk u A t (hT.keep hu))
  have RR := hide (fun (u : World) (hu : Fr (fun _ => False) w u) => jright_any u ao0 cap0 l (h.keep hu) hl)
  have RD := hide (fun (u : World) (hu : Fr (fun _ => False) w u) (h0 : 0 < l.length) => dayLength_any u ao0 cap0 l (h.keep hu) hl h0)
  have RW := hide (fun (u : World) (hu : Fr (fun _ => False) w u) (hlg : 0 ≤ t.longest) (h1 : l.length ≤ 2000) (h2 : RgtOk l) => walked_any u A t (hT.keep hu) hlg ao0 cap0 l (h.keep hu) h1 h2)
  have HE : Hid (buildE (rightE t) l = if rightE t ≠ 0 then rightE t else if rightT l ≠ 0 then rightT l else if 0 < l.length ∧ dayLn l < l.length then 170 else 0) := hide rfl
  have HSM : Hid (rightE t = 0 → 0 ≤ t.longest) := hide (fun e => (small_of e).longest.1)
  have HRT : Hid (rightT l = 0 → l.length ≤ 2000 ∧ RgtOk l) := hide (rightT_zero l).1
  have HJ : Hid (buildE (rightE t) l = 0 → buildJ (tmOf t) (rightE t) l = walkedJ (tmOf t) l) := hide (fun e => by unfold buildJ; rw [if_pos e])
  have HDL := hide (dayLn_le l)
  have HTB := hide (TB.new w A t)
  obtain ⟨v, hv⟩ : ∃ v, v = w.alloc (.cells (tc A t) 27) := ⟨_, rfl⟩
  have hFv : Fr (fun _ => False) w v := by rw [hv]; exact (Fr.refl _ _).alloc _
  have HFV := hide hFv
  have HV := hide hv
  rw [← hv] at HTB
  clear hFv hv hT h
  unfold tv
  unfold tc at HV ⊢
  go_enter Tryz.func62, Tryz.ntmps62
  go_upto_region 1 with (fail)
  rw [← unhide HV]
  clear HV
  go_wp2_with (refine wpList_load_tariff rfl (.tmp 2) rfl (g := w.heap.size) (A := A) (t := t) rfl (unhide HTB) ?_)
  refine (unhide RT v (unhide HFV)).mono ?_
  rintro e w1 ⟨rfl, hF1⟩
  have HF1 := hide ((unhide HFV).trans hF1 (fun _ _ t => t))
  have HTB1 := hide ((unhide HTB).keep hF1)
  clear hF1 HFV HTB RT
  by_cases h1 : rightE t = 0
  · rw [h1]
    have RR1 := hide (unhide RR w1 (unhide HF1))
    go_wp2_with fail
    refine (unhide RR1).mono ?_
    rintro e w2 ⟨rfl, hF2⟩
    have HF2 := hide ((unhide HF1).trans hF2 (fun _ _ t => t))
    have HTB2 := hide ((unhide HTB1).keep hF2)
    clear hF2 HF1 HTB1 RR1 RR
    by_cases h2 : rightT l = 0
    · rw [h2]
      obtain ⟨hl2, hok⟩ := unhide HRT h2
      have RW1 := hide (fun (u : World) (hu : Fr (fun _ => False) w u) => unhide RW u hu (unhide HSM h1) hl2 hok)
      clear RW HSM HRT
      by_cases h0 : 0 < l.length
      · have RD1 := hide (unhide RD w2 (unhide HF2) h0)
        have h0b : decide ((0 : Int) < (l.length : Int)) = true := by simp; omega
        have h0i : (0 : Int) < (l.length : Int) := by omega
        by_cases h3 : dayLn l < l.length
        · have HX : Hid (buildE (rightE t) l = 170) := hide (by rw [unhide HE]; simp [h1, h2, h0, h3])
          have h3i : (dayLn l : Int) < (l.length : Int) := by omega
          generalize dayLn l = dl at *
          clear HE HJ h1 h2 h3 hok RW1 RD
          go_wp2_with fail
          refine (unhide RD1).mono ?_
          rintro e w3 ⟨rfl, hF3⟩
          have HF3 := hide ((unhide HF2).trans hF3 (fun _ _ t => t))
          clear hF3 HF2 HTB2 RD1
          go_wp2
          go_ret2
          exact Built.fail (unhide HF3) (unhide HX) (by decide)
        · have HX : Hid (buildE (rightE t) l = 0) := hide (by rw [unhide HE]; simp [h1, h2, h3])
          have h3i : ¬ (dayLn l : Int) < (l.length : Int) := by omega
          have HJ1 := hide (unhide HJ (unhide HX))
          generalize dayLn l = dl at *
          clear HE HJ h1 h2 h3 hok RD
          go_wp2_with fail
          refine (unhide RD1).mono ?_
          rintro e w3 ⟨rfl, hF3⟩
          have HF3 := hide ((unhide HF2).trans hF3 (fun _ _ t => t))
          have HTB3 := hide ((unhide HTB2).keep hF3)
          have RW2 := hide (unhide RW1 w3 (unhide HF3))
          clear hF3 HF2 HTB2 RD1 RW1
          go_wp2_with (refine wpList_load_tariff rfl (.tmp 2) rfl (g := w.heap.size) (A := A) (t := t) rfl (unhide HTB3) ?_)
          refine (unhide RW2).mono ?_
          rintro e w4 ⟨ao', cap', g', rfl, hK, hg, hF4⟩
          have HR : Hid (Built t l w (.returned (.tuple #[.slice ao' (walkedJ (tmOf t) l).length cap', .int .i64 0])) w4) := hide ⟨ao', cap', g', by rw [unhide HJ1, unhide HX], by rw [unhide HJ1]; exact hK, fun hc => Nat.le_trans (unhide HF3).size (hg hc), (unhide HF3).trans hF4 (fun _ _ t => t)⟩
          clear hK hg hF4 HF3 HTB3 RW2 HJ1 HX
          generalize walkedJ (tmOf t) l = wj at *
          go_wp2
          go_ret2
          exact unhide HR
      · obtain rfl : l = [] := List.eq_nil_of_length_eq_zero (by omega)
        have HX : Hid (buildE (rightE t) [] = 0) := hide (by rw [unhide HE]; simp [h1, h2])
        have HJ1 := hide (unhide HJ (unhide HX))
        have RW2 := hide (unhide RW1 w2 (unhide HF2))
        clear HE HJ h1 h2 hok RD RW1 HDL
        simp only [List.length_nil] at RW2
        go_wp2_with (refine wpList_load_tariff rfl (.tmp 2) rfl (g := w.heap.size) (A := A) (t := t) rfl (unhide HTB2) ?_)
        refine (unhide RW2).mono ?_
        rintro e w4 ⟨ao', cap', g', rfl, hK, hg, hF4⟩
        have HR : Hid (Built t [] w (.returned (.tuple #[.slice ao' (walkedJ (tmOf t) []).length cap', .int .i64 0])) w4) := hide ⟨ao', cap', g', by rw [unhide HJ1, unhide HX], by rw [unhide HJ1]; exact hK, fun hc => Nat.le_trans (unhide HF2).size (hg hc), (unhide HF2).trans hF4 (fun _ _ t => t)⟩
        clear hK hg hF4 HF2 HTB2 RW2 HJ1 HX
        generalize walkedJ (tmOf t) [] = wj at *
        go_wp2
        go_ret2
        exact unhide HR
    · have HX : Hid (buildE (rightE t) l = rightT l) := hide (by rw [unhide HE]; simp [h1, h2])
      have hb2 : (rightT l == 0) = false := by simp [h2]
      have hb3 : (rightT l != 0) = true := by simp [h2]
      have H2 := hide h2
      generalize rightT l = rr at *
      clear HE HJ h1 HRT RW RD HTB2
      go_wp2
      go_ret2
      exact Built.fail (unhide HF2) (unhide HX) (unhide H2)
  · have HX : Hid (buildE (rightE t) l = rightE t) := hide (by rw [unhide HE]; simp [h1])
    have hb2 : (rightE t == 0) = false := by simp [h1]
    have hb3 : (rightE t != 0) = true := by simp [h1]
    have HXX : Hid (∀ w', Fr (fun _ => False) w w' → Built t l w (.returned (.tuple #[.slice none 0 0, .int .i64 (rightE t)])) w') := hide (fun w' hf => Built.fail hf (unhide HX) h1)
    clear HE HJ HRT RW RD RR HTB1 HSM HX HDL h1
    generalize rightE t = rr at *
    go_wp2
    go_ret2
    exact unhide HXX _ (unhide HF1)

end Go.Proofs.YtjgbllfppomcmaaGreat

/- A token's travel days: Days. -/
namespace Go.Proofs.YtjgbllfppomcmaaGreat
open Go.RowKit

def daysN : Nat → List Tp → List (List Tp)
  | 0, _ => []
  | _ + 1, [] => []
  | n + 1, x :: r => (x :: r).take (dayLn (x :: r)) :: daysN n ((x :: r).drop (dayLn (x :: r)))
def daysL (l : List Tp) : List (List Tp) := daysN l.length l

theorem dayLn_pos {l : List Tp} (h : RgtOk l) (h0 : 0 < l.length) : 0 < dayLn l := by
  cases l with
  | nil => simp at h0
  | cons x r =>
    have hx := tap_time (h.1 x (List.mem_cons_self ..))
    have hd := dEnd_eq hx
    show 0 < ((x :: r).takeWhile (fun t => !isLate (dEnd x) t)).length
    rw [List.takeWhile_cons]
    have : (!isLate (dEnd x) x) = true := by simp [isLate, hd]; omega
    rw [this]
    simp

theorem daysN_nil : ∀ n : Nat, daysN n [] = []
  | 0 => rfl
  | _ + 1 => rfl

theorem daysN_any : ∀ (n k : Nat) (m : List Tp), RgtOk m → m.length ≤ n → m.length ≤ k → daysN n m = daysN k m
  | _, k, [], _, _, _ => by rw [daysN_nil, daysN_nil]
  | 0, _, x :: r, _, hn, _ => absurd hn (by simp)
  | _ + 1, 0, x :: r, _, _, hk => absurd hk (by simp)
  | n + 1, k + 1, x :: r, h, hn, hk => by
    have hp := dayLn_pos h (by simp)
    have hd : (List.drop (dayLn (x :: r)) (x :: r)).length = (x :: r).length - dayLn (x :: r) := List.length_drop ..
    have hs := h.sub (List.drop_sublist (dayLn (x :: r)) (x :: r))
    have hl : (x :: r).length = r.length + 1 := rfl
    show _ :: daysN n _ = _ :: daysN k _
    rw [daysN_any n k _ hs (by omega) (by omega)]

theorem daysN_fuel (n : Nat) (m : List Tp) (h : RgtOk m) (hn : m.length ≤ n) : daysN n m = daysN m.length m := daysN_any n m.length m h hn (Nat.le_refl _)

theorem daysN_step {m : List Tp} (h : RgtOk m) (h0 : 0 < m.length) {n : Nat} (hn : m.length ≤ n) : daysN n m = m.take (dayLn m) :: daysN (m.drop (dayLn m)).length (m.drop (dayLn m)) := by
  cases m with
  | nil => simp at h0
  | cons x r =>
    have hp := dayLn_pos h h0
    have hd : (List.drop (dayLn (x :: r)) (x :: r)).length = (x :: r).length - dayLn (x :: r) := List.length_drop ..
    have hs := h.sub (List.drop_sublist (dayLn (x :: r)) (x :: r))
    have hl : (x :: r).length = r.length + 1 := rfl
    rw [daysN_fuel n _ h hn]
    show _ :: daysN r.length _ = _
    rw [daysN_fuel r.length _ hs (by omega)]

/-- A row of taps of one's own. -/
structure DR where
  ao : Option Addr
  cap : Nat
  g : Nat
  tp : List Tp
def DR.val (d : DR) : Value := .slice d.ao d.tp.length d.cap

/-- Rows of taps in new memory. -/
structure DL (M : Nat) (w : World) (ao : Option Addr) (cap g : Nat) (ds : List DR) : Prop where
  row : KRow w ao cap g 1 (ds.map DR.val)
  new : 0 < cap → M ≤ g
  els : ∀ d ∈ ds, KRow w d.ao d.cap d.g 6 (tpV d.tp) ∧ (0 < d.cap → M ≤ d.g ∧ (0 < cap → d.g ≠ g))
  apart : ds.Pairwise (fun a b : DR => 0 < a.cap → 0 < b.cap → a.g ≠ b.g)

theorem DL.nil (M : Nat) (w : World) : DL M w none 0 0 [] := ⟨KRow.nil _ _ _, fun h => absurd h (by omega), fun d hd => absurd hd (by simp), List.Pairwise.nil⟩

theorem DL.app {M : Nat} {w w2 w3 : World} {ao ao' : Option Addr} {cap g cap' g' : Nat} {ds : List DR} (h : DL M w ao cap g ds) (hM : M ≤ w.heap.size) (hf : Fr (fun _ => False) w w2) (d : DR) (hd : KRow w2 d.ao d.cap d.g 6 (tpV d.tp)) (hg : 0 < d.cap → w.heap.size ≤ d.g)
    (hr : KRow w3 ao' cap' g' 1 (ds.map DR.val ++ [d.val])) (hgr : Grew w2 g cap w3 g' cap') : DL M w3 ao' cap' g' (ds ++ [d]) := by
  have hfs : Fr (fun k => k = g ∧ 0 < cap) w2 w3 := by
    rcases hgr with ⟨_, _, f⟩ | ⟨_, _, f⟩
    · exact f
    · exact f.mono (fun _ _ t => t.elim)
  have hn : 0 < cap' → (g' = g ∧ 0 < cap) ∨ w2.heap.size ≤ g' := fun hc => by
    rcases hgr with ⟨e, e2, _⟩ | ⟨e, _, _⟩
    · exact .inl ⟨e, by omega⟩
    · exact .inr e
  have hs := hf.size
  have hglt : 0 < cap → g < w.heap.size := fun hc => h.row.lt (by omega) hc
  have hold : ∀ e ∈ ds, KRow w3 e.ao e.cap e.g 6 (tpV e.tp) ∧ (0 < e.cap → e.g < w.heap.size) := fun e he => by
    have k := (h.els e he).1
    refine ⟨?_, fun hc => k.lt (by omega) hc⟩
    exact (k.keep (by omega) hf).stay (fun hc => hfs.block e.g ((k.keep (by omega) hf).lt (by omega) hc) (fun t => ((h.els e he).2 hc).2 t.2 t.1))
  have hdl : 0 < d.cap → d.g < w2.heap.size := fun hc => hd.lt (by omega) hc
  refine ⟨by rw [List.map_append]; exact hr, fun hc => ?_, fun e he => ?_, List.pairwise_append.2 ⟨h.apart, List.pairwise_singleton _ _, fun a ha b hb h1 h2 => ?_⟩⟩
  · rcases hn hc with ⟨e, e2⟩ | e
    · rw [e]; exact h.new e2
    · omega
  · rcases List.mem_append.1 he with he | he
    · refine ⟨(hold e he).1, fun hc => ⟨((h.els e he).2 hc).1, fun hc' => ?_⟩⟩
      rcases hn hc' with ⟨q, q2⟩ | q
      · rw [q]; exact ((h.els e he).2 hc).2 q2
      · have := (hold e he).2 hc; omega
    · rw [List.mem_singleton] at he
      subst he
      refine ⟨hd.stay (fun hc => hfs.block e.g (hdl hc) (fun t => by have := hg hc; have := hglt t.2; omega)), fun hc => ⟨Nat.le_trans hM (hg hc), fun hc' => ?_⟩⟩
      rcases hn hc' with ⟨q, q2⟩ | q
      · have := hg hc; have := hglt q2; omega
      · have := hdl hc; omega
  · rw [List.mem_singleton] at hb
    subst hb
    have := (hold a ha).2 h1
    have := hg h2
    omega

theorem tInfo : (Tryz.prog.info? 47).map (fun i => (i.zero, i.size, i.bytes)) = some (some (.agg #[.int .i64 0, .int .i64 0, .string ⟨#[]⟩, .int .i64 0, .int .i64 0, .int .i64 0]), 6, 56) := by kernel_rfl
theorem tsInfo : (Tryz.prog.info? 29).map (fun i => (i.zero, i.size, i.bytes)) = some (some (.slice none 0 0), 1, 24) := by kernel_rfl

theorem info_of3 {T : TypeId} {z : Value} {k b : Nat} (h : (Tryz.prog.info? T).map (fun i => (i.zero, i.size, i.bytes)) = some (some z, k, b)) : ∃ i, Tryz.prog.info? T = some i ∧ i.zero = some z ∧ i.size = k ∧ i.bytes = b := by
  cases hi : Tryz.prog.info? T with
  | none => rw [hi] at h; simp at h
  | some i => rw [hi] at h; simp at h; exact ⟨i, rfl, h.1, h.2.1, h.2.2⟩

theorem CAt.srcJ {w : World} {ao : Option Addr} {vs : List Value} (h : CAt w ao vs) (tx e : TypeId) (k n cap : Nat) (hk : 0 < k) (ht : Tryz.prog.underlying tx = some (.slice e)) (hn : vs.length = n * k) (h1 : ∀ u ∈ vs, u.oneCell' = true) : Src Tryz.prog k tx (.slice ao n cap) n vs w := by
  by_cases hm : 0 < vs.length
  · obtain ⟨b, off, rfl, hc⟩ := h hm
    refine Src.ofSlice w ht ⟨b, off, none⟩ n cap vs hn (fun j u hj => ?_) h1
    have hjl := (List.getElem?_eq_some_iff.1 hj).1
    rw [Addr.add_lit, hc j hjl, ← hj, List.getElem?_eq_getElem hjl]
  · have e0 : vs = [] := List.eq_nil_of_length_eq_zero (by omega)
    subst e0
    obtain rfl : n = 0 := by
      rcases Nat.eq_zero_or_pos n with h0 | h0
      · exact h0
      · have := Nat.mul_pos h0 hk; simp at hn; omega
    cases ao with
    | none => exact Src.ofNil w ht cap
    | some b => exact Src.ofSlice w ht b 0 cap [] (by simp) (fun j u hj => by simp at hj) (fun u hu => by cases hu)

theorem CAt.rear {w : World} {ao : Option Addr} {l : List Tp} (h : CAt w ao (tpV l)) (n : Nat) : CAt w (ao.map (fun x => x.add (n * 6))) (tpV (l.drop n)) := by
  intro h0
  have h1 := tpV_length l
  have h2 := tpV_length (l.drop n)
  rw [List.length_drop] at h2
  have hn : n < l.length := by
    rcases Nat.lt_or_ge n l.length with q | q
    · exact q
    · rw [show l.length - n = 0 by omega] at h2; omega
  have h3 : (l.length - n) * 6 = l.length * 6 - n * 6 := by omega
  obtain ⟨b, off, rfl, hc⟩ := h (by omega)
  refine ⟨b, off + n * 6, by simp [Addr.add_lit], fun j hj => ?_⟩
  rw [Nat.add_assoc, hc (n * 6 + j) (by omega)]
  have e2 : tpV l = tpV (l.take n) ++ tpV (l.drop n) := by unfold tpV; rw [← List.flatMap_append, List.take_append_drop]
  have h4 := tpV_length (l.take n)
  rw [List.length_take, Nat.min_eq_left (by omega)] at h4
  congr 1
  rw [List.getElem_of_eq e2, List.getElem_append_right (by omega)]
  congr 1
  omega

theorem CAt.front {w : World} {ao : Option Addr} {l : List Tp} (h : CAt w ao (tpV l)) (n : Nat) : CAt w ao (tpV (l.take n)) := by
  intro h0
  have h1 := tpV_length l
  have h2 := tpV_length (l.take n)
  rw [List.length_take] at h2
  obtain ⟨b, off, e, hc⟩ := h (by omega)
  refine ⟨b, off, e, fun j hj => ?_⟩
  rw [hc j (by omega)]
  have e2 : tpV l = tpV (l.take n) ++ tpV (l.drop n) := by unfold tpV; rw [← List.flatMap_append, List.take_append_drop]
  congr 1
  rw [List.getElem_of_eq e2, List.getElem_append_left hj]

set_option maxHeartbeats 1000000 in
theorem days_any (w : World) (ao0 : Option Addr) (cap0 : Nat) (l : List Tp) (h : CAt w ao0 (tpV l)) (hl : l.length ≤ 4398046511104) (hcap : l.length ≤ cap0) :
    Calls Tryz.prog 27 #[.slice ao0 l.length cap0] w fun e w' => ∃ ao cap g ds, e = .returned (.tuple #[.slice ao ds.length cap, .int .i64 (rightT l)]) ∧ DL w.heap.size w' ao cap g ds ∧ ds.map DR.tp = (if rightT l = 0 then daysL l else []) ∧ Fr (fun _ => False) w w' := by
  have RR := hide (jright_any w ao0 cap0 l h hl)
  have H := hide h
  clear h
  go_enter Tryz.func27, Tryz.ntmps27
  go_wp2_with fail
  refine (unhide RR).mono ?_
  rintro e w1 ⟨rfl, hF1⟩
  have HF1 := hide hF1
  clear hF1 RR
  by_cases hr : rightT l = 0
  · have HR := hide hr
    rw [hr]
    obtain ⟨hl2, hok⟩ := (rightT_zero l).1 hr
    have HOK := hide hok
    clear hok hr
    go_wp2_with fail
    go_loopw [0, 5] (fun tv dv wr => ∃ (rem : List Tp) (ds : List DR) (ak : Option Addr) (ck : Nat) (ao : Option Addr) (cap g : Nat), rem.length ≤ ck ∧ tv = .slice ak rem.length ck ∧ dv = .slice ao ds.length cap ∧ Hid (RgtOk rem ∧ rem.length ≤ 2000 ∧ ds.length + rem.length ≤ l.length ∧ CAt w ak (tpV rem) ∧ DL w.heap.size wr ao cap g ds ∧ ds.map DR.tp ++ daysN rem.length rem = daysL l ∧ Fr (fun _ => False) w wr)) (fun tv _ _ => match tv with | .slice _ n _ => n | _ => 0)
    case atStart => exact ⟨l, [], ao0, cap0, none, 0, 0, hcap, rfl, rfl, hide ⟨unhide HOK, hl2, by simp, unhide H, DL.nil _ _, by simp [daysL], unhide HF1⟩⟩
    case round =>
      obtain ⟨rem, ds, ak, ck, ao, cap, g, hck, rfl, rfl, HI⟩ := hrel
      by_cases h0 : 0 < rem.length
      · obtain ⟨hok, h2000, hcnt, hC, hD, hE, hF⟩ := unhide HI
        have RD := hide (dayLength_any wr ak ck rem (hC.keep hF) (by omega) h0)
        have hn0 := dayLn_pos hok h0
        have hnl := dayLn_le rem
        have HST := hide (daysN_step hok h0 (Nat.le_refl _))
        obtain ⟨n, hn⟩ : ∃ n, dayLn rem = n := ⟨_, rfl⟩
        have HN := hide hn
        rw [hn] at RD hn0 hnl
        have h0b : decide ((0 : Int) < (rem.length : Int)) = true := by simp; omega
        obtain ⟨m, hm⟩ : ∃ m, rem.length = m := ⟨_, rfl⟩
        have HMM := hide hm
        rw [hm] at RD hnl hck h0b ⊢
        have HS0 := hide (And.intro hok (And.intro h2000 (And.intro hcnt (And.intro hC (And.intro hD (And.intro hE hF))))))
        clear hn hm hok h2000 hcnt hC hD hE hF HI h0
        go_wp2_with fail
        refine (unhide RD).mono ?_
        rintro e w2 ⟨rfl, hF2⟩
        have HF2 := hide hF2
        clear hF2 RD
        obtain ⟨info, hi, hz, hs, hy⟩ := info_of3 tInfo
        obtain ⟨infs, hi2, hz2, hs2, hy2⟩ := info_of3 tsInfo
        have HI1 := hide (And.intro hi (And.intro hz (And.intro hs hy)))
        have HI2 := hide (And.intro hi2 (And.intro hz2 (And.intro hs2 hy2)))
        have HSR : Hid (Src Tryz.prog 6 29 (.slice ak n ck) n (tpV (rem.take n)) w2) := hide (by
          obtain ⟨_, _, _, hC, _, _, hF⟩ := unhide HS0
          exact CAt.srcJ (((hC.keep hF).keep (unhide HF2)).front n) 29 47 6 n ck (by omega) Tryz.underlying29 (by rw [tpV_length, List.length_take, unhide HMM, Nat.min_eq_left hnl]) (tpV_one _))
        have hm2 : m ≤ 2000 := by have := (unhide HS0).2.1; rw [unhide HMM] at this; exact this
        have hnI : (n : Int) ≤ (m : Int) := by omega
        have hnC : (n : Int) ≤ (ck : Int) := by omega
        have hds : ds.length ≤ l.length := by have := (unhide HS0).2.2.1; omega
        clear hi hz hs hy hi2 hz2 hs2 hy2
        go_wp2_with (at_builtin; refine wpList_append_krow _ rfl (.const (.slice none 0 0)) (.tmp 20) 29 29 rfl 47 info _ 6 (by omega) Tryz.underlying29 (unhide HI1).1 (unhide HI1).2.1 rfl (unhide HI1).2.2.1 rfl (KRow.nil w2 0 6) rfl _ _ n rfl (unhide HSR) (by rw [(unhide HI1).2.2.2]; omega) (by omega) ?_)
        intro ao1 cap1 w3 g1 hrow hgr
        have hF3 : Fr (fun _ => False) w2 w3 := by
          rcases hgr with ⟨_, _, hF⟩ | ⟨_, _, hF⟩
          · exact hF.mono (fun _ _ t => by omega)
          · exact hF
        have hg1 : 0 < cap1 → w2.heap.size ≤ g1 := fun hc => by
          rcases hgr with ⟨_, e2, _⟩ | ⟨e1, _, _⟩
          · omega
          · exact e1
        have HR1 : Hid (KRow w3 ao1 cap1 g1 6 (tpV (rem.take n)) ∧ (0 < cap1 → w2.heap.size ≤ g1) ∧ Fr (fun _ => False) w2 w3) := hide ⟨by simpa using hrow, hg1, hF3⟩
        have HSR2 : Hid (Src Tryz.prog 1 65 (.slice (some ⟨w3.heap.size, 0, none⟩) 1 1) 1 [.slice ao1 n cap1] (w3.alloc (.cells #[.slice ao1 n cap1] 29))) := hide (src_one w3 [.slice ao1 n cap1] 65 29 1 Tryz.underlying65 rfl (fun u hu => by rw [List.mem_singleton] at hu; subst hu; rfl) (fun j => ((Bx.new w3 #[.slice ao1 n cap1] 29).cell j).trans (by simp)))
        have HDW : Hid (KRow (w3.alloc (.cells #[.slice ao1 n cap1] 29)) ao cap g 1 (ds.map DR.val)) := hide (by
          obtain ⟨_, _, _, _, hD, _, hF⟩ := unhide HS0
          exact hD.row.keep (by omega) (((unhide HF2).trans hF3 (fun _ _ t => t)).alloc _))
        clear hrow hgr hF3 hg1 HSR
        go_wp2_with (at_builtin; refine wpList_append_krow _ rfl (.tmp 17) (.tmp 22) 65 65 rfl 29 infs _ 1 (by omega) Tryz.underlying65 (unhide HI2).1 (unhide HI2).2.1 rfl (unhide HI2).2.2.1 rfl (unhide HDW) (by simp) _ [.slice ao1 n cap1] 1 rfl (unhide HSR2) (by rw [(unhide HI2).2.2.2]; omega) (by omega) ?_)
        intro ao2 cap2 w4 g2 hrow2 hgr2
        have HF2W := HF2
        have HGR := hide hgr2
        have HRW := hide hrow2
        clear hgr2 hrow2 HSR2 HDW HI1 HI2
        go_wp2
        obtain ⟨hok, h2000, hcnt, hC, hD, hE, hF⟩ := unhide HS0
        obtain ⟨hr1, hg1, hF3⟩ := unhide HR1
        have hmm := unhide HMM
        have hnn := unhide HN
        have htl : (rem.take n).length = n := by rw [List.length_take, hmm, Nat.min_eq_left hnl]
        have hdl : (rem.drop n).length = m - n := by rw [List.length_drop, hmm]
        have hfr : Fr (fun _ => False) wr (w3.alloc (.cells #[.slice ao1 n cap1] 29)) := ((unhide HF2W).trans hF3 (fun _ _ t => t)).alloc _
        have hfin : Fr (fun _ => False) w w4 := by
          have h1 : Fr (fun _ => False) w (w3.alloc (.cells #[.slice ao1 n cap1] 29)) := hF.trans hfr (fun _ _ t => t)
          rcases unhide HGR with ⟨_, _, f⟩ | ⟨_, _, f⟩
          · exact h1.trans f (fun i hi t => by have := hD.new t.2; omega)
          · exact h1.trans f (fun _ _ t => t)
        refine ⟨⟨rem.drop n, ds ++ [⟨ao1, cap1, g1, rem.take n⟩], _, ck - n, ao2, cap2, g2, by rw [hdl]; omega, by rw [hdl], by simp, hide ⟨hok.sub (List.drop_sublist ..), by rw [hdl]; omega, by rw [hdl, List.length_append]; simp only [List.length_cons, List.length_nil]; omega, ?_, ?_, ?_, hfin⟩⟩, by simp; omega⟩
        · split
          · rename_i e
            have : rem.drop n = [] := List.eq_nil_of_length_eq_zero (by omega)
            rw [this]
            exact CAt.nil _ _
          · exact hC.rear n
        · refine hD.app hF.size hfr ⟨ao1, cap1, g1, rem.take n⟩ (hr1.keep (by omega) ((Fr.refl _ _).alloc _)) (fun hc => Nat.le_trans (unhide HF2W).size (hg1 hc)) ?_ (unhide HGR)
          unfold DR.val
          simp only [htl]
          exact unhide HRW
        · rw [List.map_append, List.append_assoc, ← hE]
          have := unhide HST
          rw [hnn, hmm] at this
          rw [hmm, this]
          rfl
      · obtain rfl : rem = [] := List.eq_nil_of_length_eq_zero (by omega)
        obtain ⟨_, _, _, _, hD, hE, hF⟩ := unhide HI
        have HD := hide hD
        have HE : Hid (ds.map DR.tp = daysL l) := hide (by rw [← hE]; simp [daysN])
        have HF := hide hF
        clear hD hE hF HI
        simp only [List.length_nil]
        go_wp2
        go_ret2
        exact ⟨ao, cap, g, ds, by rfl, unhide HD, unhide HE, unhide HF⟩
  · have hb2 : (rightT l == 0) = false := by simp [hr]
    have hb3 : (rightT l != 0) = true := by simp [hr]
    have HX : Hid (∃ ao cap g ds, Ending.returned (.tuple #[.slice none 0 0, .int .i64 (rightT l)]) = .returned (.tuple #[.slice ao ds.length cap, .int .i64 (rightT l)]) ∧ DL w.heap.size w1 ao cap g ds ∧ ds.map DR.tp = (if rightT l = 0 then daysL l else []) ∧ Fr (fun _ => False) w w1) := hide ⟨none, 0, 0, [], rfl, DL.nil _ _, by rw [if_neg hr]; rfl, unhide HF1⟩
    clear H HF1
    go_wp2
    go_ret2
    first | exact unhide HX | (have := unhide HX; simpa [hr] using this)

end Go.Proofs.YtjgbllfppomcmaaGreat

/- The examples. -/
namespace Go.Proofs.YtjgbllfppomcmaaGreat
open Go.RowKit

def tok8 : ByteArray := ⟨#[97, 98, 99, 100, 101, 102, 103, 104]⟩
def exTap (c k q r : Int) : Tp := ⟨1, c, tok8, k, q, r⟩

def ex1 : List Tp := [exTap 1 1 1 480, exTap 2 2 2 510, exTap 3 3 9 520]
def ex2 : List Tp := [exTap 1 1 1 480, exTap 2 2 2 601]
def ex3 : List Tp := [exTap 1 1 1 480, exTap 2 2 2 1920]

theorem ex1_e : buildE (rightE plainT) ex1 = 0 := by decide +kernel
theorem ex2_e : buildE (rightE plainT) ex2 = 0 := by decide +kernel
theorem ex3_e : rightT ex3 = 0 := by decide +kernel
theorem ex1_j : buildJ (tmOf plainT) (rightE plainT) ex1 = [⟨1, 1, 2, 480, 510, false⟩, ⟨4, 9, 9, 520, 520, false⟩] := by rfl
theorem ex2_j : buildJ (tmOf plainT) (rightE plainT) ex2 = [⟨2, 1, 1, 480, 480, false⟩, ⟨3, 2, 2, 601, 601, false⟩] := by rfl
theorem ex3_j : (daysL ex3).length = 2 := by rfl

theorem cat_built {w : World} {A : Ad} (hT : TAt w A plainT) (l : List Tp) (hl : l.length ≤ 100) (n : Nat) (js : List Jn) (he : buildE (rightE plainT) l = 0) (hj : buildJ (tmOf plainT) (rightE plainT) l = js) (hn : l.length = n) :
    Hid (∀ (u : World) (b cap : Nat), Fr (fun _ => False) w u → CAt u (some ⟨b, 0, none⟩) (tpV l) → Calls Tryz.prog 62 #[tv A plainT, .slice (some ⟨b, 0, none⟩) n cap] u fun e w' =>
      ∃ ao cap g, e = .returned (.tuple #[.slice ao js.length cap, .int .i64 0]) ∧ KRow w' ao cap g 6 (jV js) ∧ (0 < cap → u.heap.size ≤ g) ∧ Fr (fun _ => False) u w') := hide (fun u b cap hu hc => by
  subst hn
  refine (build_any u A plainT (hT.keep hu) (some ⟨b, 0, none⟩) cap l hc (by omega)).mono ?_
  rintro e w' ⟨ao, cap', g, rfl, hK, hg, hF⟩
  rw [he, hj] at *
  exact ⟨ao, cap', g, rfl, hK, hg, hF⟩)

theorem days_built (u : World) (b : Nat) : Hid (CAt u (some ⟨b, 0, none⟩) (tpV ex3) → Calls Tryz.prog 27 #[.slice (some ⟨b, 0, none⟩) 2 2] u fun e w' => ∃ ao cap, e = .returned (.tuple #[.slice ao 2 cap, .int .i64 0]) ∧ Fr (fun _ => False) u w') := hide (fun hc => by
  have l3 : ex3.length = 2 := rfl
  have := days_any u (some ⟨b, 0, none⟩) 2 ex3 hc (by omega) (by omega)
  rw [l3] at this
  refine this.mono ?_
  rintro e w' ⟨ao, cap, g, ds, rfl, _, hd, hF⟩
  rw [if_pos ex3_e] at hd
  have hl : ds.length = 2 := by rw [← List.length_map (f := DR.tp), hd]; exact ex3_j
  exact ⟨ao, cap, by rw [hl, ex3_e], hF⟩)

end Go.Proofs.YtjgbllfppomcmaaGreat

