import Derived.Test.YthgkifkcckandaaJND
import Derived.Test.YthgkifkcckandaaJM1
import Derived.Test.YthgkifkcckandaaQUX
/- A walk over all taps. -/
namespace Go.Proofs.Ythgkifkcckandaa
open Go.RowKit

def wkAt (T : Tm) (l : List Tp) (i : Nat) : Wk := (l.take i).foldl (Wk.take T) wk0
theorem wkAt_zero (T : Tm) (l : List Tp) : wkAt T l 0 = wk0 := rfl
theorem wkAt_succ (T : Tm) (l : List Tp) (i : Nat) (h : i < l.length) : wkAt T l (i + 1) = (wkAt T l i).take T l[i] := by
  unfold wkAt
  rw [List.take_succ_eq_append_getElem h, List.foldl_append]
  rfl
theorem wkAt_len (T : Tm) (l : List Tp) (i : Nat) (h : i ≤ l.length) : (wkAt T l i).made.length ≤ 2 * i := by
  induction i with
  | zero => exact Nat.le_refl _
  | succ i ih =>
    rw [wkAt_succ T l i (by omega)]
    have := take_len T (wkAt T l i) (l[i]'(by omega))
    have := ih (by omega)
    omega
theorem wkAt_all (T : Tm) (l : List Tp) : wkAt T l l.length = walkedW T l := by unfold wkAt walkedW; rw [List.take_length]

theorem WOk.at {T : Tm} (hT : 0 ≤ T.lng) {l : List Tp} (h : RgtOk l) (lo : Int) (hlo : ∀ (j : Nat) (hj : j < l.length), lo ≤ l[j].time) (i : Nat) (hi : i ≤ l.length) : ∃ c, WOk T lo c (wkAt T l i) ∧ ∀ (j : Nat) (hj : j < l.length), i ≤ j → c ≤ l[j].time := by
  induction i with
  | zero => exact ⟨lo, WOk.start T lo, fun j hj _ => hlo j hj⟩
  | succ i ih =>
    obtain ⟨c, h1, h2⟩ := ih (by omega)
    refine ⟨(l[i]'(by omega)).time, ?_, fun j hj hij => h.mono i j (by omega) hj⟩
    rw [wkAt_succ T l i (by omega)]
    exact h1.take hT _ (hlo i (by omega)) (h2 i (by omega) (Nat.le_refl _))

theorem first_time {l : List Tp} (h : RgtOk l) : ∃ lo, 0 ≤ lo ∧ (∀ (j : Nat) (hj : j < l.length), lo ≤ l[j].time) ∧ (∀ hl : 0 < l.length, lo = (l[0]'hl).time) := by
  by_cases hl : 0 < l.length
  · exact ⟨(l[0]'hl).time, (h.time 0 hl).1, fun j hj => h.mono 0 j (by omega) hj, fun _ => rfl⟩
  · exact ⟨0, Int.le_refl _, fun j hj => by omega, fun k => absurd k hl⟩

def wkZ : Array Value := #[.slice none 0 0, .slice none 0 0, .slice none 0 0, .float .f64 0, .int .i64 0, .int .i64 0, .int .i64 0, .int .i64 0, .int .i64 0, .int .i64 0, .int .i64 0, .int .i64 0, .int .i64 0, .int .i64 0, .slice none 0 0, .int .i64 0, .int .i64 0, .int .i64 0, .int .i64 0, .int .i64 0, .int .i64 0, .bool false, .int .i64 0, .int .i64 0, .int .i64 0, .int .i64 0, .int .i64 0, .bool false, .bool false]
theorem wk_size (A : Ad) (t : Tf) : (Try.prog.info? 73).map (·.size) = some (wkC A t wk0 none 0).size := by
  have h : (Try.prog.info? 73).map (·.size) = some 29 := by kernel_rfl
  exact h
theorem wk_one (A : Ad) (t : Tf) : (wkC A t wk0 none 0).all (·.oneCell') = true := by simp [wkC, Value.oneCell']

theorem wpList_store_walk {ops : Array Oper} {rest : List Oper} {o : Oper} {a : Act} {w : World} {Q : Exit → Act → World → Prop} (hgd : o.guard = none) (x y : Operand) (ho : o.op = .store 73 x y)
    {g : Nat} {A : Ad} {t : Tf} (hx : a.eval x = .pointer (some ⟨g, 0, none⟩)) (hy : a.eval y = .agg (wkC A t wk0 none 0)) (old : Array Value) (hg : w.heap[g]? = some (.cells old 73 (0, 0))) (hold : old.size = 29)
    (h : wpList Try.prog ops Q rest (a.put o.dst undef) (w.setRow g (wkC A t wk0 none 0))) : wpList Try.prog ops Q (o :: rest) a w :=
  wpList_store_row hgd 73 x y ho g (wkC A t wk0 none 0) hx hy 73 old hg (wk_size A t) hold (wk_one A t) h

set_option maxHeartbeats 1000000 in
theorem walked_any (w : World) (A : Ad) (t : Tf) (hT : TAt w A t) (hlg : 0 ≤ t.longest) (ao0 : Option Addr) (cap0 : Nat) (l : List Tp) (h : CAt w ao0 (tpV l)) (hl : l.length ≤ 2000) (hok : RgtOk l) :
    Calls Try.prog 17 #[tv A t, .slice ao0 l.length cap0] w fun e w' => ∃ ao' cap' g', e = .returned (.slice ao' (walkedJ (tmOf t) l).length cap') ∧ KRow w' ao' cap' g' 6 (jV (walkedJ (tmOf t) l)) ∧ (0 < cap' → w.heap.size ≤ g') ∧ Fr (fun _ => False) w w' := by
  obtain ⟨lo, hlo0, hlo1, _⟩ := first_time hok
  have HAT := hide (fun i hi => WOk.at (T := tmOf t) hlg hok lo hlo1 i hi)
  have HT := hide hT
  have H := hide h
  have HOK := hide hok
  have HLO := hide (And.intro hlo0 hlo1)
  obtain ⟨u, hu⟩ : ∃ u, u = (w.alloc (.cells (tc A t) 27)).alloc (.cells wkZ 73) := ⟨_, rfl⟩
  obtain ⟨v, hv⟩ : ∃ v, v = u.setRow (w.heap.size + 1) (wkC A t wk0 none 0) := ⟨_, rfl⟩
  have hgu : u.heap[w.heap.size + 1]? = some (.cells wkZ 73 (0, 0)) := by
    rw [hu]
    have := heap_new (w.alloc (.cells (tc A t) 27)) (.cells wkZ 73)
    rw [heap_alloc] at this
    exact this
  have hFv : Fr (fun _ => False) w v := by
    rw [hv, hu]
    exact (((Fr.refl _ w).alloc _).alloc _).setRow (fun h => absurd h (by omega)) _
  have hbx : Bx v (w.heap.size + 1) (wkC A t wk0 none 0) 73 := by
    rw [hv]
    exact setRow_heap _ _ _ _ _ _ hgu
  have HG := hide hgu
  have HU := hide hu
  have HM0 : Hid (WM w v (w.heap.size + 1) A t (wkAt (tmOf t) l 0) none 0 0) := hide ⟨hbx, KRow.nil _ _ _, fun h => absurd h (by omega), by omega, fun h => absurd h (by omega), hFv⟩
  have HV := hide hv
  obtain ⟨p, hp⟩ : ∃ p, w.heap.size + 1 = p := ⟨_, rfl⟩
  have HPP := hide hp
  rw [hp] at HM0
  clear hFv hbx hv hu hgu hlo0 hlo1 hT h hok hlg
  unfold tv tc
  rw [hp] at HV HG
  simp only [tc, wkZ] at HU
  go_enter Try.func17, Try.ntmps17
  go_upto_region 1 with (fail)
  go_upto_region 2 with (first | (rw [← unhide HU]; refine wpList_store_walk rfl (.tmp 5) (.tmp 9) rfl (g := p) (A := A) (t := t) rfl rfl _ (unhide HG) rfl ?_; rw [← unhide HV]))
  clear HV hp HU HG
  go_wp2_with fail
  go_loopw [12] (fun iv wr => ∃ i : Nat, i ≤ l.length ∧ iv = .int .i64 i ∧ Hid (∃ ao cap g, WM w wr p A t (wkAt (tmOf t) l i) ao cap g)) (fun iv _ => l.length - (intOf iv).toNat)
  case atStart => exact ⟨0, Nat.zero_le _, rfl, hide ⟨_, _, _, unhide HM0⟩⟩
  case round =>
    obtain ⟨i, hi, rfl, HI⟩ := hrel
    obtain ⟨ao, cap, g, hM⟩ := unhide HI
    have hlen := wkAt_len (tmOf t) l i hi
    obtain ⟨c, hW, hc⟩ := unhide HAT i hi
    by_cases hil : i < l.length
    · obtain ⟨b, off, rfl, c0, c1, c2, c3, c4, c5⟩ := ((unhide H).keep hM.fr).tp hil
      have RT := hide (fun (u : World) (hu : Fr (fun _ => False) wr u) => take_any w u p A t (wkAt (tmOf t) l i) ao cap g (hM.keep hu) (unhide HT) (by omega) l[i] lo c hW (unhide HLO).1 ((unhide HLO).2 i hil) (hc i hil (Nat.le_refl _)) ((unhide HOK).time i hil).2)
      have HN : Hid (wkAt (tmOf t) l (i + 1) = (wkAt (tmOf t) l i).take (tmOf t) l[i]) := hide (wkAt_succ _ _ _ hil)
      generalize (wkAt (tmOf t) l i).take (tmOf t) l[i] = s' at *
      generalize l[i] = x at *
      obtain ⟨dev, ctr, tok, kind, place, time⟩ := x
      simp only [tpC] at RT c0 c1 c2 c3 c4 c5
      clear hM HI hlen hW hc
      go_wp2_with fail
      refine (unhide RT _ ((Fr.refl _ _).alloc _)).mono ?_
      rintro e w2 ⟨rfl, ao2, cap2, g2, hM2, _, _⟩
      have HM2 := hide hM2
      clear hM2 RT c0 c1 c2 c3 c4 c5
      go_wp2
      exact ⟨⟨i + 1, by omega, by go_num, hide ⟨_, _, _, by rw [unhide HN]; exact unhide HM2⟩⟩, by simp [intOf]; omega⟩
    · obtain rfl : i = l.length := by omega
      have RC := hide (closeOpen_any w wr p A t (wkAt (tmOf t) l l.length) ao cap g hM (by omega) (fun j hj => by have := (hW.opn j hj).2.1; omega))
      have HE : Hid ((wkAt (tmOf t) l l.length).shut.made = walkedJ (tmOf t) l) := hide (by rw [wkAt_all]; rfl)
      generalize (wkAt (tmOf t) l l.length).shut = s' at *
      clear hM HI hlen hW hc HAT HM0 H HT HOK HLO
      go_wp2_with fail
      refine (unhide RC).mono ?_
      rintro e w2 ⟨rfl, ao2, cap2, g2, hM2, _, _⟩
      have c14 : w2.cell? ⟨p, 14, none⟩ = some (.slice ao2 s'.made.length cap2) := hM2.box.cell 14
      have HM2 := hide hM2
      clear hM2 RC
      go_wp2
      go_ret
      rw [← unhide HE]
      exact ⟨ao2, cap2, g2, rfl, (unhide HM2).row, (unhide HM2).g0, (unhide HM2).fr⟩

end Go.Proofs.Ythgkifkcckandaa

