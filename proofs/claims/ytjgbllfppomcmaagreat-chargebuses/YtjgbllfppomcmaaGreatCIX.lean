/- Proved: the law ChargeBuses answers true for every tariff, slice of outages and slice of taps, and its arguments read afterwards as they read before. No condition but the form's own reach. -/
import Derived.Test.YtjgbllfppomcmaaGreatCBZ
import Derived.Test.YtjgbllfppomcmaaGreatCB8
import Derived.Test.YtjgbllfppomcmaaGreatOQX
import Derived.Test.YtjgbllfppomcmaaGreatFRX
import Derived.Test.YtjgbllfppomcmaaGreatOBX
/- Who takes buses alone: mathematics. -/
namespace Go.Proofs.YtjgbllfppomcmaaGreat
open Go.RowKit

theorem bus_fold (T : Tm) (l : List Tp) : ∀ (s : Wk), (∀ x ∈ l, x.kind = 3) → (∀ j ∈ s.made, j.kind = 4) → s.opn = none → (∀ j ∈ (l.foldl (Wk.take T) s).made, j.kind = 4) ∧ (l.foldl (Wk.take T) s).opn = none := by
  induction l with
  | nil => intro s _ h1 h2; exact ⟨h1, h2⟩
  | cons x r ih =>
    intro s hx h1 h2
    rw [List.foldl_cons]
    have e : s.take T x = s.ride T x := by unfold Wk.take; rw [if_pos (hx x (List.mem_cons_self ..))]
    rw [e]
    refine ih _ (fun y hy => hx y (List.mem_cons_of_mem _ hy)) (fun j hj => ?_) h2
    unfold Wk.ride at hj
    rcases List.mem_append.1 hj with hj | hj
    · exact h1 j hj
    · rw [List.mem_singleton] at hj; subst hj; rfl
theorem bus_days {t : Tf} {its : List Tp} (h : ∀ x ∈ its, x.kind = 3) : ∀ j ∈ dayJ t its, j.kind = 4 := by
  obtain ⟨h1, h2⟩ := bus_fold (tmOf t) its wk0 h (fun j hj => absurd hj (by simp [wk0])) rfl
  intro j hj
  unfold dayJ walkedJ at hj
  have e : (walkedW (tmOf t) its).shut = walkedW (tmOf t) its := by
    unfold Wk.shut
    rw [show (walkedW (tmOf t) its).opn = none from h2]
  rw [e] at hj
  exact h1 j hj

theorem bus_back (dl : Int) (l : List Ou) : ∀ (p : List (Jn × Int)), (∀ x ∈ p, x.1.kind = 4) → backL dl l p = p
  | [], _ => rfl
  | x :: r, h => by
    have hk := h x (List.mem_cons_self ..)
    obtain ⟨e1, e2⟩ := back1_cases dl l x
    have e : back1 dl l x = x := by
      rcases e2 with e2 | ⟨k, _⟩
      · exact Prod.ext e1 e2
      · exact absurd hk k
    show back1 dl l x :: backL dl l r = x :: r
    rw [e, bus_back dl l r (fun y hy => h y (List.mem_cons_of_mem _ hy))]

theorem bus_prices {t : Tf} {its : List Tp} (h : ∀ x ∈ its, x.kind = 3) (l : List Ou) : dayP t l its = priced t (dayJ t its) := by
  unfold dayP
  refine bus_back _ _ _ (fun x hx => ?_)
  unfold priced at hx
  obtain ⟨j, hj, rfl⟩ := List.mem_map.1 hx
  exact bus_days h j hj

/-- A day of rides alone. -/
def BusD (d : Dy) : Prop := d.rail = 0 ∧ d.most = 0 ∧ d.low = 0 ∧ d.high = 0
theorem BusD.put {t : Tf} {d : Dy} (h : BusD d) {p : Jn × Int} (hp : p.1.kind = 4) : BusD (putD t d p) := by
  unfold putD
  rw [if_neg (by omega), if_pos hp]
  exact h
theorem bus_sum {t : Tf} : ∀ (l : List (Jn × Int)) (d : Dy), BusD d → (∀ p ∈ l, p.1.kind = 4) → BusD (l.foldl (putD t) d)
  | [], _, h, _ => h
  | p :: r, _, h, hl => bus_sum r _ (h.put (hl p (List.mem_cons_self ..))) (fun x hx => hl x (List.mem_cons_of_mem _ hx))
theorem bus_dayD {t : Tf} {l : List Ou} {its : List Tp} (h : ∀ x ∈ its, x.kind = 3) : BusD (dayD t l its) ∧ dayD t l its = dayD t [] its := by
  refine ⟨?_, by unfold dayD; rw [bus_prices h l, bus_prices h []]⟩
  have hk : ∀ p ∈ dayP t l its, p.1.kind = 4 := by
    rw [bus_prices h l]
    intro p hp
    unfold priced at hp
    obtain ⟨j, hj, rfl⟩ := List.mem_map.1 hp
    exact bus_days h j hj
  unfold dayD dR
  split
  · have hs := bus_sum (t := t) (dayP t l its) (d0 (dayN its)) ⟨rfl, rfl, rfl, rfl⟩ hk
    exact hs
  · exact ⟨rfl, rfl, rfl, rfl⟩

theorem bus_week {t : Tf} : ∀ (L : List Dy) (s : Dy), BusD s → (∀ d ∈ L, BusD d ∧ GoodD t d) → BusD (L.foldl addW s)
  | [], _, h, _ => h
  | d :: r, s, h, hl => by
    obtain ⟨⟨b1, b2, b3, b4⟩, hg⟩ := hl d (List.mem_cons_self ..)
    have hn := hg.none b3
    refine bus_week r _ ?_ (fun x hx => hl x (List.mem_cons_of_mem _ hx))
    obtain ⟨s1, s2, s3, s4⟩ := h
    unfold BusD addW widD lowW
    simp only [imax_eq]
    rw [if_pos s3]
    omega
theorem bus_wkV {t : Tf} (hr : rightE t = 0) {L : List Dy} (h : ∀ d ∈ L, BusD d ∧ GoodD t d) : wkV t L ≤ t.busWeekly := by
  obtain ⟨s1, s2, s3, s4⟩ := bus_week L dz ⟨rfl, rfl, rfl, rfl⟩ h
  have hw := busWeekly_of hr
  unfold wkV
  rw [show (sumW L).most = 0 from s2]
  have e1 : (heldW t (sumW L)).low = 0 := s3
  have e2 : (heldW t (sumW L)).high = 0 := s4
  have e3 : (heldW t (sumW L)).rail = 0 := s1
  have e4 : (heldW t (sumW L)).bus = imin (sumW L).bus t.busWeekly := rfl
  unfold capV
  rw [e1, e2, span_none hr, if_neg (by decide), e3, e4, imin_eq]
  omega
theorem bus_bills {t : Tf} (hr : rightE t = 0) : ∀ (n : Nat) (D : List Dy), (∀ d ∈ D, BusD d ∧ GoodD t d) → ∀ b ∈ billsN t n D, b.2 ≤ t.busWeekly
  | 0, _, _, b, hb => absurd hb (by simp [billsN])
  | _ + 1, [], _, b, hb => absurd hb (by simp [billsN])
  | n + 1, d :: r, h, b, hb => by
    have hb' : b ∈ (weekV d.day, wkV t ((d :: r).take (wkLn (d :: r)))) :: billsN t n ((d :: r).drop (wkLn (d :: r))) := hb
    rcases List.mem_cons.1 hb' with rfl | hb'
    · exact bus_wkV hr (fun x hx => h x (List.mem_of_mem_take hx))
    · exact bus_bills hr n _ (fun x hx => h x (List.mem_of_mem_drop hx)) b hb'

theorem buses_math {t : Tf} {l : List Ou} {m : List Tp} (h : owedE t l m = 0) (hb : ∀ x ∈ m, x.kind = 3) : owedE t [] m = 0 ∧ owedL t [] m = owedL t l m ∧ ∀ b ∈ owedL t l m, 0 ≤ b.2 ∧ b.2 ≤ t.busWeekly := by
  obtain ⟨hr, _, hrt⟩ := owedE_zero h
  obtain ⟨hl, hok⟩ := (rightT_zero m).1 hrt
  have h0 : owedE t [] m = 0 := by
    unfold owedE
    rw [if_pos hr, if_pos (by rfl)]
    exact hrt
  have hits := (daysL_ok hok).1
  have hk : ∀ its ∈ daysL m, ∀ x ∈ its, x.kind = 3 := fun its hi x hx => hb x ((hits its hi).sub.subset hx)
  have hd : daysD t [] m = daysD t l m := by
    unfold daysD
    exact List.map_congr_left (fun its hi => (bus_dayD (hk its hi)).2.symm)
  have hrow := daysD_row hr (l := l) hok hl
  refine ⟨h0, by unfold owedL; rw [if_pos h, if_pos h0, hd], fun b hbm => ⟨((owedL_in t l m).2 b hbm).1, ?_⟩⟩
  unfold owedL at hbm
  rw [if_pos h] at hbm
  refine bus_bills hr _ (daysD t l m) (fun d hdm => ⟨?_, (hrow.good d hdm).1⟩) b hbm
  unfold daysD at hdm
  obtain ⟨its, hi, rfl⟩ := List.mem_map.1 hdm
  exact (bus_dayD (hk its hi)).1

end Go.Proofs.YtjgbllfppomcmaaGreat

/- The walk of ChargeBuses. -/
namespace Go.Proofs.YtjgbllfppomcmaaGreat
open Go.RowKit

theorem tpV_snocI (l : List Tp) (x : Tp) : tpV (l ++ [x]) = tpV l ++ tpL x := by simp [tpV]
theorem tpL_oneI (x : Tp) : ∀ u ∈ tpL x, u.oneCell' = true := fun u hu => by simp only [tpL, List.mem_cons, List.not_mem_nil, or_false] at hu; rcases hu with rfl | rfl | rfl | rfl | rfl | rfl <;> rfl

/-- A row of taps of one's own, as it grows. -/
structure TLI (w0 w : World) (ao : Option Addr) (cap g : Nat) (L : List Tp) : Prop where
  row : KRow w ao cap g 6 (tpV L)
  new : 0 < cap → w0.heap.size ≤ g
  fr : Fr (fun _ => False) w0 w

theorem TLI.app {w0 w w2 w3 : World} {ao ao' : Option Addr} {cap g cap' g' : Nat} {L : List Tp} (h : TLI w0 w ao cap g L) (hf : Fr (fun _ => False) w w2) (x : Tp) (hr : KRow w3 ao' cap' g' 6 (tpV L ++ tpL x)) (hg : Grew w2 g cap w3 g' cap') : TLI w0 w3 ao' cap' g' (L ++ [x]) := by
  refine ⟨by rw [tpV_snocI]; exact hr, fun hc => ?_, ?_⟩
  · rcases hg with ⟨e, e2, _⟩ | ⟨e, _, _⟩
    · rw [e]; exact h.new (by omega)
    · have := h.fr.size; have := hf.size; omega
  · rcases hg with ⟨_, _, f⟩ | ⟨_, _, f⟩
    · exact (h.fr.trans hf (fun _ _ t => t)).trans f (fun i hi t => by have := h.new t.2; omega)
    · exact (h.fr.trans hf (fun _ _ t => t)).trans f (fun _ _ t => t)

/-- Two rows that hold the same bills. -/
theorem same_anyB (w : World) (ao bo : Option Addr) (ac bc : Nat) (l : List (Int × Int)) (ha : CAt w ao (blV l)) (hb : CAt w bo (blV l)) (n : Nat) (hn : n = l.length) (hl : l.length ≤ 100000) :
    Calls Tryz.prog 17 #[.slice ao n ac, .slice bo n bc] w fun e w' => e = .returned (.bool true) ∧ Fr (fun _ => False) w w' := by
  subst hn
  have q1 := egBl
  have q2 := eqBl
  have HA := hide ha
  have HB := hide hb
  have hself : ((l.length : Int) != (l.length : Int)) = false := by simp
  clear ha hb
  go_enter Tryz.func17, Tryz.ntmps17
  go_wp2
  go_loopw [5] (fun iv wr => ∃ i : Nat, i ≤ l.length ∧ iv = .int .i64 i ∧ Hid (Fr (fun _ => False) w wr)) (fun iv _ => l.length - (intOf iv).toNat)
  case atStart => exact ⟨0, Nat.zero_le _, rfl, hide (Fr.refl _ _)⟩
  case round =>
    obtain ⟨i, hi, rfl, HI⟩ := hrel
    by_cases hil : i < l.length
    · obtain ⟨b0, off0, hao, a0, a1⟩ := ((unhide HA).keep (unhide HI)).bl hil
      obtain ⟨b1, off1, hbo, e0, e1⟩ := ((unhide HB).keep (unhide HI)).bl hil
      subst hao hbo
      generalize l[i] = x at *
      obtain ⟨x0, x1⟩ := x
      simp only at a0 a1 e0 e1
      have hlt : (i : Int) < (l.length : Int) := by omega
      clear hself
      go_wp2_with fail
      go_region_held3 (fun u => u.cell? ⟨b0, off0 + i * 2, none⟩ = some (.int .i64 x0) ∧ u.cell? ⟨b0, off0 + i * 2 + 1, none⟩ = some (.int .i64 x1) ∧ u.cell? ⟨b1, off1 + i * 2, none⟩ = some (.int .i64 x0) ∧ u.cell? ⟨b1, off1 + i * 2 + 1, none⟩ = some (.int .i64 x1)) (go_keep) (fail)
      go_wp2
      exact ⟨⟨i + 1, by omega, by go_num, hide (by with_reducible (first | exact unhide HI | exact (unhide HI).drew | exact (unhide HI).drewN _))⟩, by simp [intOf]; omega⟩
    · obtain rfl : i = l.length := by omega
      clear hself
      go_wp2
      go_ret
      exact ⟨rfl, unhide HI⟩

def busK (x : Tp) : Bool := decide (x.kind = 3)
theorem busF_step (m : List Tp) (i : Nat) (h : i < m.length) : (m.take (i + 1)).filter busK = (m.take i).filter busK ++ (if busK m[i] then [m[i]] else []) := by
  rw [List.take_succ_eq_append_getElem h, List.filter_append]
  simp only [List.filter_cons, List.filter_nil]

set_option maxRecDepth 100000 in
set_option maxHeartbeats 8000000 in
theorem buses_walkE (w : World) (A : Ad) (t : Tf) (hT : TAt w A t) (ao1 : Option Addr) (cap1 : Nat) (l : List Ou) (hl : CAt w ao1 (ouV l)) (hln : l.length ≤ 140737488355328) (ao0 : Option Addr) (cap0 : Nat) (m : List Tp) (hm : CAt w ao0 (tpV m)) (hml : (m.length + 1) * 56 ≤ 140737488355328) :
    Calls Tryz.prog 7 #[tv A t, .slice ao1 l.length cap1, .slice ao0 m.length cap0] w fun e w' => e = .returned (.bool true) ∧ Fr (fun _ => False) w w' := by
  have RB1 := hide (fun (u : World) (hu : Fr (fun _ => False) w u) (bo : Option Addr) (bc : Nat) (k : List Tp) (hk : CAt u bo (tpV k)) (hkl : k.length ≤ 4398046511104) (hkc : k.length ≤ bc) => bills_any u A t (hT.keep hu) ao1 cap1 l (hl.keep hu) hln bo bc k hk hkl hkc)
  have RB2 := hide (fun (u : World) (hu : Fr (fun _ => False) w u) (bo : Option Addr) (bc : Nat) (k : List Tp) (hk : CAt u bo (tpV k)) (hkl : k.length ≤ 4398046511104) (hkc : k.length ≤ bc) => bills_any u A t (hT.keep hu) none 0 [] (CAt.nil _ _) (by simp) bo bc k hk hkl hkc)
  unfold OwedP at RB1 RB2
  have H := hide hm
  have HTB := hide (TB.new w A t)
  obtain ⟨v, hv⟩ : ∃ v, v = w.alloc (.cells (tc A t) 27) := ⟨_, rfl⟩
  have hFv : Fr (fun _ => False) w v := by rw [hv]; exact (Fr.refl _ _).alloc _
  have HFV := hide hFv
  have HV := hide hv
  rw [← hv] at HTB
  obtain ⟨B, hB⟩ : ∃ B, B = w.heap.size := ⟨_, rfl⟩
  rw [← hB] at HTB
  have HBB := hide hB
  clear hFv hv hT hm hB hl hln
  unfold tv at RB1 RB2 ⊢
  unfold tc at HV RB1 RB2 ⊢
  simp only [List.length_nil] at RB2
  go_enter Tryz.func7, Tryz.ntmps7
  go_upto_region 1 with (fail)
  rw [← unhide HBB, ← unhide HV]
  clear HV HBB
  go_wp2_with fail
  refine (awake_anyE v).mono ?_
  rintro e w3 ⟨rfl, hF⟩
  have HF3 := hide ((unhide HFV).trans hF (fun _ _ t => t))
  have HTB3 := hide ((unhide HTB).keep hF)
  clear hF HFV HTB
  obtain ⟨iz, hiz⟩ := info_of3 tInfo
  have HIZ := hide hiz
  obtain ⟨mn, hmn⟩ : ∃ mn, m.length = mn := ⟨_, rfl⟩
  have HMN := hide hmn
  rw [hmn] at hml ⊢
  clear hiz hmn
  have HST0 : Hid (TLI w3 w3 none 0 0 [] ∧ ([] : List Tp) = (m.take 0).filter busK ∧ ([] : List Tp).length = 0) := hide ⟨⟨KRow.nil _ _ _, fun h => absurd h (by omega), Fr.refl _ _⟩, rfl, rfl⟩
  go_wp2
  go_loopw [8, 9] (fun ov iv wr => ∃ (i ln : Nat) (ao : Option Addr) (cap g : Nat) (L : List Tp), i ≤ mn ∧ ln ≤ i ∧ ov = .slice ao ln cap ∧ iv = .int .i64 i ∧ Hid (TLI w3 wr ao cap g L ∧ L = (m.take i).filter busK ∧ L.length = ln)) (fun _ iv _ => mn - (intOf iv).toNat)
  case atStart => exact ⟨0, 0, none, 0, 0, [], Nat.zero_le _, Nat.le_refl _, rfl, rfl, HST0⟩
  case round =>
    obtain ⟨i, ln, ao, cap, g, L, hi, hli, rfl, rfl, HI⟩ := hrel
    clear HST0
    by_cases hil : i < mn
    · have hltI : (i : Int) < (mn : Int) := by omega
      have hmi : i < m.length := by have := unhide HMN; omega
      have HY := hide (busF_step m i hmi)
      have hFI := (unhide HI).1.fr
      obtain ⟨b, off, rfl, c0, c1, c2, c3, c4, c5⟩ := (((unhide H).keep (unhide HF3)).keep hFI).tp hmi
      obtain ⟨x, hx⟩ : ∃ x, m[i] = x := ⟨_, rfl⟩
      rw [hx] at HY c0 c1 c2 c3 c4 c5
      have HIX := hide (And.intro hil (And.intro hml hli))
      clear hx hFI hmi
      obtain ⟨x0, x1, x2, x3, x4, x5⟩ := x
      simp only at c0 c1 c2 c3 c4 c5
      by_cases hk : x3 = 3
      · subst hk
        have HY1 : Hid ((m.take (i + 1)).filter busK = (m.take i).filter busK ++ [⟨x0, x1, x2, 3, x4, x5⟩]) := hide (unhide HY)
        clear HY
        have HSR : Hid (Src Tryz.prog 6 29 (.slice (some ⟨wr.heap.size, 0, none⟩) 1 1) 1 [.int .i64 x0, .int .i64 x1, .string x2, .int .i64 3, .int .i64 x4, .int .i64 x5] (wr.alloc (.cells #[.int .i64 x0, .int .i64 x1, .string x2, .int .i64 3, .int .i64 x4, .int .i64 x5] 47))) := hide (src_one wr [.int .i64 x0, .int .i64 x1, .string x2, .int .i64 3, .int .i64 x4, .int .i64 x5] 29 47 6 Tryz.underlying29 rfl (fun v hv => by simp only [List.mem_cons, List.not_mem_nil, or_false] at hv; rcases hv with rfl | rfl | rfl | rfl | rfl | rfl <;> rfl) (fun j => by rw [World.cell?_alloc_new]; exact List.getElem?_toArray.symm ▸ rfl))
        have HRW : Hid (KRow (wr.alloc (.cells #[.int .i64 x0, .int .i64 x1, .string x2, .int .i64 3, .int .i64 x4, .int .i64 x5] 47)) ao cap g 6 (tpV L)) := hide ((unhide HI).1.row.keep (by omega) ((Fr.refl _ _).alloc _))
        have HVL : Hid ((tpV L).length = ln * 6) := hide (by rw [tpV_length, (unhide HI).2.2])
        go_wp2_with (at_builtin; refine wpList_append_krow _ rfl (.tmp 29) (.tmp 34) 29 29 rfl 47 iz _ 6 (by omega) Tryz.underlying29 (unhide HIZ).1 (unhide HIZ).2.1 rfl (unhide HIZ).2.2.1 rfl (unhide HRW) (unhide HVL) _ [.int .i64 x0, .int .i64 x1, .string x2, .int .i64 3, .int .i64 x4, .int .i64 x5] 1 rfl (unhide HSR) (by rw [(unhide HIZ).2.2.2]; have := unhide HIX; omega) (by have := unhide HIX; omega) ?_)
        intro ao2 cap2 w4 g2 hrow hgr
        have HTL : Hid (TLI w3 w4 ao2 cap2 g2 (L ++ [⟨x0, x1, x2, 3, x4, x5⟩]) ∧ L ++ [⟨x0, x1, x2, 3, x4, x5⟩] = (m.take (i + 1)).filter busK ∧ (L ++ [(⟨x0, x1, x2, 3, x4, x5⟩ : Tp)]).length = ln + 1) := hide (by
          obtain ⟨h1, h2, h3⟩ := unhide HI
          exact ⟨h1.app ((Fr.refl _ _).alloc _) ⟨x0, x1, x2, 3, x4, x5⟩ hrow hgr, by rw [unhide HY1, ← h2], by rw [List.length_append, h3]; rfl⟩)
        clear hrow hgr HRW HSR HVL HY1 c0 c1 c2 c3 c4 c5 HI
        go_wp2
        exact ⟨⟨i + 1, ln + 1, ao2, cap2, g2, _, by have := unhide HIX; omega, by have := unhide HIX; omega, rfl, by go_num, HTL⟩, by have := unhide HIX; simp [intOf]; omega⟩
      · have k3 : (x3 == 3) = false := by simp [hk]
        have HTL : Hid (TLI w3 wr ao cap g L ∧ L = (m.take (i + 1)).filter busK ∧ L.length = ln) := hide (by
          obtain ⟨h1, h2, h3⟩ := unhide HI
          have e : busK ⟨x0, x1, x2, x3, x4, x5⟩ = false := by simp [busK, hk]
          refine ⟨h1, ?_, h3⟩
          rw [unhide HY, e, ← h2]
          simp)
        clear HY hk HI
        go_wp2
        exact ⟨⟨i + 1, ln, ao, cap, g, L, by have := unhide HIX; omega, by have := unhide HIX; omega, rfl, by go_num, HTL⟩, by have := unhide HIX; simp [intOf]; omega⟩
    · obtain rfl : i = mn := by omega
      have hltn : ¬ (i : Int) < (i : Int) := by omega
      obtain ⟨⟨hrow, hnew, hfr⟩, hLL, hLn⟩ := unhide HI
      have hbus : ∀ x ∈ L, x.kind = 3 := fun x hx => by
        rw [hLL] at hx
        have := (List.mem_filter.1 hx).2
        simpa [busK] using this
      have hrle := hrow.le
      rw [tpV_length, hLn] at hrle
      have hwf := (unhide HF3).trans hfr (fun _ _ t => t)
      have HRW := hide hrow.cat
      have HLNN : Hid (L.length = ln ∧ ln ≤ 4398046511104 ∧ ln ≤ cap) := hide ⟨hLn, by omega, by omega⟩
      have RX := hide (fun (u : World) (hu : Fr (fun _ => False) wr u) => (by
        have := unhide RB1 u (hwf.trans hu (fun _ _ t => t)) ao cap L ((unhide HRW).keep hu) (by rw [(unhide HLNN).1]; exact (unhide HLNN).2.1) (by rw [(unhide HLNN).1]; exact (unhide HLNN).2.2)
        rw [(unhide HLNN).1] at this
        exact this))
      have RY := hide (fun (u : World) (hu : Fr (fun _ => False) wr u) => (by
        have := unhide RB2 u (hwf.trans hu (fun _ _ t => t)) ao cap L ((unhide HRW).keep hu) (by rw [(unhide HLNN).1]; exact (unhide HLNN).2.1) (by rw [(unhide HLNN).1]; exact (unhide HLNN).2.2)
        rw [(unhide HLNN).1] at this
        exact this))
      have HMA : Hid (owedE t l L = 0 → owedE t [] L = 0 ∧ owedL t [] L = owedL t l L ∧ ∀ b ∈ owedL t l L, 0 ≤ b.2 ∧ b.2 ≤ t.busWeekly) := hide (fun e => buses_math e hbus)
      have HL2 := hide (owedL_in t l L).1
      have HTB4 := hide ((unhide HTB3).keep hfr)
      have HF4 := hide hwf
      clear hrow hnew hfr hLL hLn hbus hrle hwf HI HTB3 HF3 H HMN HRW RB1 RB2 hml
      obtain ⟨P, hP⟩ : ∃ P, owedL t l L = P := ⟨_, rfl⟩
      obtain ⟨P2, hP2⟩ : ∃ P2, owedL t [] L = P2 := ⟨_, rfl⟩
      rw [hP] at RX HMA HL2
      rw [hP2] at RY HMA
      generalize owedE t l L = E at *
      generalize owedE t [] L = F at *
      clear hP hP2
      go_wp2_with (refine wpList_load_tariff rfl (.tmp 3) rfl (g := B) (A := A) (t := t) rfl (unhide HTB4) ?_)
      refine (unhide RX wr (Fr.refl _ _)).mono ?_
      rintro e w5 ⟨aa, ca, ga, rfl, hka, hga, hF⟩
      have HF5 := hide hF
      have HKA := hide hka.cat
      have HTB5 := hide ((unhide HTB4).keep hF)
      clear hF hka hga RX HTB4
      go_wp2_with (refine wpList_load_tariff rfl (.tmp 3) rfl (g := B) (A := A) (t := t) rfl (unhide HTB5) ?_)
      refine (unhide RY w5 (unhide HF5)).mono ?_
      rintro e w6 ⟨ab, cb, gb, rfl, hkb, hgb, hF⟩
      have HF6 := hide ((unhide HF4).trans ((unhide HF5).trans hF (fun _ _ t => t)) (fun _ _ t => t))
      have HKB := hide hkb.cat
      replace HKA := hide ((unhide HKA).keep hF)
      have HTB6 := hide ((unhide HTB5).keep hF)
      clear hF hkb hgb RY HTB5 HF5 HF4
      by_cases he : E = 0
      case neg =>
        obtain ⟨n1, hn1⟩ : ∃ n1, P.length = n1 := ⟨_, rfl⟩
        obtain ⟨n2, hn2⟩ : ∃ n2, P2.length = n2 := ⟨_, rfl⟩
        rw [hn1, hn2]
        have q2 : (E == 0) = false := by simp [he]
        have q3 : (E != 0) = true := by simp [he]
        clear he HMA HL2 HKA HKB hn1 hn2 HTB6
        go_wp2
        go_ret
        exact ⟨rfl, unhide HF6⟩
      case pos =>
        subst he
        obtain ⟨hf, h2, h3⟩ := unhide HMA rfl
        subst hf h2
        have HAM := hide h3
        have RS := hide (same_anyB w6 aa ab ca cb P2 (unhide HKA) (unhide HKB) P2.length rfl (by have := unhide HL2; omega))
        obtain ⟨n2, hn2⟩ : ∃ n2, P2.length = n2 := ⟨_, rfl⟩
        have HN2 := hide hn2
        rw [hn2] at RS ⊢
        have hn2000 : n2 ≤ 2000 := by have := unhide HL2; omega
        clear h3 HMA hn2 HL2
        go_wp2_with fail
        refine (unhide RS).mono ?_
        rintro e w7 ⟨rfl, hF⟩
        have HF7 := hide ((unhide HF6).trans hF (fun _ _ t => t))
        have HTB7 := hide ((unhide HTB6).keep hF)
        replace HKA := hide ((unhide HKA).keep hF)
        clear hF HF6 HTB6 HKB RS
        go_wp2
        go_loopw [15] (fun iv wr => ∃ i : Nat, i ≤ n2 ∧ iv = .int .i64 i ∧ Hid (Fr (fun _ => False) w7 wr)) (fun iv _ => n2 - (intOf iv).toNat)
        case atStart => exact ⟨0, Nat.zero_le _, rfl, hide (Fr.refl _ _)⟩
        case round =>
          obtain ⟨k, hk, rfl, HI⟩ := hrel
          by_cases hkl : k < n2
          · have hltk : (k : Int) < (n2 : Int) := by omega
            have hkp : k < P2.length := by rw [unhide HN2]; exact hkl
            obtain ⟨b0, off0, hao, c0, c1⟩ := ((unhide HKA).keep (unhide HI)).bl hkp
            subst hao
            have hb := unhide HAM _ (List.getElem_mem hkp)
            generalize P2[k] = x at *
            obtain ⟨x0, x1⟩ := x
            simp only at c0 c1 hb
            have d6 : wr.cell? ⟨B, 6, none⟩ = some (.int .i64 t.busWeekly) := ((unhide HTB7).keep (unhide HI)).cell 6
            generalize t.busWeekly = bw at *
            have t1 : ¬ bw < x1 := by omega
            have t2 : ¬ x1 < 0 := by omega
            have HIX := hide hkl
            clear hb hkp
            go_upto_region 16 with (fail)
            go_quiet (fail)
            go_wp2
            exact ⟨⟨k + 1, by have := unhide HIX; omega, by go_num, hide ((unhide HI).trans ((Fr.refl _ _).drewN _) (fun _ _ t => t))⟩, by have := unhide HIX; simp [intOf]; omega⟩
          · obtain rfl : k = n2 := by omega
            have hltn2 : ¬ (k : Int) < (k : Int) := by omega
            have HFF := hide ((unhide HF7).trans (unhide HI) (fun _ _ t => t))
            clear HF7 HI HKA HTB7 HAM HN2
            go_wp2
            go_ret
            exact ⟨rfl, unhide HFF⟩

end Go.Proofs.YtjgbllfppomcmaaGreat

namespace Go.Proofs.YtjgbllfppomcmaaGreat
open Go.ChangeShapes Go.WideShapes Go.ChangeAt Go.RowKit Go.Deep

namespace chargeBuses

set_option maxRecDepth 100000 in
theorem lifted (os : Os) (started : os.Started) (H : Type) (enc : TypeId × Value → H) :
    ReturnsInHanded {} Tryz.checked os 7 .any (Rows.chargeBusesSpec.pre6 enc Tryz.prog Tryz.f7 Rows.chargeBusesRow.domain false) (Rows.chargeBusesSpec.post enc Tryz.prog Tryz.f7 false true false false) := by
  refine returnsInHanded_of_change_sized (C := Tryz.checked) own started (by kernel_rfl) Tryz.func7
    (ChangeSpec.witness6 (enc := enc) (C := Tryz.checked) false ⟨#[], #[.agg #[.slice none 0 0, .slice none 0 0, .slice none 0 0, .float .f64 0, .int .i64 0, .int .i64 0, .int .i64 0, .int .i64 0, .int .i64 0, .int .i64 0, .int .i64 0, .int .i64 0, .int .i64 0, .int .i64 0], .slice none 0 0, .slice none 0 0], []⟩ 8 (by kernel_rfl) (by kernel_rfl) (by kernel_rfl) (by kernel_rfl)) ?_
  intro W base args ds gs before hval0 hW hcnd hsz0 _
  have hsz : (DataW.weightsEach Tryz.prog (Tryz.f7.params.toList ++ Rows.chargeBusesSpec.plain.varTypes Tryz.prog) (ds ++ gs)).all (· ≤ reachBytes) = true := hsz0
  have hval : ∀ (j : Nat) t v, Tryz.f7.params[j]? = some t → args[j]? = some v → Value.okWide Tryz.prog W .any base t v := hval0
  have hW' := hW
  obtain ⟨p, q, hA0, hV, rfl, hfz, hnd⟩ := hW
  have hA : DataW.TrodAll enc Tryz.prog W 0 (fun _ => true) true Tryz.f7.params.toList args.toList ds p := hA0
  rw [Tryz.params7] at hA hval hsz
  obtain ⟨v0, vs0, d0, ds0, p0, q0, hargs, rfl, rfl, h0, r0⟩ := trodAll_cons hA
  obtain ⟨v1, vs1, d1, ds1, p1, q1, rfl, rfl, rfl, h1, r1⟩ := trodAll_cons r0
  obtain ⟨v2, vs2, d2, ds2, p2, q2, rfl, rfl, rfl, h2, r2⟩ := trodAll_cons r1
  obtain ⟨rfl, rfl, rfl⟩ := trodAll_nil r2
  obtain rfl : args = #[v0, v1, v2] := by cases args; simp_all
  obtain ⟨rfl, rfl⟩ := trodVars_none hV
  have k0 := h0
  have lt0 : ∀ x ∈ p0, x.block < W.heap.size := by obtain ⟨m, hm⟩ := k0; exact DataW.trod_lt m _ _ _ hm
  obtain ⟨A0, t0, rfl, hT0⟩ := open_arg (j := 0) (okWide_struct Tryz.underlying27 (hval 0 27 v0 rfl rfl)) h0 hsz rfl rfl
  have k1 := h1
  have lt1 : ∀ x ∈ p1, x.block < W.heap.size := by obtain ⟨m, hm⟩ := k1; exact DataW.trod_lt m _ _ _ hm
  obtain ⟨a1, c1, l1, rfl, hb1, hc1, hn1⟩ := arg_ous (j := 1) (okWide_slice Tryz.underlying28 (hval 1 28 v1 rfl rfl)) h1 hsz rfl rfl
  have k2 := h2
  have lt2 : ∀ x ∈ p2, x.block < W.heap.size := by obtain ⟨m, hm⟩ := k2; exact DataW.trod_lt m _ _ _ hm
  obtain ⟨a2, c2, l2, rfl, hb2, hc2, hn2⟩ := arg_taps (j := 2) (okWide_slice Tryz.underlying29 (hval 2 29 v2 rfl rfl)) h2 hsz rfl rfl
  clear hA0 hval0
  refine (buses_walkE W A0 t0 hT0 a1 c1 l1 hb1 (by omega) a2 c2 l2 hb2 hn2).mono fun e W' ⟨he, hfr⟩ => ?_
  subst he
  have bel : Below W.heap.size W W' := hfr.below (Nat.le_refl _) (fun k t => t.elim)
  exact ⟨_, rfl, _, _, _, [], _, [], hW', trodAll_mk1 (shut_bool Tryz.underlying4 _), (trodAll_cons_mk (Below.trod laidOut (by kernel_rfl) (of_decide_eq_true (by kernel_rfl)) k0 bel lt0) (trodAll_cons_mk (Below.trod laidOut (by kernel_rfl) (of_decide_eq_true (by kernel_rfl)) k1 bel lt1) (trodAll_cons_mk (Below.trod laidOut (by kernel_rfl) (of_decide_eq_true (by kernel_rfl)) k2 bel lt2) trodAll_mk0))), rfl, bel.frame _, fun h => by cases h⟩

theorem over : Rows.chargeBusesRow.holds Tryz.pinned (OpenSpec.ofChange Rows.chargeBusesSpec) :=
  OpenClaim.holds_of_wide 7 Tryz.f7 rfl rfl rfl rfl rfl rfl rfl ⟨rfl, rfl, rfl, rfl, rfl⟩ rfl rfl rfl rfl rfl (by kernel_rfl) Tryz.func7 (by kernel_rfl)
    (of_decide_eq_true (by kernel_rfl)) (by unfold Func.isWrapper; first | (rw [if_pos (by decide +kernel)]; kernel_rfl) | (rw [if_neg (by decide +kernel)]; exact ⟨rfl, rfl⟩))
    (fun os started H enc _ => lifted os started H enc)

end chargeBuses

/-- THE STATEMENT. -/
theorem chargeBuses_holds : Rows.ChargeBusesSaid := chargeBuses.over
#print axioms chargeBuses_holds
end Go.Proofs.YtjgbllfppomcmaaGreat

