/- Proved: the law ChargeRefunds answers true for every tariff, slice of outages and slice of taps, and its arguments read afterwards as they read before. No condition but the form's own reach. -/
import Derived.Test.YtjgbllfppomcmaaGreatCBZ
import Derived.Test.YtjgbllfppomcmaaGreatCB8
import Derived.Test.YtjgbllfppomcmaaGreatOQX
import Derived.Test.YtjgbllfppomcmaaGreatFRX
import Derived.Test.YtjgbllfppomcmaaGreatOBX
/- Nobody owes more for an outage: mathematics. -/
namespace Go.Proofs.YtjgbllfppomcmaaGreat
open Go.RowKit

theorem heldB_nil (dl : Int) (j : Jn) : heldB dl [] j = false := rfl
theorem backL_nil (dl : Int) (p : List (Jn × Int)) : backL dl [] p = p := by
  have h : ∀ x : Jn × Int, back1 dl [] x = x := fun x => by unfold back1; rw [heldB_nil, if_neg (by decide)]
  induction p with
  | nil => rfl
  | cons x r ih =>
    show back1 dl [] x :: backL dl [] r = x :: r
    rw [ih, h]

theorem fall_back (dl : Int) (l : List Ou) : ∀ (p : List (Jn × Int)), (∀ x ∈ p, price x.2 = true) → All2 FallP p (backL dl l p)
  | [], _ => trivial
  | x :: r, h => by
    refine ⟨?_, fall_back dl l r (fun y hy => h y (List.mem_cons_of_mem _ hy))⟩
    obtain ⟨e1, e2⟩ := back1_cases dl l x
    have hp := (price_iff _).1 (h x (List.mem_cons_self ..))
    refine ⟨e1, ?_⟩
    rcases e2 with e2 | ⟨k, e2⟩
    · exact .inl e2
    · by_cases h0 : x.2 = 0
      · exact .inl (by rw [e2, h0])
      · exact .inr ⟨k, by omega, by omega⟩

theorem fall_its {t : Tf} (hr : rightE t = 0) {l : List Ou} {its : List Tp} (h : RgtOk its) (hl : its.length ≤ 2000) (hd : OneDay its) : DayR t (dayD t l its) (dayD t [] its) := by
  have e0 : dayP t [] its = priced t (dayJ t its) := by unfold dayP; rw [backL_nil]
  have hf : All2 FallP (dayP t [] its) (dayP t l its) := by
    rw [e0]
    refine fall_back t.delay l _ (fun x hx => ?_)
    unfold priced at hx
    obtain ⟨j, hj, rfl⟩ := List.mem_map.1 hx
    exact (dayJ_cost hr h j hj).2
  exact (fall_day hf (dE_day hr h hl hd)).2

def DayS (t : Tf) (a b : Dy) : Prop := DayR t a b ∧ a.day = b.day

theorem fall_rows {t : Tf} (hr : rightE t = 0) {l : List Ou} : ∀ (ds : List (List Tp)), (∀ its ∈ ds, RgtOk its ∧ its.length ≤ 2000 ∧ 0 < its.length ∧ OneDay its) → All2 (DayS t) (ds.map (dayD t l)) (ds.map (dayD t []))
  | [], _ => trivial
  | its :: r, h => by
    obtain ⟨h1, h2, h3, h4⟩ := h its (List.mem_cons_self ..)
    refine ⟨⟨fall_its hr h1 h2 h4, ?_⟩, fall_rows hr r (fun x hx => h x (List.mem_cons_of_mem _ hx))⟩
    rw [(dayD_good hr (l := l) h1 h2 h3 h4).2.1, (dayD_good hr (l := []) h1 h2 h3 h4).2.1]

theorem All2.take2 {α β : Type} {R : α → β → Prop} : ∀ {l : List α} {m : List β} (n : Nat), All2 R l m → All2 R (l.take n) (m.take n)
  | [], [], n, _ => by simp [All2]
  | _ :: _, _ :: _, 0, _ => trivial
  | _ :: _, _ :: _, n + 1, h => ⟨h.1, h.2.take2 n⟩
theorem All2.drop2 {α β : Type} {R : α → β → Prop} : ∀ {l : List α} {m : List β} (n : Nat), All2 R l m → All2 R (l.drop n) (m.drop n)
  | [], [], n, _ => by simp [All2]
  | _ :: _, _ :: _, 0, h => h
  | _ :: _, _ :: _, n + 1, h => h.2.drop2 n
theorem All2.weak {α β : Type} {R S : α → β → Prop} (hs : ∀ a b, R a b → S a b) : ∀ {l : List α} {m : List β}, All2 R l m → All2 S l m
  | [], [], _ => trivial
  | _ :: _, _ :: _, h => ⟨hs _ _ h.1, h.2.weak hs⟩

theorem wk_while {t : Tf} (w : Int) : ∀ (L M : List Dy), All2 (DayS t) L M → (L.takeWhile (fun x => !otherB w x)).length = (M.takeWhile (fun x => !otherB w x)).length
  | [], [], _ => rfl
  | a :: L, b :: M, h => by
    have e : otherB w a = otherB w b := by unfold otherB; rw [h.1.2]
    rw [List.takeWhile_cons, List.takeWhile_cons, e]
    cases otherB w b with
    | true => rfl
    | false => simp [wk_while w L M h.2]
theorem wkLn_same {t : Tf} : ∀ (L M : List Dy), All2 (DayS t) L M → wkLn L = wkLn M
  | [], [], _ => rfl
  | a :: L, b :: M, h => by
    show ((a :: L).takeWhile (fun x => !otherB (weekV a.day) x)).length = ((b :: M).takeWhile (fun x => !otherB (weekV b.day) x)).length
    rw [h.1.2]
    exact wk_while _ (a :: L) (b :: M) h

def BillLe (a b : Int × Int) : Prop := a.1 = b.1 ∧ a.2 ≤ b.2
theorem bills_fall {t : Tf} (hr : rightE t = 0) : ∀ (n : Nat) (L M : List Dy), All2 (DayS t) L M → All2 BillLe (billsN t n L) (billsN t n M)
  | 0, _, _, _ => trivial
  | _ + 1, [], [], _ => trivial
  | n + 1, a :: L, b :: M, h => by
    have e := wkLn_same (a :: L) (b :: M) h
    show All2 BillLe ((weekV a.day, wkV t ((a :: L).take (wkLn (a :: L)))) :: billsN t n ((a :: L).drop (wkLn (a :: L)))) ((weekV b.day, wkV t ((b :: M).take (wkLn (b :: M)))) :: billsN t n ((b :: M).drop (wkLn (b :: M))))
    rw [e]
    refine ⟨⟨by rw [h.1.2], ?_⟩, bills_fall hr n _ _ (All2.drop2 (wkLn (b :: M)) h)⟩
    exact week_le hr ((All2.take2 (wkLn (b :: M)) h).weak (fun _ _ q => q.1))

/-- Without outages nothing else is wrong, and each bill is no less. -/
theorem refunds_math {t : Tf} {l : List Ou} {m : List Tp} (h : owedE t l m = 0) : owedE t [] m = 0 ∧ All2 BillLe (owedL t l m) (owedL t [] m) := by
  obtain ⟨hr, _, hrt⟩ := owedE_zero h
  obtain ⟨hl, hok⟩ := (rightT_zero m).1 hrt
  have h0 : owedE t [] m = 0 := by
    unfold owedE
    rw [if_pos hr, if_pos (by rfl)]
    exact hrt
  refine ⟨h0, ?_⟩
  have hits := (daysL_ok hok).1
  have hrow : All2 (DayS t) (daysD t l m) (daysD t [] m) := fall_rows hr (daysL m) (fun its hi => ⟨hok.sub (hits its hi).sub, Nat.le_trans (hits its hi).sub.length_le hl, (hits its hi).pos, (hits its hi).one⟩)
  unfold owedL
  rw [if_pos h, if_pos h0]
  unfold billsD
  rw [hrow.length]
  exact bills_fall hr _ _ _ hrow

theorem sumB_cons (b : Int × Int) (r : List (Int × Int)) : sumB (b :: r) = b.2 + sumB r := by
  have h : ∀ (r : List (Int × Int)) (s : Int), r.foldl (fun s b => s + b.2) s = s + sumB r := by
    intro r
    induction r with
    | nil => intro s; simp [sumB]
    | cons x r ih =>
      intro s
      unfold sumB
      rw [List.foldl_cons, List.foldl_cons, ih, ih (0 + x.2)]
      omega
  unfold sumB
  rw [List.foldl_cons, h]
  simp [sumB]
theorem sumB_le : ∀ {L M : List (Int × Int)}, All2 BillLe L M → sumB L ≤ sumB M
  | [], [], _ => Int.le_refl _
  | a :: L, b :: M, h => by
    rw [sumB_cons, sumB_cons]
    have := h.1.2
    have := sumB_le h.2
    omega

end Go.Proofs.YtjgbllfppomcmaaGreat

/- The walk of ChargeRefunds. -/
namespace Go.Proofs.YtjgbllfppomcmaaGreat
open Go.RowKit

set_option maxRecDepth 100000 in
set_option maxHeartbeats 8000000 in
theorem refunds_walkE (w : World) (A : Ad) (t : Tf) (hT : TAt w A t) (ao1 : Option Addr) (cap1 : Nat) (l : List Ou) (hl : CAt w ao1 (ouV l)) (hln : l.length ≤ 140737488355328) (ao0 : Option Addr) (cap0 : Nat) (m : List Tp) (hm : CAt w ao0 (tpV m)) (hml : m.length ≤ 4398046511104) (hcap : m.length ≤ cap0) :
    Calls Tryz.prog 4 #[tv A t, .slice ao1 l.length cap1, .slice ao0 m.length cap0] w fun e w' => e = .returned (.bool true) ∧ Fr (fun _ => False) w w' := by
  have RB1 := hide (fun (u : World) (hu : Fr (fun _ => False) w u) => bills_any u A t (hT.keep hu) ao1 cap1 l (hl.keep hu) hln ao0 cap0 m (hm.keep hu) hml hcap)
  have RB2 := hide (fun (u : World) (hu : Fr (fun _ => False) w u) => bills_any u A t (hT.keep hu) none 0 [] (CAt.nil _ _) (by simp) ao0 cap0 m (hm.keep hu) hml hcap)
  have RC1 := hide (fun (u : World) (hu : Fr (fun _ => False) w u) => charge_any u A t (hT.keep hu) ao1 cap1 l (hl.keep hu) hln ao0 cap0 m (hm.keep hu) hml hcap)
  have RC2 := hide (fun (u : World) (hu : Fr (fun _ => False) w u) => charge_any u A t (hT.keep hu) none 0 [] (CAt.nil _ _) (by simp) ao0 cap0 m (hm.keep hu) hml hcap)
  unfold OwedP at RB1 RB2
  have HV1 : Hid (owedV t l m = sumB (owedL t l m)) := hide rfl
  have HV2 : Hid (owedV t [] m = sumB (owedL t [] m)) := hide rfl
  have HNO : Hid (¬ owedE t l m = 0 → owedL t l m = []) := hide (fun e => by unfold owedL; rw [if_neg e])
  have HMA : Hid (owedE t l m = 0 → owedE t [] m = 0 ∧ All2 BillLe (owedL t l m) (owedL t [] m)) := hide (fun e => refunds_math e)
  have HIN := hide (owedL_in t l m)
  obtain ⟨L, hL⟩ : ∃ L, owedL t l m = L := ⟨_, rfl⟩
  obtain ⟨M, hM⟩ : ∃ M, owedL t [] m = M := ⟨_, rfl⟩
  rw [hL] at RB1 HV1 HNO HMA HIN
  rw [hM] at RB2 HV2 HMA
  generalize owedV t l m = V at *
  generalize owedV t [] m = W at *
  generalize owedE t l m = E at *
  generalize owedE t [] m = F at *
  have HTB := hide (TB.new w A t)
  obtain ⟨v, hv⟩ : ∃ v, v = w.alloc (.cells (tc A t) 27) := ⟨_, rfl⟩
  have hFv : Fr (fun _ => False) w v := by rw [hv]; exact (Fr.refl _ _).alloc _
  have HFV := hide hFv
  have HV := hide hv
  rw [← hv] at HTB
  obtain ⟨B, hB⟩ : ∃ B, B = w.heap.size := ⟨_, rfl⟩
  rw [← hB] at HTB
  have HBB := hide hB
  clear hFv hv hT hm hB hl hln hL hM hml hcap
  unfold tv at RB1 RB2 RC1 RC2 ⊢
  unfold tc at HV RB1 RB2 RC1 RC2 ⊢
  simp only [List.length_nil] at RB2 RC2
  go_enter Tryz.func4, Tryz.ntmps4
  go_upto_region 1 with (fail)
  rw [← unhide HBB, ← unhide HV]
  clear HV HBB
  go_wp2_with fail
  refine (awake_anyE v).mono ?_
  rintro e w1 ⟨rfl, hF⟩
  have HF1 := hide ((unhide HFV).trans hF (fun _ _ t => t))
  replace HTB := hide ((unhide HTB).keep hF)
  clear hF HFV
  go_wp2_with (refine wpList_load_tariff rfl (.tmp 3) rfl (g := B) (A := A) (t := t) rfl (unhide HTB) ?_)
  refine (unhide RB1 w1 (unhide HF1)).mono ?_
  rintro e w2 ⟨aa, ca, ga, rfl, hka, hga, hF⟩
  have HF2 := hide ((unhide HF1).trans hF (fun _ _ t => t))
  replace HTB := hide ((unhide HTB).keep hF)
  have HKA := hide hka.cat
  clear hF hka hga HF1 RB1
  go_wp2_with (refine wpList_load_tariff rfl (.tmp 3) rfl (g := B) (A := A) (t := t) rfl (unhide HTB) ?_)
  refine (unhide RB2 w2 (unhide HF2)).mono ?_
  rintro e w3 ⟨ab, cb, gb, rfl, hkb, hgb, hF⟩
  have HF3 := hide ((unhide HF2).trans hF (fun _ _ t => t))
  replace HTB := hide ((unhide HTB).keep hF)
  replace HKA := hide ((unhide HKA).keep hF)
  have HKB := hide hkb.cat
  clear hF hkb hgb HF2 RB2
  go_wp2_with (refine wpList_load_tariff rfl (.tmp 3) rfl (g := B) (A := A) (t := t) rfl (unhide HTB) ?_)
  refine (unhide RC1 w3 (unhide HF3)).mono ?_
  rintro e w4 ⟨rfl, hF⟩
  have HF4 := hide ((unhide HF3).trans hF (fun _ _ t => t))
  replace HTB := hide ((unhide HTB).keep hF)
  replace HKA := hide ((unhide HKA).keep hF)
  replace HKB := hide ((unhide HKB).keep hF)
  clear hF HF3 RC1
  go_wp2_with (refine wpList_load_tariff rfl (.tmp 3) rfl (g := B) (A := A) (t := t) rfl (unhide HTB) ?_)
  refine (unhide RC2 w4 (unhide HF4)).mono ?_
  rintro e w5 ⟨rfl, hF⟩
  have HF5 := hide ((unhide HF4).trans hF (fun _ _ t => t))
  replace HKA := hide ((unhide HKA).keep hF)
  replace HKB := hide ((unhide HKB).keep hF)
  clear hF HF4 RC2 HTB
  by_cases he : E = 0
  case neg =>
    have hnil := unhide HNO he
    subst hnil
    have hv0 : V = 0 := unhide HV1
    subst hv0
    obtain ⟨nm, hnm⟩ : ∃ nm, M.length = nm := ⟨_, rfl⟩
    rw [hnm]
    have q2 : (E == 0) = false := by simp [he]
    have q3 : (E != 0) = true := by simp [he]
    simp only [List.length_nil]
    clear he HNO HMA HV1 HV2 HIN HKA HKB hnm
    go_wp2
    go_ret
    exact ⟨rfl, unhide HF5⟩
  case pos =>
    subst he
    obtain ⟨hf, hall⟩ := unhide HMA rfl
    subst hf
    have hvw : ¬ W < V := by rw [unhide HV1, unhide HV2]; have := sumB_le hall; omega
    have hln := hall.length
    have HALL := hide hall
    have hn2 := (unhide HIN).1
    obtain ⟨nl, hnl⟩ : ∃ nl, L.length = nl := ⟨_, rfl⟩
    have HNL := hide hnl
    rw [← hln, hnl]
    rw [hnl] at hn2
    clear hall hln hnl HMA HNO HV2
    have HS0 : Hid ((0 : Int) = sumB (L.take 0)) := hide rfl
    go_wp2
    go_loopw [16, 17] (fun sv iv wr => ∃ (i : Nat) (s : Int), i ≤ nl ∧ sv = .int .i64 s ∧ iv = .int .i64 i ∧ Hid (s = sumB (L.take i)) ∧ Hid (Fr (fun _ => False) w5 wr)) (fun _ iv _ => nl - (intOf iv).toNat)
    case atStart => exact ⟨0, 0, Nat.zero_le _, rfl, rfl, HS0, hide (Fr.refl _ _)⟩
    case round =>
      obtain ⟨i, s, hi, rfl, rfl, HSS, HI⟩ := hrel
      clear HS0
      by_cases hil : i < nl
      · have hlt : (i : Int) < (nl : Int) := by omega
        have hla : i < L.length := by rw [unhide HNL]; exact hil
        have hlb : i < M.length := by rw [← (unhide HALL).length]; exact hla
        obtain ⟨b0, off0, hao, c0, c1⟩ := ((unhide HKA).keep (unhide HI)).bl hla
        obtain ⟨b1, off1, hbo, e0, e1⟩ := ((unhide HKB).keep (unhide HI)).bl hlb
        subst hao hbo
        have hst := sumB_step L i hla
        have h1 := sumB_in (unhide HIN).2 i (by omega)
        have h2 := (unhide HIN).2 _ (List.getElem_mem hla)
        have h3 := (unhide HALL).at i hla hlb
        rw [← unhide HSS] at hst h1
        generalize L[i] = x at *
        generalize M[i] = y at *
        obtain ⟨x0, x1⟩ := x
        obtain ⟨y0, y1⟩ := y
        obtain ⟨h4, h5⟩ := h3
        simp only at c0 c1 e0 e1 hst h2 h4 h5
        subst h4
        have HST := hide hst
        have hwr : wrap64 (s + x1) = s + x1 := by unfold wrap64; omega
        have t1 : ¬ y1 < x1 := by omega
        have t2 : ¬ x1 < 0 := by omega
        have d0 : ∀ u, Fr (fun _ => False) wr u → u.cell? ⟨b0, off0 + i * 2 + 1, none⟩ = some (.int .i64 x1) := fun u hf => (hf.cell (World.block_lt_of_cell? _ _ c1) (fun t => t)).trans c1
        have HD := hide d0
        have HIX := hide hil
        clear h1 h2 h5 hst HSS hla hlb d0
        go_upto_region 14 with (fail)
        go_quiet (fail)
        go_upto_region 16 with (fail)
        obtain ⟨u2, hu2⟩ : ∃ u2, u2 = wr.drewN nq := ⟨_, rfl⟩
        rw [← hu2]
        have hF : Fr (fun _ => False) wr u2 := by rw [hu2]; exact (Fr.refl _ _).drewN _
        have g1 := unhide HD u2 hF
        have HI2 := hide ((unhide HI).trans hF (fun _ _ t => t))
        clear hF hu2 HD HI c0 c1 e0 e1 t1 t2
        go_wp2
        exact ⟨⟨i + 1, s + x1, by have := unhide HIX; omega, by first | rfl | rw [hwr], by go_num, hide (unhide HST).symm, HI2⟩, by have := unhide HIX; simp [intOf]; omega⟩
      · obtain rfl : i = nl := by omega
        have hltn : ¬ (i : Int) < (i : Int) := by omega
        have hsv : s = V := by rw [unhide HV1, unhide HSS, ← unhide HNL, List.take_length]
        subst hsv
        have HFF := hide ((unhide HF5).trans (unhide HI) (fun _ _ t => t))
        clear HSS HV1 HIN HKA HKB HI HNL HALL hvw HF5
        go_wp2
        go_ret
        exact ⟨rfl, unhide HFF⟩

end Go.Proofs.YtjgbllfppomcmaaGreat

namespace Go.Proofs.YtjgbllfppomcmaaGreat
open Go.ChangeShapes Go.WideShapes Go.ChangeAt Go.RowKit Go.Deep

namespace chargeRefunds

set_option maxRecDepth 100000 in
theorem lifted (os : Os) (started : os.Started) (H : Type) (enc : TypeId × Value → H) :
    ReturnsInHanded {} Tryz.checked os 4 .any (Rows.chargeRefundsSpec.pre6 enc Tryz.prog Tryz.f4 Rows.chargeRefundsRow.domain false) (Rows.chargeRefundsSpec.post enc Tryz.prog Tryz.f4 false true false false) := by
  refine returnsInHanded_of_change_sized (C := Tryz.checked) own started (by kernel_rfl) Tryz.func4
    (ChangeSpec.witness6 (enc := enc) (C := Tryz.checked) false ⟨#[], #[.agg #[.slice none 0 0, .slice none 0 0, .slice none 0 0, .float .f64 0, .int .i64 0, .int .i64 0, .int .i64 0, .int .i64 0, .int .i64 0, .int .i64 0, .int .i64 0, .int .i64 0, .int .i64 0, .int .i64 0], .slice none 0 0, .slice none 0 0], []⟩ 8 (by kernel_rfl) (by kernel_rfl) (by kernel_rfl) (by kernel_rfl)) ?_
  intro W base args ds gs before hval0 hW hcnd hsz0 _
  have hsz : (DataW.weightsEach Tryz.prog (Tryz.f4.params.toList ++ Rows.chargeRefundsSpec.plain.varTypes Tryz.prog) (ds ++ gs)).all (· ≤ reachBytes) = true := hsz0
  have hval : ∀ (j : Nat) t v, Tryz.f4.params[j]? = some t → args[j]? = some v → Value.okWide Tryz.prog W .any base t v := hval0
  have hW' := hW
  obtain ⟨p, q, hA0, hV, rfl, hfz, hnd⟩ := hW
  have hA : DataW.TrodAll enc Tryz.prog W 0 (fun _ => true) true Tryz.f4.params.toList args.toList ds p := hA0
  rw [Tryz.params4] at hA hval hsz
  obtain ⟨v0, vs0, d0, ds0, p0, q0, hargs, rfl, rfl, h0, r0⟩ := trodAll_cons hA
  obtain ⟨v1, vs1, d1, ds1, p1, q1, rfl, rfl, rfl, h1, r1⟩ := trodAll_cons r0
  obtain ⟨v2, vs2, d2, ds2, p2, q2, rfl, rfl, rfl, h2, r2⟩ := trodAll_cons r1
  obtain ⟨rfl, rfl, rfl⟩ := trodAll_nil r2
  obtain rfl : args = #[v0, v1, v2] := by cases args; simp_all
  obtain ⟨rfl, rfl⟩ := trodVars_none hV
  have k0 := h0
  have lt0 : ∀ x ∈ p0, x.block < W.heap.size := by obtain ⟨m, hm⟩ := k0; exact DataW.trod_lt m _ _ _ hm
  obtain ⟨A0, t0, rfl, hT0⟩ := open_arg (j := 0) (okWide_struct Tryz.underlying27 (hval 0 27 v0 rfl rfl)) h0 hsz rfl rfl
  have k1 := h1
  have lt1 : ∀ x ∈ p1, x.block < W.heap.size := by obtain ⟨m, hm⟩ := k1; exact DataW.trod_lt m _ _ _ hm
  obtain ⟨a1, c1, l1, rfl, hb1, hc1, hn1⟩ := arg_ous (j := 1) (okWide_slice Tryz.underlying28 (hval 1 28 v1 rfl rfl)) h1 hsz rfl rfl
  have k2 := h2
  have lt2 : ∀ x ∈ p2, x.block < W.heap.size := by obtain ⟨m, hm⟩ := k2; exact DataW.trod_lt m _ _ _ hm
  obtain ⟨a2, c2, l2, rfl, hb2, hc2, hn2⟩ := arg_taps (j := 2) (okWide_slice Tryz.underlying29 (hval 2 29 v2 rfl rfl)) h2 hsz rfl rfl
  clear hA0 hval0
  refine (refunds_walkE W A0 t0 hT0 a1 c1 l1 hb1 (by omega) a2 c2 l2 hb2 (by omega) hc2).mono fun e W' ⟨he, hfr⟩ => ?_
  subst he
  have bel : Below W.heap.size W W' := hfr.below (Nat.le_refl _) (fun k t => t.elim)
  exact ⟨_, rfl, _, _, _, [], _, [], hW', trodAll_mk1 (shut_bool Tryz.underlying4 _), (trodAll_cons_mk (Below.trod laidOut (by kernel_rfl) (of_decide_eq_true (by kernel_rfl)) k0 bel lt0) (trodAll_cons_mk (Below.trod laidOut (by kernel_rfl) (of_decide_eq_true (by kernel_rfl)) k1 bel lt1) (trodAll_cons_mk (Below.trod laidOut (by kernel_rfl) (of_decide_eq_true (by kernel_rfl)) k2 bel lt2) trodAll_mk0))), rfl, bel.frame _, fun h => by cases h⟩

theorem over : Rows.chargeRefundsRow.holds Tryz.pinned (OpenSpec.ofChange Rows.chargeRefundsSpec) :=
  OpenClaim.holds_of_wide 4 Tryz.f4 rfl rfl rfl rfl rfl rfl rfl ⟨rfl, rfl, rfl, rfl, rfl⟩ rfl rfl rfl rfl rfl (by kernel_rfl) Tryz.func4 (by kernel_rfl)
    (of_decide_eq_true (by kernel_rfl)) (by unfold Func.isWrapper; first | (rw [if_pos (by decide +kernel)]; kernel_rfl) | (rw [if_neg (by decide +kernel)]; exact ⟨rfl, rfl⟩))
    (fun os started H enc _ => lifted os started H enc)

end chargeRefunds

/-- THE STATEMENT. -/
theorem chargeRefunds_holds : Rows.ChargeRefundsSaid := chargeRefunds.over
#print axioms chargeRefunds_holds
end Go.Proofs.YtjgbllfppomcmaaGreat

