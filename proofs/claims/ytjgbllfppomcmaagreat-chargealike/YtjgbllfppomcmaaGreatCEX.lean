/- Proved: the law ChargeAlike answers true for every tariff, slice of outages and slice of taps, and its arguments read afterwards as they read before. No condition but the form's own reach. -/
import Derived.Test.YtjgbllfppomcmaaGreatCBZ
import Derived.Test.YtjgbllfppomcmaaGreatCB8
import Derived.Test.YtjgbllfppomcmaaGreatOQX
import Derived.Test.YtjgbllfppomcmaaGreatFRX
import Derived.Test.YtjgbllfppomcmaaGreatOBX
/- A charge hangs on when, where and how alone: mathematics. -/
namespace Go.Proofs.YtjgbllfppomcmaaGreat
open Go.RowKit

def LikeT (x y : Tp) : Prop := x.kind = y.kind ∧ x.place = y.place ∧ x.time = y.time
theorem All2.takeA {α β : Type} {R : α → β → Prop} : ∀ {l : List α} {m : List β} (n : Nat), All2 R l m → All2 R (l.take n) (m.take n)
  | [], [], n, _ => by simp [All2]
  | _ :: _, _ :: _, 0, _ => trivial
  | _ :: _, _ :: _, n + 1, h => ⟨h.1, h.2.takeA n⟩
theorem All2.dropA {α β : Type} {R : α → β → Prop} : ∀ {l : List α} {m : List β} (n : Nat), All2 R l m → All2 R (l.drop n) (m.drop n)
  | [], [], n, _ => by simp [All2]
  | _ :: _, _ :: _, 0, h => h
  | _ :: _, _ :: _, n + 1, h => h.2.dropA n

theorem like_take (T : Tm) (s : Wk) {x y : Tp} (h : LikeT x y) : s.take T x = s.take T y := by
  obtain ⟨d, c, k, q, p, m⟩ := x
  obtain ⟨d', c', k', q', p', m'⟩ := y
  obtain ⟨h1, h2, h3⟩ := h
  simp only at h1 h2 h3
  subst h1 h2 h3
  rfl
theorem like_fold (T : Tm) (l : List Tp) : ∀ (m : List Tp) (s : Wk), All2 LikeT l m → l.foldl (Wk.take T) s = m.foldl (Wk.take T) s := by
  induction l with
  | nil =>
    intro m s h
    cases m with
    | nil => rfl
    | cons y m => exact absurd h (fun q => q)
  | cons x l ih =>
    intro m s h
    cases m with
    | nil => exact absurd h (fun q => q)
    | cons y m =>
      obtain ⟨h1, h2⟩ := h
      rw [List.foldl_cons, List.foldl_cons, like_take T s h1]
      exact ih m _ h2
theorem like_day {t : Tf} {l : List Ou} {a b : List Tp} (h : All2 LikeT a b) : dayD t l a = dayD t l b := by
  have e1 : dayJ t a = dayJ t b := by
    unfold dayJ walkedJ walkedW
    rw [like_fold _ a b _ h]
  have e2 : dayN a = dayN b := by
    cases a with
    | nil => cases b with
      | nil => rfl
      | cons y b => exact absurd h (fun q => q)
    | cons x a => cases b with
      | nil => exact absurd h (fun q => q)
      | cons y b => show dayV x.time = dayV y.time; rw [h.1.2.2]
  unfold dayD dayP
  rw [e1, e2]

theorem like_while (c : Int) : ∀ (a b : List Tp), All2 LikeT a b → (a.takeWhile (fun t => !isLate c t)).length = (b.takeWhile (fun t => !isLate c t)).length
  | [], [], _ => rfl
  | x :: a, y :: b, h => by
    have e : isLate c x = isLate c y := by unfold isLate; rw [h.1.2.2]
    rw [List.takeWhile_cons, List.takeWhile_cons, e]
    cases isLate c y with
    | true => rfl
    | false => simp [like_while c a b h.2]
theorem like_dayLn : ∀ (a b : List Tp), All2 LikeT a b → dayLn a = dayLn b
  | [], [], _ => rfl
  | x :: a, y :: b, h => by
    have e : dEnd x = dEnd y := by unfold dEnd; rw [h.1.2.2]
    show ((x :: a).takeWhile (fun t => !isLate (dEnd x) t)).length = ((y :: b).takeWhile (fun t => !isLate (dEnd y) t)).length
    rw [e]
    exact like_while _ (x :: a) (y :: b) h

theorem like_days (t : Tf) (l : List Ou) : ∀ (n : Nat) (a b : List Tp), All2 LikeT a b → (daysN n a).map (dayD t l) = (daysN n b).map (dayD t l)
  | 0, a, b, _ => rfl
  | _ + 1, [], [], _ => rfl
  | n + 1, x :: a, y :: b, h => by
    have e := like_dayLn (x :: a) (y :: b) h
    show dayD t l ((x :: a).take (dayLn (x :: a))) :: (daysN n ((x :: a).drop (dayLn (x :: a)))).map (dayD t l) = dayD t l ((y :: b).take (dayLn (y :: b))) :: (daysN n ((y :: b).drop (dayLn (y :: b)))).map (dayD t l)
    rw [e, like_day (All2.takeA (dayLn (y :: b)) h), like_days t l n _ _ (All2.dropA (dayLn (y :: b)) h)]

/-- The same is owed. -/
theorem like_owed (t : Tf) (l : List Ou) {a b : List Tp} (h : All2 LikeT a b) (ha : rightT a = 0) (hb : rightT b = 0) : owedE t l a = owedE t l b ∧ owedL t l a = owedL t l b := by
  have e : owedE t l a = owedE t l b := by unfold owedE; rw [ha, hb]
  refine ⟨e, ?_⟩
  unfold owedL daysD daysL
  rw [e, h.length, like_days t l _ a b h]

/-- The taps by another device, with another token. -/
def othZ (i : Nat) (x : Tp) : Tp := ⟨7, 1 + 2 * (i : Int), ⟨#[122, 122, 122, 122, 122, 122, 122, 122]⟩, x.kind, x.place, x.time⟩
def othL : Nat → List Tp → List Tp
  | _, [] => []
  | i, x :: r => othZ i x :: othL (i + 1) r
theorem othL_length : ∀ (l : List Tp) (i : Nat), (othL i l).length = l.length
  | [], _ => rfl
  | _ :: r, i => by simp [othL, othL_length r]
theorem othL_get : ∀ (l : List Tp) (i k : Nat) (h : k < l.length), (othL i l)[k]'(by rw [othL_length]; exact h) = othZ (i + k) l[k]
  | _ :: _, _, 0, _ => rfl
  | _ :: r, i, k + 1, h => by
    have := othL_get r (i + 1) k (by simpa using h)
    simp only [othL, List.getElem_cons_succ]
    rw [this]
    congr 1
    omega
theorem othL_step (l : List Tp) (i : Nat) (hi : i < l.length) : (othL 0 l).take (i + 1) = (othL 0 l).take i ++ [othZ i l[i]] := by
  rw [List.take_succ_eq_append_getElem (by rw [othL_length]; exact hi), othL_get l 0 i hi, Nat.zero_add]
theorem othL_like : ∀ (l : List Tp) (i : Nat), All2 LikeT l (othL i l)
  | [], _ => trivial
  | _ :: r, i => ⟨⟨rfl, rfl, rfl⟩, othL_like r (i + 1)⟩

theorem othZ_ok {x : Tp} (h : tapOk x = true) {k : Nat} (hk : k ≤ 2000) : tapOk (othZ k x) = true := by
  simp only [tapOk, Bool.and_eq_true, isIn_iff] at h ⊢
  obtain ⟨⟨⟨_, h2⟩, _⟩, h4⟩ := h
  refine ⟨⟨⟨⟨⟨by simp [othZ], by simp [othZ]⟩, by simp only [othZ]; omega, by simp only [othZ]; omega⟩, h2⟩, ?_⟩, h4⟩
  show isTok ⟨#[122, 122, 122, 122, 122, 122, 122, 122]⟩ = true
  decide +kernel
theorem othZ_fol {x y : Tp} {i j : Nat} (h : x.time ≤ y.time) (hij : i < j) : folB (othZ j y) (othZ i x) = true := by
  rw [fol_iff, ord_lt]
  refine ⟨rfl, ?_⟩
  show x.time < y.time ∨ (x.time = y.time ∧ ((7 : Int) < 7 ∨ ((7 : Int) = 7 ∧ 1 + 2 * (i : Int) < 1 + 2 * (j : Int))))
  omega
theorem othL_right {l : List Tp} (h : rightT l = 0) : rightT (othL 0 l) = 0 := by
  obtain ⟨hl, hok⟩ := (rightT_zero l).1 h
  refine (rightT_zero _).2 ⟨by rw [othL_length]; exact hl, fun x hx => ?_, ?_⟩
  · obtain ⟨k, hk, rfl⟩ := List.getElem_of_mem hx
    rw [othL_length] at hk
    rw [othL_get l 0 k hk]
    exact othZ_ok (hok.1 _ (List.getElem_mem hk)) (by omega)
  · rw [List.pairwise_iff_getElem]
    intro i j hi hj hij
    rw [othL_length] at hi hj
    rw [othL_get l 0 i hi, othL_get l 0 j hj]
    exact othZ_fol (hok.mono i j (by omega) hj) (by omega)

theorem alike_math (t : Tf) (l : List Ou) {m : List Tp} (h : rightT m = 0) : owedE t l (othL 0 m) = owedE t l m ∧ owedV t l (othL 0 m) = owedV t l m := by
  obtain ⟨h1, h2⟩ := like_owed t l (othL_like m 0) h (othL_right h)
  exact ⟨h1.symm, by unfold owedV; rw [h2]⟩

end Go.Proofs.YtjgbllfppomcmaaGreat

/- The walk of ChargeAlike. -/
namespace Go.Proofs.YtjgbllfppomcmaaGreat
open Go.RowKit

theorem tpV_snocE (l : List Tp) (x : Tp) : tpV (l ++ [x]) = tpV l ++ tpL x := by simp [tpV]
theorem tpL_oneE (x : Tp) : ∀ u ∈ tpL x, u.oneCell' = true := fun u hu => by simp only [tpL, List.mem_cons, List.not_mem_nil, or_false] at hu; rcases hu with rfl | rfl | rfl | rfl | rfl | rfl <;> rfl

/-- A row of taps of one's own, as it grows. -/
structure TLE (w0 w : World) (ao : Option Addr) (cap g : Nat) (L : List Tp) : Prop where
  row : KRow w ao cap g 6 (tpV L)
  new : 0 < cap → w0.heap.size ≤ g
  fr : Fr (fun _ => False) w0 w

theorem TLE.app {w0 w w2 w3 : World} {ao ao' : Option Addr} {cap g cap' g' : Nat} {L : List Tp} (h : TLE w0 w ao cap g L) (hf : Fr (fun _ => False) w w2) (x : Tp) (hr : KRow w3 ao' cap' g' 6 (tpV L ++ tpL x)) (hg : Grew w2 g cap w3 g' cap') : TLE w0 w3 ao' cap' g' (L ++ [x]) := by
  refine ⟨by rw [tpV_snocE]; exact hr, fun hc => ?_, ?_⟩
  · rcases hg with ⟨e, e2, _⟩ | ⟨e, _, _⟩
    · rw [e]; exact h.new (by omega)
    · have := h.fr.size; have := hf.size; omega
  · rcases hg with ⟨_, _, f⟩ | ⟨_, _, f⟩
    · exact (h.fr.trans hf (fun _ _ t => t)).trans f (fun i hi t => by have := h.new t.2; omega)
    · exact (h.fr.trans hf (fun _ _ t => t)).trans f (fun _ _ t => t)

set_option maxRecDepth 100000 in
set_option maxHeartbeats 4000000 in
theorem alike_walkE (w : World) (A : Ad) (t : Tf) (hT : TAt w A t) (ao1 : Option Addr) (cap1 : Nat) (l : List Ou) (hl : CAt w ao1 (ouV l)) (hln : l.length ≤ 140737488355328) (ao0 : Option Addr) (cap0 : Nat) (m : List Tp) (hm : CAt w ao0 (tpV m)) (hml : m.length ≤ 4398046511104) (hcap : m.length ≤ cap0) :
    Calls Tryz.prog 6 #[tv A t, .slice ao1 l.length cap1, .slice ao0 m.length cap0] w fun e w' => e = .returned (.bool true) ∧ Fr (fun _ => False) w w' := by
  have RC := hide (fun (u : World) (hu : Fr (fun _ => False) w u) (bo : Option Addr) (bc : Nat) (k : List Tp) (hk : CAt u bo (tpV k)) (hkl : k.length ≤ 4398046511104) (hkc : k.length ≤ bc) => charge_any u A t (hT.keep hu) ao1 cap1 l (hl.keep hu) hln bo bc k hk hkl hkc)
  have RR := hide (fun (u : World) (hu : Fr (fun _ => False) w u) => jright_any u ao0 cap0 m (hm.keep hu) hml)
  have H := hide hm
  have HTB := hide (TB.new w A t)
  obtain ⟨v, hv⟩ : ∃ v, v = w.alloc (.cells (tc A t) 27) := ⟨_, rfl⟩
  have hFv : Fr (fun _ => False) w v := by rw [hv]; exact (Fr.refl _ _).alloc _
  have HFV := hide hFv
  have HV := hide hv
  rw [← hv] at HTB
  obtain ⟨B, hB⟩ : ∃ B, B = w.heap.size := ⟨_, rfl⟩
  rw [← hB] at HTB
  have HBB := hide hB
  have HE : Hid (owedE t l m = if rightE t = 0 then (if ousE l = 0 then rightT m else ousE l) else rightE t) := hide rfl
  clear hFv hv hT hm hB hl hln
  unfold tv at RC ⊢
  unfold tc at HV RC ⊢
  go_enter Tryz.func6, Tryz.ntmps6
  go_upto_region 1 with (fail)
  rw [← unhide HBB, ← unhide HV]
  clear HV HBB
  go_wp2_with fail
  refine (awake_anyE v).mono ?_
  rintro e w1 ⟨rfl, hF⟩
  have HF1 := hide ((unhide HFV).trans hF (fun _ _ t => t))
  have HTB1 := hide ((unhide HTB).keep hF)
  clear hF HFV HTB
  have RC1 := hide (unhide RC w1 (unhide HF1) ao0 cap0 m ((unhide H).keep (unhide HF1)) hml hcap)
  go_wp2_with (refine wpList_load_tariff rfl (.tmp 3) rfl (g := B) (A := A) (t := t) rfl (unhide HTB1) ?_)
  refine (unhide RC1).mono ?_
  rintro e w2 ⟨rfl, hF⟩
  have HF2 := hide ((unhide HF1).trans hF (fun _ _ t => t))
  have HTB2 := hide ((unhide HTB1).keep hF)
  clear hF HF1 HTB1 RC1
  go_wp2_with fail
  refine (unhide RR w2 (unhide HF2)).mono ?_
  rintro e w3 ⟨rfl, hF⟩
  have HF3 := hide ((unhide HF2).trans hF (fun _ _ t => t))
  have HTB3 := hide ((unhide HTB2).keep hF)
  clear hF HF2 HTB2 RR
  by_cases hr : rightT m = 0
  case neg =>
    have hne : owedE t l m ≠ 0 := by
      rw [unhide HE]
      split
      · split
        · exact hr
        · assumption
      · assumption
    have hv0 : owedV t l m = 0 := by
      unfold owedV owedL
      rw [if_neg hne]
      rfl
    rw [hv0]
    have r2 : (rightT m == 0) = false := by simp [hr]
    have r3 : (rightT m != 0) = true := by simp [hr]
    have q2 : (owedE t l m == 0) = false := by simp [hne]
    have q3 : (owedE t l m != 0) = true := by simp [hne]
    clear hr hne hv0 HE RC H
    generalize owedE t l m = E at *
    generalize rightT m = R at *
    go_wp2
    go_ret
    exact ⟨rfl, unhide HF3⟩
  case pos =>
    obtain ⟨hm2, hok⟩ := (rightT_zero m).1 hr
    have HAM := hide (alike_math t l hr)
    rw [hr]
    clear hr hok HE
    obtain ⟨iz, hiz⟩ := info_of3 tInfo
    have HIZ := hide hiz
    have HM2 := hide hm2
    have HOL : Hid ((othL 0 m).length = m.length) := hide (othL_length m 0)
    have HST0 : Hid (TLE w3 w3 none 0 0 ((othL 0 m).take 0)) := hide ⟨KRow.nil _ _ _, fun h => absurd h (by omega), Fr.refl _ _⟩
    obtain ⟨mn, hmn⟩ : ∃ mn, m.length = mn := ⟨_, rfl⟩
    have HMN := hide hmn
    rw [hmn] at hm2 ⊢
    clear hiz hmn hml hcap
    go_wp2
    go_loopw [11, 12, 13] (fun ov iv _ wr => ∃ (i : Nat) (ao : Option Addr) (cap g : Nat), i ≤ mn ∧ ov = .slice ao i cap ∧ iv = .int .i64 i ∧ Hid (TLE w3 wr ao cap g ((othL 0 m).take i))) (fun _ iv _ _ => mn - (intOf iv).toNat)
    case atStart => exact ⟨0, none, 0, 0, Nat.zero_le _, rfl, rfl, HST0⟩
    case round =>
      obtain ⟨i, ao, cap, g, hi, rfl, rfl, HI⟩ := hrel
      clear HST0
      by_cases hil : i < mn
      · have hltI : (i : Int) < (mn : Int) := by omega
        have hmi : i < m.length := by have := unhide HMN; omega
        have HY := hide (othL_step m i hmi)
        have hFI := (unhide HI).fr
        obtain ⟨b, off, rfl, c0, c1, c2, c3, c4, c5⟩ := (((unhide H).keep (unhide HF3)).keep hFI).tp hmi
        obtain ⟨x, hx⟩ : ∃ x, m[i] = x := ⟨_, rfl⟩
        rw [hx] at HY c0 c1 c2 c3 c4 c5
        obtain ⟨L, hL⟩ : ∃ L, (othL 0 m).take i = L := ⟨_, rfl⟩
        have HLL : Hid (L.length = i) := hide (by rw [← hL, List.length_take, unhide HOL]; omega)
        rw [hL] at HI HY
        have hiJ : (i : Int) ≤ 2000 := by omega
        have w1a : IntKind.i64.wrap (2 * (i : Int)) = 2 * (i : Int) := by rw [IntKind.wrap_i64]; omega
        have w1b : wrap64 (2 * (i : Int)) = 2 * (i : Int) := by unfold wrap64; omega
        have w2a : IntKind.i64.wrap (1 + 2 * (i : Int)) = 1 + 2 * (i : Int) := by rw [IntKind.wrap_i64]; omega
        have w2b : wrap64 (1 + 2 * (i : Int)) = 1 + 2 * (i : Int) := by unfold wrap64; omega
        have HIX := hide (And.intro hil hm2)
        clear hx hL hFI hmi
        go_upto_region 14 with (fail)
        obtain ⟨u, hu⟩ : ∃ u, u = wr.alloc (.cells #[.int .i64 7, .int .i64 (1 + 2 * (i : Int)), .string { data := #[122, 122, 122, 122, 122, 122, 122, 122] }, .int .i64 x.kind, .int .i64 x.place, .int .i64 x.time] 47) := ⟨_, rfl⟩
        have hFu : Fr (fun _ => False) wr u := by rw [hu]; exact (Fr.refl _ _).alloc _
        have hBu : Bx u wr.heap.size #[.int .i64 7, .int .i64 (1 + 2 * (i : Int)), .string { data := #[122, 122, 122, 122, 122, 122, 122, 122] }, .int .i64 x.kind, .int .i64 x.place, .int .i64 x.time] 47 := by rw [hu]; exact Bx.new _ _ _
        have HFU := hide hFu
        obtain ⟨X, hX⟩ : ∃ X, X = wr.heap.size := ⟨_, rfl⟩
        rw [← hX] at hBu
        rw [← hu, ← hX]
        obtain ⟨ax, hax⟩ : ∃ ax, 1 + 2 * (i : Int) = ax := ⟨_, rfl⟩
        have HAX := hide hax
        rw [hax] at hBu ⊢
        have z0 : u.cell? ⟨X, 0, none⟩ = some (.int .i64 7) := hBu.cell 0
        have z1 : u.cell? ⟨X, 1, none⟩ = some (.int .i64 ax) := hBu.cell 1
        have z2 : u.cell? ⟨X, 2, none⟩ = some (.string { data := #[122, 122, 122, 122, 122, 122, 122, 122] }) := hBu.cell 2
        have z3 : u.cell? ⟨X, 3, none⟩ = some (.int .i64 x.kind) := hBu.cell 3
        have z4 : u.cell? ⟨X, 4, none⟩ = some (.int .i64 x.place) := hBu.cell 4
        have z5 : u.cell? ⟨X, 5, none⟩ = some (.int .i64 x.time) := hBu.cell 5
        clear hu hFu hBu hX hax w1a w1b w2a w2b c0 c1 c2 c3 c4 c5
        have HSR : Hid (Src Tryz.prog 6 29 (.slice (some ⟨u.heap.size, 0, none⟩) 1 1) 1 [.int .i64 7, .int .i64 ax, .string { data := #[122, 122, 122, 122, 122, 122, 122, 122] }, .int .i64 x.kind, .int .i64 x.place, .int .i64 x.time] (u.alloc (.cells #[.int .i64 7, .int .i64 ax, .string { data := #[122, 122, 122, 122, 122, 122, 122, 122] }, .int .i64 x.kind, .int .i64 x.place, .int .i64 x.time] 47))) := hide (src_one u [.int .i64 7, .int .i64 ax, .string { data := #[122, 122, 122, 122, 122, 122, 122, 122] }, .int .i64 x.kind, .int .i64 x.place, .int .i64 x.time] 29 47 6 Tryz.underlying29 rfl (fun v hv => by simp only [List.mem_cons, List.not_mem_nil, or_false] at hv; rcases hv with rfl | rfl | rfl | rfl | rfl | rfl <;> rfl) (fun j => by rw [World.cell?_alloc_new]; exact List.getElem?_toArray.symm ▸ rfl))
        have HRW : Hid (KRow (u.alloc (.cells #[.int .i64 7, .int .i64 ax, .string { data := #[122, 122, 122, 122, 122, 122, 122, 122] }, .int .i64 x.kind, .int .i64 x.place, .int .i64 x.time] 47)) ao cap g 6 (tpV L)) := hide ((unhide HI).row.keep (by omega) ((unhide HFU).alloc _))
        have HVL : Hid ((tpV L).length = i * 6) := hide (by rw [tpV_length, unhide HLL])
        go_wp2_with (at_builtin; refine wpList_append_krow _ rfl (.tmp 57) (.tmp 59) 29 29 rfl 47 iz _ 6 (by omega) Tryz.underlying29 (unhide HIZ).1 (unhide HIZ).2.1 rfl (unhide HIZ).2.2.1 rfl (unhide HRW) (unhide HVL) _ [.int .i64 7, .int .i64 ax, .string { data := #[122, 122, 122, 122, 122, 122, 122, 122] }, .int .i64 x.kind, .int .i64 x.place, .int .i64 x.time] 1 rfl (unhide HSR) (by rw [(unhide HIZ).2.2.2]; omega) (by omega) ?_)
        intro ao2 cap2 w4 g2 hrow hgr
        have HTL : Hid (TLE w3 w4 ao2 cap2 g2 ((othL 0 m).take (i + 1))) := hide (by
          rw [unhide HY]
          exact (unhide HI).app ((unhide HFU).alloc _) (othZ i x) (by rw [← unhide HAX] at hrow; exact hrow) hgr)
        clear hrow hgr HRW HSR z0 z1 z2 z3 z4 z5 HFU HAX HVL HY HLL
        go_wp2
        exact ⟨⟨i + 1, ao2, cap2, g2, by have := (unhide HIX).1; omega, rfl, by go_num, HTL⟩, by have := (unhide HIX).1; simp [intOf]; omega⟩
      · obtain rfl : i = mn := by omega
        have hltn : ¬ (i : Int) < (i : Int) := by omega
        obtain ⟨hrow, hnew, hfr⟩ := unhide HI
        have hall : (othL 0 m).take i = othL 0 m := by rw [← unhide HMN, ← unhide HOL, List.take_length]
        rw [hall] at hrow
        have hrle := hrow.le
        rw [tpV_length, unhide HOL, unhide HMN] at hrle
        have hwf := (unhide HF3).trans hfr (fun _ _ t => t)
        have RC3 := unhide RC wr hwf ao cap (othL 0 m) hrow.cat (by rw [unhide HOL, unhide HMN]; omega) (by rw [unhide HOL, unhide HMN]; omega)
        rw [unhide HOL, unhide HMN, (unhide HAM).1, (unhide HAM).2] at RC3
        have HR3 := hide RC3
        have HTB4 := hide ((unhide HTB3).keep hfr)
        have HF4 := hide hwf
        generalize owedE t l m = E at *
        generalize owedV t l m = V at *
        clear hrow hnew hfr hall hrle hwf RC3 HI HTB3 HF3 RC H HAM HOL HMN
        go_wp2_with (refine wpList_load_tariff rfl (.tmp 3) rfl (g := B) (A := A) (t := t) rfl (unhide HTB4) ?_)
        refine (unhide HR3).mono ?_
        rintro e w5 ⟨rfl, hF⟩
        have HF5 := hide ((unhide HF4).trans hF (fun _ _ t => t))
        clear hF HF4 HTB4 HR3
        go_wp2
        go_ret
        exact ⟨rfl, unhide HF5⟩

end Go.Proofs.YtjgbllfppomcmaaGreat

namespace Go.Proofs.YtjgbllfppomcmaaGreat
open Go.ChangeShapes Go.WideShapes Go.ChangeAt Go.RowKit Go.Deep

namespace chargeAlike

set_option maxRecDepth 100000 in
theorem lifted (os : Os) (started : os.Started) (H : Type) (enc : TypeId × Value → H) :
    ReturnsInHanded {} Tryz.checked os 6 .any (Rows.chargeAlikeSpec.pre6 enc Tryz.prog Tryz.f6 Rows.chargeAlikeRow.domain false) (Rows.chargeAlikeSpec.post enc Tryz.prog Tryz.f6 false true false false) := by
  refine returnsInHanded_of_change_sized (C := Tryz.checked) own started (by kernel_rfl) Tryz.func6
    (ChangeSpec.witness6 (enc := enc) (C := Tryz.checked) false ⟨#[], #[.agg #[.slice none 0 0, .slice none 0 0, .slice none 0 0, .float .f64 0, .int .i64 0, .int .i64 0, .int .i64 0, .int .i64 0, .int .i64 0, .int .i64 0, .int .i64 0, .int .i64 0, .int .i64 0, .int .i64 0], .slice none 0 0, .slice none 0 0], []⟩ 8 (by kernel_rfl) (by kernel_rfl) (by kernel_rfl) (by kernel_rfl)) ?_
  intro W base args ds gs before hval0 hW hcnd hsz0 _
  have hsz : (DataW.weightsEach Tryz.prog (Tryz.f6.params.toList ++ Rows.chargeAlikeSpec.plain.varTypes Tryz.prog) (ds ++ gs)).all (· ≤ reachBytes) = true := hsz0
  have hval : ∀ (j : Nat) t v, Tryz.f6.params[j]? = some t → args[j]? = some v → Value.okWide Tryz.prog W .any base t v := hval0
  have hW' := hW
  obtain ⟨p, q, hA0, hV, rfl, hfz, hnd⟩ := hW
  have hA : DataW.TrodAll enc Tryz.prog W 0 (fun _ => true) true Tryz.f6.params.toList args.toList ds p := hA0
  rw [Tryz.params6] at hA hval hsz
  obtain ⟨v0, vs0, d0, ds0, p0, q0, hargs, rfl, rfl, h0, r0⟩ := trodAll_cons hA
  obtain ⟨v1, vs1, d1, ds1, p1, q1, rfl, rfl, rfl, h1, r1⟩ := trodAll_cons r0
  obtain ⟨v2, vs2, d2, ds2, p2, q2, rfl, rfl, rfl, h2, r2⟩ := trodAll_cons r1
  obtain ⟨rfl, rfl, rfl⟩ := trodAll_nil r2
  obtain rfl : args = #[v0, v1, v2] := by cases args; simp_all
  obtain ⟨rfl, rfl⟩ := trodVars_none hV
  have k0 := h0
  have lt0 : ∀ x ∈ p0, x.block < W.heap.size := by obtain ⟨m, hm⟩ := k0; exact DataW.trod_lt m _ _ _ hm
  obtain ⟨A0, t0, rfl, hT0⟩ := open_arg (j := 0) (okWide_struct Tryz.underlying27 (hval 0 27 v0 rfl rfl)) h0 hsz rfl rfl
  have k1 := h1
  have lt1 : ∀ x ∈ p1, x.block < W.heap.size := by obtain ⟨m, hm⟩ := k1; exact DataW.trod_lt m _ _ _ hm
  obtain ⟨a1, c1, l1, rfl, hb1, hc1, hn1⟩ := arg_ous (j := 1) (okWide_slice Tryz.underlying28 (hval 1 28 v1 rfl rfl)) h1 hsz rfl rfl
  have k2 := h2
  have lt2 : ∀ x ∈ p2, x.block < W.heap.size := by obtain ⟨m, hm⟩ := k2; exact DataW.trod_lt m _ _ _ hm
  obtain ⟨a2, c2, l2, rfl, hb2, hc2, hn2⟩ := arg_taps (j := 2) (okWide_slice Tryz.underlying29 (hval 2 29 v2 rfl rfl)) h2 hsz rfl rfl
  clear hA0 hval0
  refine (alike_walkE W A0 t0 hT0 a1 c1 l1 hb1 (by omega) a2 c2 l2 hb2 (by omega) hc2).mono fun e W' ⟨he, hfr⟩ => ?_
  subst he
  have bel : Below W.heap.size W W' := hfr.below (Nat.le_refl _) (fun k t => t.elim)
  exact ⟨_, rfl, _, _, _, [], _, [], hW', trodAll_mk1 (shut_bool Tryz.underlying4 _), (trodAll_cons_mk (Below.trod laidOut (by kernel_rfl) (of_decide_eq_true (by kernel_rfl)) k0 bel lt0) (trodAll_cons_mk (Below.trod laidOut (by kernel_rfl) (of_decide_eq_true (by kernel_rfl)) k1 bel lt1) (trodAll_cons_mk (Below.trod laidOut (by kernel_rfl) (of_decide_eq_true (by kernel_rfl)) k2 bel lt2) trodAll_mk0))), rfl, bel.frame _, fun h => by cases h⟩

theorem over : Rows.chargeAlikeRow.holds Tryz.pinned (OpenSpec.ofChange Rows.chargeAlikeSpec) :=
  OpenClaim.holds_of_wide 6 Tryz.f6 rfl rfl rfl rfl rfl rfl rfl ⟨rfl, rfl, rfl, rfl, rfl⟩ rfl rfl rfl rfl rfl (by kernel_rfl) Tryz.func6 (by kernel_rfl)
    (of_decide_eq_true (by kernel_rfl)) (by unfold Func.isWrapper; first | (rw [if_pos (by decide +kernel)]; kernel_rfl) | (rw [if_neg (by decide +kernel)]; exact ⟨rfl, rfl⟩))
    (fun os started H enc _ => lifted os started H enc)

end chargeAlike

/-- THE STATEMENT. -/
theorem chargeAlike_holds : Rows.ChargeAlikeSaid := chargeAlike.over
#print axioms chargeAlike_holds
end Go.Proofs.YtjgbllfppomcmaaGreat

